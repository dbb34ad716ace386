"""What a thing of any kind is: whole numbers, tuples of a length, rising and sorted rows."""


def is_whole(thing):
    """Whether it is a whole number; truths are ints to Python, but none here."""
    return isinstance(thing, int) and not isinstance(thing, bool)


def is_row(thing, count):
    """Whether it is a tuple of just so many things."""
    return isinstance(thing, tuple) and len(thing) == count


def is_rising(row):
    """Whether each thing of the tuple or list is less than the next one."""
    return all([one < other for one, other in zip(row, row[1:])])


def is_sorted(row):
    """Whether no thing of the tuple or list is greater than the next one."""
    return not any([other < one for one, other in zip(row, row[1:])])


def is_told(thing, word, count):
    """Whether it is a tuple of just so many things, that word the first one."""
    return is_row(thing, count) and isinstance(thing[0], str) and thing[0] == word
