import PyProof.Rows.All
import Wide.All
import OpenK.AllK
import Wide.FinOn
import Lean
import PyProof.EqAt
import PyProof.EqKinds
import PyProof.TupleCall
import PyProof.DictRoadsH
import PyProof.DictRoads
import PyProof.DictIter
import PyProof.CompUse
import PyProof.SumWalkG
import KE.KSort
import PyProof.EnumMake
import PyProof.Rows.ZipGen
import PyProof.Rows.RuleDivmod
import PyProof.ListRange
import KE.KDictSum
import KE.KSortTup
import PyProof.DictCompW
import PyProof.ListMulAny
import PyProof.ReprRoads
import PyProof.FitsInt
import PyProof.Rows.SortRuns
import PyProof.Rows.SortRun
import PySem.Challenge.RW_twainhoard_k22_sums_of_papers
set_option Elab.async false
set_option compiler.extract_closed false
set_option genSizeOf false
set_option genInjectivity false
set_option bootstrap.genMatcherCode false
set_option linter.all false
set_option maxRecDepth 100000
open List (perm_append_comm append_assoc take_sublist mem_of_mem_take drop_drop mem_of_mem_drop take_length length_drop take_zero take_add_one take_drop nil_append getElem?_eq_getElem mem_range nodup_cons of_mem_zip length_nil map_nil length_set all_cons any_cons find?_cons nodup_nil ext_getElem? all_eq_true map_id cons_append)
open Option (isSome_iff_exists getD_none isSome_map bind_some)
open PySem.Heap (get?_update_ne)
abbrev zA:=@PySem.wpAny_bind
abbrev zB:=@PyProof.Rows.wpS_bind
abbrev zC:=@Nat.le_refl
abbrev zD:=@PySem.wpAny_pure
abbrev zE:=@List.getElem?_eq_some_iff
abbrev zF:=@PyProof.Rows.wpS_pure
abbrev zG:=@Nat.lt_of_lt_of_le
abbrev zH:=@List.length_map
abbrev zI:=@PySem.Heap.get?_push_of_some
abbrev zJ:=@Nat.le_trans
abbrev zK:=@Array.length_toList
abbrev zL:=@List.getElem?_set_ne
abbrev zM:=@Array.getElem?_toList
abbrev zN:=@List.mem_cons_of_mem
abbrev zO:=@List.length_append
abbrev zP:=@List.size_toArray
abbrev zQ:=@List.map_cons
abbrev zR:=@List.mem_cons_self
abbrev zS:=@Bool.false_ne_true
abbrev zT:=@Nat.pow_le_pow_right
abbrev zU:=@List.getElem?_append_left
abbrev zV:=@List.mem_singleton
abbrev zW:=@Nat.ne_of_lt
abbrev zZ:=@List.getElem?_append_right
abbrev qA:=@PySem.Heap.lt_size
abbrev qB:=@decide_eq_false
abbrev qC:=@List.length_cons
abbrev qD:=@PySem.wpAny_mono
abbrev qE:=@List.getElem?_map
abbrev qF:=@List.length_take
abbrev qG:=@List.mem_cons
abbrev qH:=@decide_eq_true
abbrev qI:=@PySem.W.mg_of
abbrev qJ:=@PySem.W.mg_none_of
abbrev qK:=@PySem.Heap.get?_push_size
abbrev qL:=@PySem.PassesOwn.never
abbrev qM:=@List.mem_append_right
abbrev qN:=@Ne.symm
abbrev qO:=@PySem.wpAny_holding
abbrev qP:=@PyProof.Rows.wpS_forRange
abbrev qQ:=@PyProof.Rows.slot_tuple_getitem
abbrev qR:=@List.append_assoc
abbrev qS:=@Option.some.inj
abbrev qT:=@List.getElem?_cons_succ
abbrev qU:=@Int.natAbs_natCast
abbrev qV:=@Nat.mul_le_mul_right
abbrev qW:=@Nat.zero_le
abbrev qX:=@PySem.Heap.SameBut.update
abbrev qY:=@List.take_of_length_le
abbrev qZ:=@Bool.false_eq_true
abbrev jA:=@Array.perm_iff_toList_perm
abbrev jB:=@List.drop_of_length_le
abbrev jC:=@PySem.wpAny_newObj_type
abbrev jD:=@if_true
abbrev jE:=@List.take_append_drop
abbrev jF:=@PySem.wpAny_call_entry
abbrev jG:=@List.replicate_succ
abbrev jH:=@PySem.F.slot_dict_keyiterator_next
abbrev jI:=@PySem.wpAny_callSpecial?_slot
abbrev jJ:=@List.mem_map
abbrev jK:=@List.map_map
abbrev jL:=@Nat.sub_self
abbrev jM:=@List.mem_append
abbrev jN:=@PySem.wpAny_rule
abbrev jO:=@List.zip_cons_cons
abbrev jP:=@PyProof.Rows.wpS_mono
abbrev jQ:=@Bool.and_eq_true
abbrev jR:=@List.map_congr_left
abbrev jS:=@Option.map_some
abbrev jT:=@PySem.W.kia_one
abbrev jU:=@List.getElem?_drop
abbrev jV:=@List.getElem?_take
abbrev jW:=@List.drop_append_of_le_length
abbrev jX:=@PySem.wpAny_typeNameOfWhole_keyiter
abbrev jY:=@List.getElem?_eq_getElem
abbrev jZ:=@List.mem_iff_getElem?
abbrev xA:=@if_false
abbrev xB:=@List.mem_of_getElem?
abbrev xC:=@PySem.wpAny_passesOwn
abbrev xD:=@List.getD_eq_getElem?_getD
abbrev xE:=@List.map_append
abbrev xF:=@List.drop_zero
abbrev xG:=@Int.natAbs_mul
abbrev xH:=@Nat.zero_add
abbrev xI:=@PySem.Heap.get?_update_self
abbrev xJ:=@PySem.wpAny_typeNameOf_keyiter
abbrev xK:=@PySem.mem_of_lookup
abbrev xL:=@List.getElem?_cons_zero
abbrev xM:=@PySem.Paired.length
abbrev xN:=@Nat.lt_irrefl
abbrev xO:=@List.pairwise_append
abbrev xP:=@List.append_nil
abbrev xQ:=@Nat.lt_of_le_of_lt
abbrev xR:=@List.getElem_cons_drop
abbrev xS:=@PyProof.Rows.subscriptTail_builtinR
abbrev xT:=@Array.getElem?_eq_none
abbrev xU:=@Int.toNat_natCast
abbrev xV:=@List.flatten_cons
noncomputable section
set_option maxHeartbeats 1000000
local macro_rules | `(tactic| walk_at "o") => `(tactic| first | lia | omega)
namespace Z
open PySem PyProof.Rows
def gallop':Bool->Keyed->Array Keyed->Nat->Nat->Nat->StateT SortSt Sem (Option Nat):=sortPriv% PySem.Builtin.gallop
def mergeLo':Array Keyed->Array Keyed->StateT SortSt Sem (Array Keyed):=sortPriv% PySem.Builtin.mergeLo
def mergeHi':Array Keyed->Array Keyed->StateT SortSt Sem (Array Keyed):=sortPriv% PySem.Builtin.mergeHi
def setMinGallop':Nat->StateT SortSt Sem Unit:=sortPriv% PySem.Builtin.setMinGallop
def beyond' (left:Bool) (key:Keyed) (arr:Array Keyed) (base i:Nat):StateT SortSt Sem (Option Bool):=do
 let x <-elem' arr (base+i)
 if left then lt' x key else return (<-lt' key x).map (!·)
theorem a1C (left:Bool)(key:Keyed)(arr:Array Keyed)(base n hint:Nat):gallop' left key arr base n hint=(do
 let mut lastofs:=0
 let mut ofs:=1
 let mut lo:=0
 let mut hi:=0
 let some right <-beyond' left key arr base hint|return none
 if right then
  let maxofs:=n-hint
  for _ in [0:n] do
   if ofs≥maxofs then break
   let some more <-beyond' left key arr base (hint+ofs)|return none
   if !more then break
   lastofs:=ofs
   ofs:=2*ofs+1
  lo:=hint+lastofs+1
  hi:=hint+min ofs maxofs
 else
  let maxofs:=hint+1
  for _ in [0:n] do
   if ofs≥maxofs then break
   let some found <-beyond' left key arr base (hint-ofs)|return none
   if found then break
   lastofs:=ofs
   ofs:=2*ofs+1
  lo:=hint+1-min ofs maxofs
  hi:=hint-lastofs
 for _ in [0:n] do
  if lo≥hi then break
  let m:=lo+(hi-lo)/2
  let some more <-beyond' left key arr base m|return none
  if more then lo:=m+1 else hi:=m
 return some hi):=rfl
theorem N4 (g:Nat):setMinGallop' g=modify (fun s=>SortSt.mk' (kindOf s) (arrOf s) (pendingOf s) g (failedOf s)):=rfl
section
variable {prog:Program}{w:World}{A:Around}{E:Value->Shared->Prop}{s:Shared}{κ:SortKind}{blt:Keyed->Keyed->Bool}{S:Keyed->Prop}
def Cmp (prog:Program) (w:World) (A:Around) (E:Value->Shared->Prop) (s:Shared) (κ:SortKind) (blt:Keyed->Keyed->Bool) (S:Keyed->Prop):Prop:=
 ∀x y,S x->S y->∀(st:SortSt) (Q:Option Bool->SortSt->Prop),kindOf st=κ->Q (some (blt x y)) st->wpS (model prog w) A E s (lt' x y) Q st
def bey (blt:Keyed->Keyed->Bool) (left:Bool) (key x:Keyed):Bool:=if left then blt x key else !(blt key x)
theorem i0 {arr:Array Keyed}{i:Nat}{x:Keyed}{st:SortSt}{Q:Keyed->SortSt->Prop}(hx:arr[i]? =some x)(h:Q x st):wpS (model prog w) A E s (elem' arr i) Q st:=by
 rw[elem'_eq,hx];exact zF h
theorem a3a (hC:Cmp prog w A E s κ blt S){left:Bool}{key x:Keyed}{arr:Array Keyed}{base i:Nat}{st:SortSt}{Q:Option Bool->SortSt->Prop}(hk:kindOf st=κ)(hx:arr[base+i]? =some x)(hS:S x)(hK:S key)
  (h:Q (some (bey blt left key x)) st):wpS (model prog w) A E s (beyond' left key arr base i) Q st:=by
 unfold beyond';refine zB (i0 hx ?_);unfold bey at h;cases left with
 | true=>exact hC x key hS hK st Q hk h
 | false=>exact zB (hC key x hK hS st _ hk (zF h))
def Cut (f:Nat->Bool) (n k:Nat):Prop:=k<=n/\(∀i,i<k->f i=true)/\∀i,k<=i->i<n->f i=false
def findM (left:Bool) (key:Keyed) (arr:Array Keyed) (base n lo hi:Nat):StateT SortSt Sem (Option (Option Nat)×Nat×Nat):=
 forIn [:n] ((none,lo,hi):Option (Option Nat)×Nat×Nat) fun _ __s=>
  if __s.snd.fst≥__s.snd.snd then pure (ForInStep.done (none,__s.snd.fst,__s.snd.snd))
  else do
   let __x <-beyond' left key arr base (__s.snd.fst+(__s.snd.snd-__s.snd.fst)/2)
   match __x with
    | some more=>
     if more=true then pure (ForInStep.yield (none,__s.snd.fst+(__s.snd.snd-__s.snd.fst)/2+1,__s.snd.snd))
     else pure (ForInStep.yield (none,__s.snd.fst,__s.snd.fst+(__s.snd.snd-__s.snd.fst)/2))
    | _=>pure (ForInStep.done (some none,__s.snd.fst,__s.snd.snd))
theorem a2Z {left:Bool}{key:Keyed}{arr:Array Keyed}{base n lo hi:Nat}{st:SortSt}{Q:Option Nat->SortSt->Prop}{f:Nat->Bool}{F:Option (Option Nat)×Nat×Nat->StateT SortSt Sem (Option Nat)}
  (ask:∀i,i<n->∀Q':Option Bool->SortSt->Prop,Q' (some (f i)) st->wpS (model prog w) A E s (beyond' left key arr base i) Q' st)
  (hf:∀i j,i<=j->j<n->f j=true->f i=true) (h0:lo<=hi) (h1:hi<=n) (h2:∀i,i<lo->f i=true) (h3:∀i,hi<=i->i<n->f i=false) (h:∀k,Cut f n k->wpS (model prog w) A E s (F (none,k,k)) Q st):
  wpS (model prog w) A E s (findM left key arr base n lo hi >>=F) Q st:=by
 unfold findM
 refine zB (jP (qP (I:=fun x c st'=>st'=st/\∃l r,c=(none,l,r)/\l<=r/\r<=n/\r-l<=n-x/\(∀i,i<l->f i=true)/\∀i,r<=i->i<n->f i=false)
  (Q:=fun c st'=>st'=st/\∃r,c=(none,r,r)/\r<=n/\(∀i,i<r->f i=true)/\∀i,r<=i->i<n->f i=false) ?step ?fin ⟨rfl,lo,hi,rfl,h0,h1,by walk_at "o",h2,h3⟩) ?post)
 case step=>
  rintro x c st' _ hx ⟨rfl,l,r,rfl,a0,a1,a2,a3,a4⟩;dsimp only
  by_cases hlr:l≥r
  ·rw[if_pos hlr]
   have:l=r:=by walk_at "o"
   subst this;exact zF ⟨rfl,l,rfl,a1,a3,a4⟩
  ·rw[if_neg hlr];generalize hm:l+(r-l)/2=m;have m1:l<=m:=by walk_at "o"
   have m2:m<r:=by walk_at "o"
   refine zB (ask m (by walk_at "o") _ ?_)
   dsimp only;cases e:f m with
   | true=>
    rw[if_pos rfl];exact zF ⟨rfl,m+1,r,rfl,by walk_at "o",a1,by walk_at "o",fun i hi=>hf i m (by walk_at "o") (by walk_at "o") e,a4⟩
   | false=>
    rw[if_neg (by simp)]
    refine zF ⟨rfl,l,m,rfl,m1,by walk_at "o",by walk_at "o",a3,fun i hi hn=>?_⟩
    cases e2:f i with
    | false=>rfl
    | true=>rw[hf m i hi hn e2] at e;cases e
 case fin=>
  rintro c st' ⟨rfl,l,r,rfl,a0,a1,a2,a3,a4⟩
  have:l=r:=by walk_at "o"
  subst this;exact⟨rfl,l,rfl,a1,a3,a4⟩
 case post=>
  rintro c st' ⟨rfl,r,rfl,a1,a3,a4⟩;exact h r ⟨a1,a3,a4⟩
theorem a29 (hC:Cmp prog w A E s κ blt S){left:Bool}{key:Keyed}{arr:Array Keyed}{base n hint:Nat}{st:SortSt}{Q:Option Nat->SortSt->Prop}{f:Nat->Bool}(hk:kindOf st=κ)(hK:S key)(hn:hint<n)
  (hx:∀i,i<n->∃x,arr[base+i]? =some x/\S x/\bey blt left key x=f i) (hf:∀i j,i<=j->j<n->f j=true->f i=true) (h:∀k,Cut f n k->Q (some k) st):wpS (model prog w) A E s (gallop' left key arr base n hint) Q st:=by
 have ask:∀i,i<n->∀Q':Option Bool->SortSt->Prop,Q' (some (f i)) st->wpS (model prog w) A E s (beyond' left key arr base i) Q' st:=fun i hi Q' hq=>by
  obtain⟨x,h1,h2,h3⟩:=hx i hi;exact a3a hC hk h1 h2 hK (by rw[h3];exact hq)
 have hff:∀i j,i<=j->j<n->f i=false->f j=false:=fun i j h1 h2 h3=>by
  cases e:f j with
  | false=>rfl
  | true=>rw[hf i j h1 h2 e] at h3;cases h3
 rw[a1C];refine zB (ask hint hn _ ?_);dsimp only;cases hr:f hint with
 | true=>
  rw[if_pos rfl]
  refine zB (jP (qP (I:=fun x c st'=>st'=st/\∃l o,c=(none,l,o)/\l<o/\x+1<=o/\hint+l<n/\f (hint+l)=true)
   (Q:=fun c st'=>st'=st/\∃l o,c=(none,l,o)/\l<o/\hint+l<n/\f (hint+l)=true/\(o≥n-hint\/f (hint+o)=false)) ?step ?fin ⟨rfl,0,1,rfl,by walk_at "o",by walk_at "o",hn,hr⟩) ?post)
  case step=>
   rintro x c st' _ hxn ⟨rfl,l,o,rfl,a0,a1,a2,a3⟩;dsimp only
   by_cases ho:o≥n-hint
   ·rw[if_pos ho];exact zF ⟨rfl,l,o,rfl,a0,a2,a3,.inl ho⟩
   ·rw[if_neg ho];refine zB (ask (hint+o) (by walk_at "o") _ ?_)
    dsimp only;cases e:f (hint+o) with
    | true=>rw[if_neg (by simp)];exact zF ⟨rfl,o,2*o+1,rfl,by walk_at "o",by walk_at "o",by walk_at "o",e⟩
    | false=>rw[if_pos (by simp)];exact zF ⟨rfl,l,o,rfl,a0,a2,a3,.inr e⟩
  case fin=>
   rintro c st' ⟨rfl,l,o,rfl,a0,a1,a2,a3⟩;exact⟨rfl,l,o,rfl,a0,a2,a3,.inl (by walk_at "o")⟩
  case post=>
   rintro c st' ⟨rfl,l,o,rfl,a0,a2,a3,a4⟩;dsimp only;refine a2Z (lo:=hint+l+1) (hi:=hint+min o (n-hint)) ask hf (by walk_at "o") (by walk_at "o") (fun i hi=>hf i (hint+l) (by walk_at "o") a2 a3) (fun i h1 h2=>?_) fun k hc=>zF (h k hc)
   rcases a4 with a4|a4
   ·walk_at "o"
   ·exact hff (hint+o) i (by walk_at "o") h2 a4
 | false=>
  rw[if_neg (by simp)]
  refine zB (jP (qP (I:=fun x c st'=>st'=st/\∃l o,c=(none,l,o)/\l<o/\x+1<=o/\l<=hint/\f (hint-l)=false)
   (Q:=fun c st'=>st'=st/\∃l o,c=(none,l,o)/\l<o/\l<=hint/\f (hint-l)=false/\(o≥hint+1\/f (hint-o)=true)) ?step ?fin ⟨rfl,0,1,rfl,by walk_at "o",by walk_at "o",by walk_at "o",hr⟩) ?post)
  case step=>
   rintro x c st' _ hxn ⟨rfl,l,o,rfl,a0,a1,a2,a3⟩;dsimp only
   by_cases ho:o≥hint+1
   ·rw[if_pos ho];exact zF ⟨rfl,l,o,rfl,a0,a2,a3,.inl ho⟩
   ·rw[if_neg ho];refine zB (ask (hint-o) (by walk_at "o") _ ?_)
    dsimp only;cases e:f (hint-o) with
    | false=>rw[if_neg (by simp)];exact zF ⟨rfl,o,2*o+1,rfl,by walk_at "o",by walk_at "o",by walk_at "o",e⟩
    | true=>rw[if_pos rfl];exact zF ⟨rfl,l,o,rfl,a0,a2,a3,.inr e⟩
  case fin=>
   rintro c st' ⟨rfl,l,o,rfl,a0,a1,a2,a3⟩;exact⟨rfl,l,o,rfl,a0,a2,a3,.inl (by walk_at "o")⟩
  case post=>
   rintro c st' ⟨rfl,l,o,rfl,a0,a2,a3,a4⟩;dsimp only;refine a2Z (lo:=hint+1-min o (hint+1)) (hi:=hint-l) ask hf (by walk_at "o") (by walk_at "o") (fun i hi=>?_) (fun i h1 h2=>hff (hint-l) i (by walk_at "o") h2 a3) fun k hc=>zF (h k hc)
   rcases a4 with a4|a4
   ·walk_at "o"
   ·exact hf i (hint-o) (by walk_at "o") (by walk_at "o") a4
end
theorem a09 (a b:Array Keyed):mergeLo' a b=(do
 rule "list.sort.merge-lo"
 let total:=a.size+b.size
 let done (out:Array Keyed) (ia ib:Nat):=out++a.extract ia a.size++b.extract ib b.size
 let lastOfA (out:Array Keyed) (ia ib:Nat):=out++b.extract ib b.size++a.extract ia a.size
 let mut out:Array Keyed:= #[<-elem' b 0]
 let mut ia:=0
 let mut ib:=1
 if ib==b.size then return done out ia ib
 if ia+1==a.size then return lastOfA out ia ib
 let mut minGallop:=gallopOf (<-get)
 for _ in [0:total] do
  let mut acount:=0
  let mut bcount:=0
  for _ in [0:total] do
   let some bWins <-lt' (<-elem' b ib) (<-elem' a ia)|return done out ia ib
   if bWins then
    out:=out.push (<-elem' b ib);ib:=ib+1;bcount:=bcount+1;acount:=0
    if ib==b.size then return done out ia ib
    if bcount≥minGallop then break
   else
    out:=out.push (<-elem' a ia);ia:=ia+1;acount:=acount+1;bcount:=0
    if ia+1==a.size then return lastOfA out ia ib
    if acount≥minGallop then break
  rule "list.sort.gallop"
  minGallop:=minGallop+1
  for _ in [0:total] do
   if minGallop>1 then minGallop:=minGallop-1
   setMinGallop' minGallop
   let some k <-gallop' false (<-elem' b ib) a ia (a.size-ia) 0|return done out ia ib
   acount:=k
   if k>0 then
    out:=out++a.extract ia (ia+k);ia:=ia+k
    if ia+1==a.size then return lastOfA out ia ib
    if ia==a.size then return done out ia ib
   out:=out.push (<-elem' b ib);ib:=ib+1
   if ib==b.size then return done out ia ib
   let some k <-gallop' true (<-elem' a ia) b ib (b.size-ib) 0|return done out ia ib
   bcount:=k
   if k>0 then
    out:=out++b.extract ib (ib+k);ib:=ib+k
    if ib==b.size then return done out ia ib
   out:=out.push (<-elem' a ia);ia:=ia+1
   if ia+1==a.size then return lastOfA out ia ib
   if acount<7&&bcount<7 then break
  minGallop:=minGallop+1
  setMinGallop' minGallop
 unsupported "internal:list.sort.merge-bound"):=rfl
def Le (blt:Keyed->Keyed->Bool) (x y:Keyed):Prop:=blt y x=false
structure Tot (blt:Keyed->Keyed->Bool) (S:Keyed->Prop):Prop where
 tr:∀x y z,S x->S y->S z->Le blt x y->Le blt y z->Le blt x z
 as:∀x y,S x->S y->blt x y=true->Le blt x y
structure Mi (blt:Keyed->Keyed->Bool) (a b out:List Keyed) (ia ib:Nat):Prop where
 la:ia<=a.length
 lb:ib<=b.length
 pe:out.Perm (a.take ia++b.take ib)
 so:out.Pairwise (Le blt)
 oa:∀x∈out,∀y∈a.drop ia,Le blt x y
 ob:∀x∈out,∀y∈b.drop ib,Le blt x y
section
variable {blt:Keyed->Keyed->Bool}{a b out r:List Keyed}{ia ib k:Nat}
theorem Mi.symm (h:Mi blt a b out ia ib):Mi blt b a out ib ia:=⟨h.lb,h.la,h.pe.trans perm_append_comm,h.so,h.ob,h.oa⟩
theorem Mi.add (h:Mi blt a b out ia ib)(hk:ia+k<=a.length)(sA:a.Pairwise (Le blt))(hl:∀x∈(a.drop ia).take k,∀y∈b.drop ib,Le blt x y):Mi blt a b (out++(a.drop ia).take k) (ia+k) ib where
 la:=hk
 lb:=h.lb
 pe:=by
  rw[List.take_add];refine(List.Perm.append_right _ h.pe).trans ?_;rw[qR,qR];exact List.Perm.append_left _ perm_append_comm
 so:=xO.mpr ⟨h.so,(sA.sublist (List.drop_sublist _ _)).sublist (take_sublist _ _),fun x hx y hy=>h.oa x hx y (mem_of_mem_take hy)⟩
 oa:=fun x hx y hy=>by
  rw[<-drop_drop] at hy;rcases jM.mp hx with z|z
  ·exact h.oa x z y (mem_of_mem_drop hy)
  ·have p:=sA.sublist (List.drop_sublist ia a);rw[<-jE k (a.drop ia)] at p;exact(xO.mp p).2.2 x z y hy
 ob:=fun x hx y hy=>by
  rcases jM.mp hx with z|z
  ·exact h.ob x z y hy
  ·exact hl x z y hy
def Gd (blt:Keyed->Keyed->Bool) (a b r:List Keyed):Prop:=r.Perm (a++b)/\r.Pairwise (Le blt)
theorem Mi.all (h:Mi blt a b out a.length b.length):Gd blt a b out:=⟨by have:=h.pe;rwa [take_length,take_length] at this,h.so⟩
theorem Mi.doneB (h:Mi blt a b out ia b.length)(sA:a.Pairwise (Le blt)):Gd blt a b (out++a.drop ia):=by
 have:=h.add (k:=a.length-ia) (by have:=h.la;walk_at "o") sA fun x _ y hy=>by rw[List.drop_length] at hy;cases hy
 rw[show ia+(a.length-ia)=a.length by have:=h.la;walk_at "o",qY (by rw[length_drop];walk_at "o")] at this
 exact this.all
theorem Gd.symm (h:Gd blt a b r):Gd blt b a r:=⟨h.1.trans perm_append_comm,h.2⟩
theorem Mi.doneA (h:Mi blt a b out a.length ib)(sB:b.Pairwise (Le blt)):Gd blt a b (out++b.drop ib):=(h.symm.doneB sB).symm
theorem Mi.last (h:Mi blt a b out ia ib)(sA:a.Pairwise (Le blt))(sB:b.Pairwise (Le blt))(hl:∀x∈b,∀y∈a.drop ia,Le blt x y):Gd blt a b (out++b.drop ib++a.drop ia):=by
 have:=h.symm.add (k:=b.length-ib) (by have:=h.lb;walk_at "o") sB fun x hx y hy=>hl x (mem_of_mem_drop (mem_of_mem_take hx)) y hy
 rw[show ib+(b.length-ib)=b.length by have:=h.lb;walk_at "o",qY (by rw[length_drop];walk_at "o")] at this
 exact this.symm.doneB sA
end
theorem Tot.rf {blt:Keyed->Keyed->Bool}{S:Keyed->Prop}(hO:Tot blt S){x:Keyed}(h:S x):Le blt x x:=by
 unfold Le;cases e:blt x x with
 | false=>rfl
 | true=>have:=hO.as x x h h e;unfold Le at this;rw[e] at this;cases this
theorem Y4 {a:Array Keyed}{i:Nat}{x:Keyed}(h:a[i]? =some x):a.toList.drop i=x::a.toList.drop (i+1):=by
 rw[<-zM] at h;obtain⟨h1,h2⟩:=zE.mp h;rw[List.drop_eq_getElem_cons h1,h2]
theorem b5 {a:Array Keyed}{i:Nat}{x:Keyed}(h:a[i]? =some x):x∈a.toList:=by
 rw[<-zM] at h;exact xB h
theorem W5 {blt:Keyed->Keyed->Bool}{S:Keyed->Prop}(hO:Tot blt S){a:Array Keyed}(ha:∀x∈a.toList,S x)(sA:a.toList.Pairwise (Le blt)){i j:Nat}{x y:Keyed}(hi:a[i]? =some x)(hj:a[j]? =some y)(hij:i<=j):Le blt x y:=by
 rcases Nat.lt_or_eq_of_le hij with z|z
 ·rw[<-zM] at hi hj;obtain⟨h1,h2⟩:=zE.mp hi;obtain⟨h3,h4⟩:=zE.mp hj
  have:=List.pairwise_iff_getElem.mp sA i j h1 h3 z
  rwa [h2,h4] at this
 ·subst z;rw[hi] at hj;cases hj;exact hO.rf (ha _ (b5 hi))
theorem F6 {blt:Keyed->Keyed->Bool}{S:Keyed->Prop}(hO:Tot blt S){a:Array Keyed}(ha:∀x∈a.toList,S x)(sA:a.toList.Pairwise (Le blt)){i:Nat}{x y:Keyed}(hi:a[i]? =some x)(hS:S y)(h:Le blt y x):∀z∈a.toList.drop i,Le blt y z:=by
 intro z hz;obtain⟨j,hj⟩:=jZ.mp hz;rw[jU,zM] at hj;exact hO.tr _ _ _ hS (ha _ (b5 hi)) (ha _ (b5 hj)) h (W5 hO ha sA hi hj (by walk_at "o"))
theorem g9 {a:Array Keyed}{i:Nat}(h:i<a.size):∃x,a[i]? =some x:=⟨a[i],Array.getElem?_eq_getElem h⟩
theorem a05 (out a:Array Keyed)(i k:Nat):(out++a.extract i (i+k)).toList=out.toList++(a.toList.drop i).take k:=by
 rw[Array.toList_append,Array.toList_extract,List.extract_eq_take_drop,Nat.add_sub_cancel_left]
def SmG (st st':SortSt):Prop:=kindOf st'=kindOf st/\arrOf st'=arrOf st/\pendingOf st'=pendingOf st/\failedOf st'=failedOf st
section
variable {prog:Program}{w:World}{A:Around}{E:Value->Shared->Prop}{s:Shared}{κ:SortKind}{blt:Keyed->Keyed->Bool}{S:Keyed->Prop}
theorem SmG.trans {st st' st2:SortSt}(h:SmG st st')(k:SmG st' st2):SmG st st2:=⟨k.1.trans h.1,k.2.1.trans h.2.1,k.2.2.1.trans h.2.2.1,k.2.2.2.trans h.2.2.2⟩
theorem G7 {g:Nat}{st:SortSt}{Q:Unit->SortSt->Prop}(h:∀st',SmG st st'->Q ⟨⟩ st'):wpS (model prog w) A E s (setMinGallop' g) Q st:=by
 rw[N4];exact wpS_modify (h _ ⟨rfl,rfl,rfl,rfl⟩)
theorem N0 (hC:Cmp prog w A E s κ blt S)(hO:Tot blt S){left:Bool}{key:Keyed}{arr:Array Keyed}{base n hint:Nat}{st:SortSt}{Q:Option Nat->SortSt->Prop}(hk:kindOf st=κ)(hK:S key)(hn:hint<n)(hz:base+n<=arr.size)
  (hS:∀i x,i<n->arr[base+i]? =some x->S x) (hs:∀i j x y,i<=j->j<n->arr[base+i]? =some x->arr[base+j]? =some y->Le blt x y)
  (h:∀k,k<=n->(∀i x,i<k->arr[base+i]? =some x->bey blt left key x=true)->(∀i x,k<=i->i<n->arr[base+i]? =some x->bey blt left key x=false)->Q (some k) st):wpS (model prog w) A E s (gallop' left key arr base n hint) Q st:=by
 have at_:∀i,i<n->∃x,arr[base+i]? =some x:=fun i hi=>g9 (by walk_at "o")
 refine a29 (f:=fun i=>match arr[base+i]? with|some x=>bey blt left key x|none=>false) hC hk hK hn (fun i hi=>?_) (fun i j hij hj e=>?_) fun k hc=>h k hc.1 (fun i x hi hx=>?_) fun i x hi hn hx=>?_
 ·obtain⟨x,hx⟩:=at_ i hi;exact⟨x,hx,hS i x hi hx,by rw[hx]⟩
 ·obtain⟨x,hx⟩:=at_ i (by walk_at "o")
  obtain⟨y,hy⟩:=at_ j hj;have l:=hs i j x y hij hj hx hy;have sx:=hS i x (by walk_at "o") hx
  have sy:=hS j y hj hy;simp only[hx,hy] at e ⊢;unfold bey at e ⊢;cases left with
  | true=>
   rw[if_pos rfl] at e ⊢;cases e2:blt x key with
   | true=>rfl
   | false=>
    have:=hO.tr _ _ _ hK sx sy e2 l
    unfold Le at this;rw[this] at e;cases e
  | false=>
   simp only[qZ,xA,Bool.not_eq_true'] at e ⊢;exact hO.tr _ _ _ sx sy hK l e
 ·have:=hc.2.1 i hi
  simp only[hx] at this;exact this
 ·have:=hc.2.2 i hi hn
  simp only[hx] at this;exact this
theorem a1Q (hC:Cmp prog w A E s κ blt S)(hO:Tot blt S){a b:Array Keyed}{st:SortSt}{Q:Array Keyed->SortSt->Prop}(hk:kindOf st=κ)(ha:∀x∈a.toList,S x)(hb:∀x∈b.toList,S x)(sA:a.toList.Pairwise (Le blt))(sB:b.toList.Pairwise (Le blt))
  (h1:0<a.size) (h2:0<b.size) (hf:∀x,b[0]? =some x->∀y∈a.toList,Le blt x y) (hl:∀y,a[a.size-1]? =some y->∀x∈b.toList,Le blt x y)
  (h:∀r st',Gd blt a.toList b.toList r.toList->SmG st st'->Q r st'):wpS (model prog w) A E s (mergeLo' a b) Q st:=by
 have la:a.toList.length=a.size:=zK;have lb:b.toList.length=b.size:=zK;have stA:∀{out:Array Keyed} {ia ib:Nat} {x:Keyed},Mi blt a.toList b.toList out.toList ia ib->a[ia]? =some x->(∀y∈b.toList.drop ib,Le blt x y)->Mi blt a.toList b.toList (out.push x).toList (ia+1) ib:=fun{out ia ib x} m hx hy=>by
  have e:=Y4 hx;have hi:=(Array.getElem?_eq_some_iff.mp hx).1
  have:=m.add (k:=1) (by walk_at "o") sA (by rw[e];intro z hz;have:z=x:=(by simpa using hz);subst this;exact hy)
  rwa [e,List.take_succ_cons,take_zero,<-Array.toList_push] at this
 have stB:∀{out:Array Keyed} {ia ib:Nat} {x:Keyed},Mi blt a.toList b.toList out.toList ia ib->b[ib]? =some x->(∀y∈a.toList.drop ia,Le blt x y)->Mi blt a.toList b.toList (out.push x).toList ia (ib+1):=fun{out ia ib x} m hx hy=>by
  have e:=Y4 hx;have hi:=(Array.getElem?_eq_some_iff.mp hx).1
  have:=m.symm.add (k:=1) (by walk_at "o") sB (by rw[e];intro z hz;have:z=x:=(by simpa using hz);subst this;exact hy)
  rw[e,List.take_succ_cons,take_zero,<-Array.toList_push] at this;exact this.symm
 have dB:∀{out:Array Keyed} {ia ib:Nat},Mi blt a.toList b.toList out.toList ia ib->ib=b.size->Gd blt a.toList b.toList (out++a.extract ia a.size++b.extract ib b.size).toList:=fun{out ia ib} m e=>by
  subst e
  have:=Mi.doneB (by rw[lb];exact m) sA
  simpa [qY,Array.extract_empty_of_size_le_start] using this
 have dA:∀{out:Array Keyed} {ia ib:Nat},Mi blt a.toList b.toList out.toList ia ib->ia=a.size->Gd blt a.toList b.toList (out++a.extract ia a.size++b.extract ib b.size).toList:=fun{out ia ib} m e=>by
  subst e
  have:=Mi.doneA (by rw[la];exact m) sB
  simpa [qY,Array.extract_empty_of_size_le_start] using this
 have dL:∀{out:Array Keyed} {ia ib:Nat},Mi blt a.toList b.toList out.toList ia ib->ia+1=a.size->Gd blt a.toList b.toList (out++b.extract ib b.size++a.extract ia a.size).toList:=fun{out ia ib} m e=>by
  obtain⟨y,hy⟩:=g9 (a:=a) (i:=a.size-1) (by walk_at "o")
  have e2:ia=a.size-1:=by walk_at "o"
  have:=m.last sA sB fun x hx z hz=>by
   rw[e2,Y4 hy,jB (by walk_at "o")] at hz
   have:z=y:=by simpa using hz
   subst this;exact hl z hy x hx
  simpa [qY] using this
 rw[a09];refine zB (wpS_lift (jN ⟨rfl,?_⟩));obtain⟨b0,hb0⟩:=g9 h2;refine zB (i0 hb0 ?_);have m0:Mi blt a.toList b.toList (#[b0]:Array Keyed).toList 0 1:=by
  have:=stB (out:= #[]) (ia:=0) (ib:=0) ⟨by walk_at "o",by walk_at "o",.refl _,.nil,fun x hx=>by simp at hx,fun x hx=>by simp at hx⟩ hb0 (by rw[xF];exact hf b0 hb0)
  exact this
 dsimp only
 by_cases c1:1=b.size
 ·rw[if_pos (by simpa using c1)]
  exact zF (h _ _ (dB m0 c1) ⟨rfl,rfl,rfl,rfl⟩)
 rw[if_neg (by simpa using c1)]
 by_cases c2:0+1=a.size
 ·rw[if_pos (by simpa using c2)]
  exact zF (h _ _ (dL m0 c2) ⟨rfl,rfl,rfl,rfl⟩)
 rw[if_neg (by simpa using c2)]
 refine zB (wpS_get ?_)
 refine zB (jP (qP (I:=fun x c st'=>∃out ia ib g,c=(none,out,ia,ib,g)/\SmG st st'/\Mi blt a.toList b.toList out.toList ia ib/\ia+1<a.size/\ib<b.size/\x+1<=ia+ib)
  (Q:=fun c st'=>∃r out ia ib g,c=(some r,out,ia,ib,g)/\SmG st st'/\Gd blt a.toList b.toList r.toList) ?step ?fin ⟨_,0,1,_,rfl,⟨rfl,rfl,rfl,rfl⟩,m0,by walk_at "o",by walk_at "o",by walk_at "o"⟩) ?post)
 case fin=>
  rintro c st' ⟨out,ia,ib,g,rfl,_,m,a1,a2,a3⟩;walk_at "o"
 case post=>
  rintro c st' ⟨r,out,ia,ib,g,rfl,sm,gd⟩;exact zF (h r st' gd sm)
 case step=>
  rintro x c st1 _ hx ⟨out,ia,ib,g,rfl,sm,m,a1,a2,a3⟩;dsimp only
  refine zB (jP (qP (I:=fun y c st'=>∃out ia ib p q,c=(none,out,ia,ib,p,q)/\SmG st st'/\Mi blt a.toList b.toList out.toList ia ib/\ia+1<a.size/\ib<b.size/\x+y+1<=ia+ib)
   (Q:=fun c st'=>∃rr out ia ib p q,c=(rr,out,ia,ib,p,q)/\SmG st st'/\((∃r,rr=some r/\Gd blt a.toList b.toList r.toList)\/rr=none/\Mi blt a.toList b.toList out.toList ia ib/\ia+1<a.size/\ib<b.size/\x+2<=ia+ib)) ?step2 ?fin2 ⟨out,ia,ib,0,0,rfl,sm,m,a1,a2,a3⟩) ?post2)
  case fin2=>
   rintro c st' ⟨out,ia,ib,p,q,rfl,sm,m,a1,a2,a3⟩;exact⟨none,out,ia,ib,p,q,rfl,sm,.inr ⟨rfl,m,a1,a2,by walk_at "o"⟩⟩
  case step2=>
   rintro y c st2 _ hy ⟨out,ia,ib,p,q,rfl,sm,m,a1,a2,a3⟩;dsimp only;obtain⟨u,hu⟩:=g9 (a:=a) (i:=ia) (by walk_at "o")
   obtain⟨v,hv⟩:=g9 (a:=b) (i:=ib) a2;have su:=ha u (b5 hu);have sv:=hb v (b5 hv);refine zB (i0 hv (zB (i0 hu (zB (hC v u sv su _ _ (sm.1.trans hk) ?_)))));dsimp only;cases e:blt v u with
   | true=>
    rw[if_pos rfl];have m2:=stB m hv (F6 hO ha sA hu sv (hO.as v u sv su e));refine zB (i0 hv ?_)
    by_cases c3:ib+1=b.size
    ·rw[if_pos (by simpa using c3)]
     exact zF ⟨_,_,_,_,_,_,rfl,sm,.inl ⟨_,rfl,dB m2 c3⟩⟩
    rw[if_neg (by simpa using c3)]
    split
    ·exact zF ⟨_,_,_,_,_,_,rfl,sm,.inr ⟨rfl,m2,a1,by walk_at "o",by walk_at "o"⟩⟩
    ·exact zF ⟨_,_,_,_,_,rfl,sm,m2,a1,by walk_at "o",by walk_at "o"⟩
   | false=>
    rw[if_neg (by simp)]
    have m2:=stA m hu (F6 hO hb sB hv su e);refine zB (i0 hu ?_)
    by_cases c3:ia+1+1=a.size
    ·rw[if_pos (by simpa using c3)]
     exact zF ⟨_,_,_,_,_,_,rfl,sm,.inl ⟨_,rfl,dL m2 c3⟩⟩
    rw[if_neg (by simpa using c3)]
    split
    ·exact zF ⟨_,_,_,_,_,_,rfl,sm,.inr ⟨rfl,m2,by walk_at "o",a2,by walk_at "o"⟩⟩
    ·exact zF ⟨_,_,_,_,_,rfl,sm,m2,by walk_at "o",a2,by walk_at "o"⟩
  case post2=>
   rintro c st2 ⟨rr,out,ia,ib,p,q,rfl,sm,⟨r,rfl,gd⟩|⟨rfl,m,a1,a2,a3⟩⟩
   ·dsimp only;exact zF ⟨r,out,ia,ib,g,rfl,sm,gd⟩
   dsimp only;refine zB (wpS_lift (jN ⟨rfl,?_⟩))
   refine zB (jP (qP (I:=fun y c st'=>∃out ia ib g p q,c=(none,out,ia,ib,g,p,q)/\SmG st st'/\Mi blt a.toList b.toList out.toList ia ib/\ia+1<a.size/\ib<b.size/\x+2<=ia+ib)
    (Q:=fun c st'=>∃rr out ia ib g p q,c=(rr,out,ia,ib,g,p,q)/\SmG st st'/\((∃r,rr=some r/\Gd blt a.toList b.toList r.toList)\/rr=none/\Mi blt a.toList b.toList out.toList ia ib/\ia+1<a.size/\ib<b.size/\x+2<=ia+ib)) ?step3 ?fin3 ⟨out,ia,ib,_,p,q,rfl,sm,m,a1,a2,a3⟩) ?post3)
   case fin3=>
    rintro c st' ⟨out,ia,ib,g,p,q,rfl,sm,m,a1,a2,a3⟩;exact⟨none,out,ia,ib,g,p,q,rfl,sm,.inr ⟨rfl,m,a1,a2,a3⟩⟩
   case post3=>
    rintro c st2 ⟨rr,out,ia,ib,g,p,q,rfl,sm,⟨r,rfl,gd⟩|⟨rfl,m,a1,a2,a3⟩⟩
    ·dsimp only;exact zF ⟨r,out,ia,ib,g,rfl,sm,gd⟩
    dsimp only;refine zB (G7 fun st3 sm3=>?_);exact zF ⟨out,ia,ib,_,rfl,sm.trans sm3,m,a1,a2,by walk_at "o"⟩
   case step3=>
    rintro y c st3 _ hy ⟨out,ia,ib,g,p,q,rfl,sm,m,a1,a2,a3⟩;dsimp only;obtain⟨v,hv⟩:=g9 (a:=b) (i:=ib) a2;have sv:=hb v (b5 hv)
    by_cases hg:g>1
    case' pos=>rw[if_pos hg]
    case' neg=>rw[if_neg hg]
    all_goals
     refine zB (G7 fun st4 sm4=>?_);have sm:=sm.trans sm4;refine zB (i0 hv (zB (N0 hC hO (sm.1.trans hk) sv (by walk_at "o") (by walk_at "o") (fun i x hi hx=>ha x (b5 hx)) (fun i j x y hij hj hx hy=>W5 hO ha sA hx hy (by walk_at "o")) fun k k0 k1 k2=>?_)))
     dsimp only;have mk:Mi blt a.toList b.toList (out++a.extract ia (ia+k)).toList (ia+k) ib:=by
      rw[a05];refine m.add (by walk_at "o") sA fun z hz=>?_
      obtain⟨i,hi⟩:=jZ.mp hz;rw[jV] at hi;split at hi
      ·rename_i hik;rw[jU,zM] at hi
       have:=k1 i z hik hi
       unfold bey at this;exact F6 hO hb sB hv (ha z (b5 hi)) (by unfold Le;simpa using this)
      ·cases hi
     by_cases hk0:k>0
     case' pos=>
      rw[if_pos hk0];have m2:=mk
      by_cases c3:ia+k+1=a.size
      case pos=>
       rw[if_pos (by simpa using c3)]
       exact zF ⟨_,_,_,_,_,_,_,rfl,sm,.inl ⟨_,rfl,dL m2 c3⟩⟩
      rw[if_neg (by simpa using c3)]
      by_cases c4:ia+k=a.size
      case pos=>
       rw[if_pos (by simpa using c4)]
       exact zF ⟨_,_,_,_,_,_,_,rfl,sm,.inl ⟨_,rfl,dA m2 c4⟩⟩
      rw[if_neg (by simpa using c4)]
      have b1:ia+k+1<a.size:=by walk_at "o"
      have b3:x+2<=ia+k+ib:=by walk_at "o"
      obtain⟨u,hu⟩:=g9 (a:=a) (i:=ia+k) (by walk_at "o")
      have e2:=k2 k u (zC _) (by walk_at "o") hu
     case' neg=>
      rw[if_neg hk0];have m2:=m;have b1:=a1;have b3:=a3;obtain⟨u,hu⟩:=g9 (a:=a) (i:=ia) (by walk_at "o")
      have e2:=k2 0 u (by walk_at "o") (by walk_at "o") hu
     all_goals
      have su:=ha u (b5 hu);have e3:blt v u=true:=by unfold bey at e2;simpa using e2
      have m3:=stB m2 hv (F6 hO ha sA hu sv (hO.as v u sv su e3));refine zB (i0 hv ?_)
      by_cases c5:ib+1=b.size
      case pos=>
       rw[if_pos (by simpa using c5)]
       exact zF ⟨_,_,_,_,_,_,_,rfl,sm,.inl ⟨_,rfl,dB m3 c5⟩⟩
      rw[if_neg (by simpa using c5)]
      refine zB (i0 hu (zB (N0 hC hO (sm.1.trans hk) su (by walk_at "o") (by walk_at "o") (fun i x hi hx=>hb x (b5 hx)) (fun i j x y hij hj hx hy=>W5 hO hb sB hx hy (by walk_at "o")) fun l l0 l1 l2=>?_)))
      dsimp only;have ml:=fun(z:Keyed) (hz:z∈(b.toList.drop (ib+1)).take l)=>show ∀y∈a.toList.drop _,Le blt z y by
       obtain⟨i,hi⟩:=jZ.mp hz;rw[jV] at hi;split at hi
       ·rename_i hik;rw[jU,zM] at hi
        have:=l1 i z hik hi
        unfold bey at this;have sz:=hb z (b5 hi);exact F6 hO ha sA hu sz (hO.as _ _ sz su (by simpa using this))
       ·cases hi
      have ml:=(m3.symm.add (by walk_at "o") sB ml).symm
      rw[<-a05] at ml
      by_cases hl0:l>0
      case' pos=>
       rw[if_pos hl0];have m4:=ml
       by_cases c6:ib+1+l=b.size
       case pos=>
        rw[if_pos (by simpa using c6)]
        exact zF ⟨_,_,_,_,_,_,_,rfl,sm,.inl ⟨_,rfl,dB m4 c6⟩⟩
       rw[if_neg (by simpa using c6)]
       have b4:ib+1+l<b.size:=by walk_at "o"
       obtain⟨v2,hv2⟩:=g9 (a:=b) (i:=ib+1+l) b4;have e4:=l2 l v2 (zC _) (by walk_at "o") hv2
      case' neg=>
       rw[if_neg hl0];have m4:=m3;have b4:ib+1<b.size:=by walk_at "o"
       obtain⟨v2,hv2⟩:=g9 (a:=b) (i:=ib+1) b4;have e4:=l2 0 v2 (by walk_at "o") (by walk_at "o") hv2
      all_goals
       have e5:Le blt u v2:=by unfold bey at e4;unfold Le;simpa using e4
       have m5:=stA m4 hu (F6 hO hb sB hv2 su e5);refine zB (i0 hu ?_)
       split
       ·rename_i c7;exact zF ⟨_,_,_,_,_,_,_,rfl,sm,.inl ⟨_,rfl,dL m5 (by simpa using c7)⟩⟩
       ·rename_i c7;simp only[beq_iff_eq] at c7
        split
        ·exact zF ⟨_,_,_,_,_,_,_,rfl,sm,.inr ⟨rfl,m5,by walk_at "o",b4,by walk_at "o"⟩⟩
        ·exact zF ⟨_,_,_,_,_,_,rfl,sm,m5,by walk_at "o",b4,by walk_at "o"⟩
end
theorem a0E (a b:Array Keyed):mergeHi' a b=(do
 rule "list.sort.merge-hi"
 let total:=a.size+b.size
 let done (out:Array Keyed) (na nb:Nat):=a.extract 0 na++b.extract 0 nb++out.reverse
 let firstOfB (out:Array Keyed) (na nb:Nat):=b.extract 0 nb++a.extract 0 na++out.reverse
 let mut na:=a.size-1
 let mut nb:=b.size
 let mut out:Array Keyed:= #[<-elem' a na]
 if na==0 then return done out na nb
 if nb==1 then return firstOfB out na nb
 let mut minGallop:=gallopOf (<-get)
 for _ in [0:total] do
  let mut acount:=0
  let mut bcount:=0
  for _ in [0:total] do
   let some aWins <-lt' (<-elem' b (nb-1)) (<-elem' a (na-1))|return done out na nb
   if aWins then
    na:=na-1;out:=out.push (<-elem' a na);acount:=acount+1;bcount:=0
    if na==0 then return done out na nb
    if acount≥minGallop then break
   else
    nb:=nb-1;out:=out.push (<-elem' b nb);bcount:=bcount+1;acount:=0
    if nb==1 then return firstOfB out na nb
    if bcount≥minGallop then break
  rule "list.sort.gallop"
  minGallop:=minGallop+1
  for _ in [0:total] do
   if minGallop>1 then minGallop:=minGallop-1
   setMinGallop' minGallop
   let some at_ <-gallop' false (<-elem' b (nb-1)) a 0 na (na-1)|return done out na nb
   let k:=na-at_
   acount:=k
   if k>0 then
    out:=out++(a.extract at_ na).reverse;na:=at_
    if na==0 then return done out na nb
   nb:=nb-1;out:=out.push (<-elem' b nb)
   if nb==1 then return firstOfB out na nb
   let some at_ <-gallop' true (<-elem' a (na-1)) b 0 nb (nb-1)|return done out na nb
   let k:=nb-at_
   bcount:=k
   if k>0 then
    out:=out++(b.extract at_ nb).reverse;nb:=at_
    if nb==1 then return firstOfB out na nb
    if nb==0 then return done out na nb
   na:=na-1;out:=out.push (<-elem' a na)
   if na==0 then return done out na nb
   if acount<7&&bcount<7 then break
  minGallop:=minGallop+1
  setMinGallop' minGallop
 unsupported "internal:list.sort.merge-bound"):=rfl
structure Mh (blt:Keyed->Keyed->Bool) (a b o:List Keyed) (na nb:Nat):Prop where
 la:na<=a.length
 lb:nb<=b.length
 pe:o.Perm (a.drop na++b.drop nb)
 so:o.Pairwise (Le blt)
 oa:∀x∈a.take na,∀y∈o,Le blt x y
 ob:∀x∈b.take nb,∀y∈o,Le blt x y
section
variable {blt:Keyed->Keyed->Bool}{a b o:List Keyed}{na nb m:Nat}
theorem Mh.symm (h:Mh blt a b o na nb):Mh blt b a o nb na:=⟨h.lb,h.la,h.pe.trans perm_append_comm,h.so,h.ob,h.oa⟩
theorem Mh.add (h:Mh blt a b o na nb)(hm:m<=na)(sA:a.Pairwise (Le blt))(hl:∀x∈b.take nb,∀y∈(a.take na).drop m,Le blt x y):Mh blt a b ((a.take na).drop m++o) m nb where
 la:=zJ hm h.la
 lb:=h.lb
 pe:=by
  have e:a.drop m=(a.take na).drop m++a.drop na:=by
   rw[<-jW (by rw[qF];have:=h.la;walk_at "o"),jE]
  rw[e,qR];exact List.Perm.append_left _ h.pe
 so:=xO.mpr ⟨(sA.sublist (take_sublist _ _)).sublist (List.drop_sublist _ _),h.so,fun x hx y hy=>h.oa x (mem_of_mem_drop hx) y hy⟩
 oa:=fun x hx y hy=>by
  have e:a.take m=(a.take na).take m:=by rw[List.take_take,Nat.min_eq_left hm]
  rw[e] at hx;rcases jM.mp hy with z|z
  ·have p:=sA.sublist (take_sublist na a);rw[<-jE m (a.take na)] at p;exact(xO.mp p).2.2 x hx y z
  ·exact h.oa x (mem_of_mem_take hx) y z
 ob:=fun x hx y hy=>by
  rcases jM.mp hy with z|z
  ·exact hl x hx y z
  ·exact h.ob x hx y z
theorem Mh.all (h:Mh blt a b o 0 0):Gd blt a b o:=⟨by have:=h.pe;rwa [xF,xF] at this,h.so⟩
theorem Mh.doneA (h:Mh blt a b o 0 nb)(sB:b.Pairwise (Le blt)):Gd blt a b (b.take nb++o):=by
 have:=h.symm.add (m:=0) (qW _) sB fun x hx=>by rw[take_zero] at hx;cases hx
 rw[xF] at this;exact this.symm.all
theorem Mh.doneB (h:Mh blt a b o na 0)(sA:a.Pairwise (Le blt)):Gd blt a b (a.take na++o):=(h.symm.doneA sA).symm
theorem Mh.first (h:Mh blt a b o na nb)(sA:a.Pairwise (Le blt))(sB:b.Pairwise (Le blt))(hl:∀x∈b.take nb,∀y∈a,Le blt x y):Gd blt a b (b.take nb++(a.take na++o)):=by
 have:=h.add (m:=0) (qW _) sA fun x hx y hy=>hl x hx y (mem_of_mem_take (mem_of_mem_drop hy))
 rw[xF] at this;exact this.doneA sB
end
theorem Z9 {a:Array Keyed}{i:Nat}{x:Keyed}(h:a[i]? =some x):(a.toList.take (i+1)).drop i=[x]:=by
 have hi:=(Array.getElem?_eq_some_iff.mp h).1;rw[take_add_one,zM,h,jW (by rw[qF,zK];walk_at "o"),jB (by rw[qF,zK];walk_at "o")];rfl
theorem F7 {blt:Keyed->Keyed->Bool}{S:Keyed->Prop}(hO:Tot blt S){a:Array Keyed}(ha:∀x∈a.toList,S x)(sA:a.toList.Pairwise (Le blt)){i:Nat}{x y:Keyed}(hi:a[i]? =some x)(hS:S y)(h:Le blt x y):∀z∈a.toList.take (i+1),Le blt z y:=by
 intro z hz;obtain⟨j,hj⟩:=jZ.mp hz;rw[jV] at hj;split at hj
 ·rename_i hji;rw[zM] at hj;exact hO.tr _ _ _ (ha _ (b5 hj)) (ha _ (b5 hi)) hS (W5 hO ha sA hj hi (by walk_at "o")) h
 ·cases hj
theorem a0z (out a:Array Keyed)(i n:Nat):(out++(a.extract i n).reverse).toList.reverse=(a.toList.take n).drop i++out.toList.reverse:=by
 rw[Array.toList_append,List.reverse_append,Array.toList_reverse,List.reverse_reverse,Array.toList_extract];congr 1;rw[List.extract_eq_take_drop,take_drop]
 by_cases h:i<=n
 ·rw[Nat.add_sub_cancel' h]
 ·rw[jB (by rw[qF];walk_at "o"),jB (by rw[qF];walk_at "o")]
section
variable {prog:Program}{w:World}{A:Around}{E:Value->Shared->Prop}{s:Shared}{κ:SortKind}{blt:Keyed->Keyed->Bool}{S:Keyed->Prop}
theorem a1D (hC:Cmp prog w A E s κ blt S)(hO:Tot blt S){a b:Array Keyed}{st:SortSt}{Q:Array Keyed->SortSt->Prop}(hk:kindOf st=κ)(ha:∀x∈a.toList,S x)(hb:∀x∈b.toList,S x)(sA:a.toList.Pairwise (Le blt))(sB:b.toList.Pairwise (Le blt))
  (h1:0<a.size) (h2:0<b.size) (hf:∀x,b[0]? =some x->∀y∈a.toList,Le blt x y) (hl:∀y,a[a.size-1]? =some y->∀x∈b.toList,Le blt x y)
  (h:∀r st',Gd blt a.toList b.toList r.toList->SmG st st'->Q r st'):wpS (model prog w) A E s (mergeHi' a b) Q st:=by
 have la:a.toList.length=a.size:=zK;have lb:b.toList.length=b.size:=zK;have stA:∀{out:Array Keyed} {na nb:Nat} {x:Keyed},Mh blt a.toList b.toList out.toList.reverse (na+1) nb->a[na]? =some x->(∀y∈b.toList.take nb,Le blt y x)->Mh blt a.toList b.toList (out.push x).toList.reverse na nb:=fun{out na nb x} m hx hy=>by
  have e:=Z9 hx
  have:=m.add (m:=na) (by walk_at "o") sA (by rw[e];intro y hy2 z hz;have:z=x:=(by simpa using hz);subst this;exact hy y hy2)
  rw[e] at this;simpa using this
 have stB:∀{out:Array Keyed} {na nb:Nat} {x:Keyed},Mh blt a.toList b.toList out.toList.reverse na (nb+1)->b[nb]? =some x->(∀y∈a.toList.take na,Le blt y x)->Mh blt a.toList b.toList (out.push x).toList.reverse na nb:=fun{out na nb x} m hx hy=>by
  have e:=Z9 hx
  have:=m.symm.add (m:=nb) (by walk_at "o") sB (by rw[e];intro y hy2 z hz;have:z=x:=(by simpa using hz);subst this;exact hy y hy2)
  rw[e] at this;simpa using this.symm
 have dA:∀{out:Array Keyed} {na nb:Nat},Mh blt a.toList b.toList out.toList.reverse na nb->na=0->Gd blt a.toList b.toList (a.extract 0 na++b.extract 0 nb++out.reverse).toList:=fun{out na nb} m e=>by
  subst e;simpa using m.doneA sB
 have dB:∀{out:Array Keyed} {na nb:Nat},Mh blt a.toList b.toList out.toList.reverse na nb->nb=0->Gd blt a.toList b.toList (a.extract 0 na++b.extract 0 nb++out.reverse).toList:=fun{out na nb} m e=>by
  subst e;simpa using m.doneB sA
 have dF:∀{out:Array Keyed} {na nb:Nat},Mh blt a.toList b.toList out.toList.reverse na nb->nb=1->Gd blt a.toList b.toList (b.extract 0 nb++a.extract 0 na++out.reverse).toList:=fun{out na nb} m e=>by
  subst e;obtain⟨x,hx⟩:=g9 h2
  have:=m.first sA sB fun z hz y hy=>by
   have e2:=Z9 hx;rw[xF] at e2;rw[e2] at hz
   have:z=x:=by simpa using hz
   subst this;exact hf z hx y hy
  simpa using this
 rw[a0E];refine zB (wpS_lift (jN ⟨rfl,?_⟩));obtain⟨al,hal⟩:=g9 (a:=a) (i:=a.size-1) (by walk_at "o")
 refine zB (i0 hal ?_);have m0:Mh blt a.toList b.toList (#[al]:Array Keyed).toList.reverse (a.size-1) b.size:=by
  refine stA (out:= #[]) ⟨by walk_at "o",by walk_at "o",?_,.nil,fun x _ y hy=>by simp at hy,fun x _ y hy=>by simp at hy⟩ hal fun y hy=>hl al hal y (mem_of_mem_take hy)
  rw[jB (by walk_at "o"),jB (by walk_at "o")];exact .refl _
 dsimp only
 by_cases c1:a.size-1=0
 ·rw[if_pos (by simpa using c1)]
  exact zF (h _ _ (dA m0 c1) ⟨rfl,rfl,rfl,rfl⟩)
 rw[if_neg (by simpa using c1)]
 by_cases c2:b.size=1
 ·rw[if_pos (by simpa using c2)]
  exact zF (h _ _ (dF m0 c2) ⟨rfl,rfl,rfl,rfl⟩)
 rw[if_neg (by simpa using c2)]
 refine zB (wpS_get ?_)
 refine zB (jP (qP (I:=fun x c st'=>∃out na nb g,c=(none,na,nb,out,g)/\SmG st st'/\Mh blt a.toList b.toList out.toList.reverse na nb/\1<=na/\2<=nb/\x+1+na+nb<=a.size+b.size)
  (Q:=fun c st'=>∃r out na nb g,c=(some r,na,nb,out,g)/\SmG st st'/\Gd blt a.toList b.toList r.toList) ?step ?fin ⟨_,a.size-1,b.size,_,rfl,⟨rfl,rfl,rfl,rfl⟩,m0,by walk_at "o",by walk_at "o",by walk_at "o"⟩) ?post)
 case fin=>
  rintro c st' ⟨out,na,nb,g,rfl,_,m,a1,a2,a3⟩;walk_at "o"
 case post=>
  rintro c st' ⟨r,out,na,nb,g,rfl,sm,gd⟩;exact zF (h r st' gd sm)
 case step=>
  rintro x c st1 _ hx ⟨out,na,nb,g,rfl,sm,m,a1,a2,a3⟩;dsimp only
  refine zB (jP (qP (I:=fun y c st'=>∃out na nb p q,c=(none,na,nb,out,p,q)/\SmG st st'/\Mh blt a.toList b.toList out.toList.reverse na nb/\1<=na/\2<=nb/\x+y+1+na+nb<=a.size+b.size)
   (Q:=fun c st'=>∃rr out na nb p q,c=(rr,na,nb,out,p,q)/\SmG st st'/\((∃r,rr=some r/\Gd blt a.toList b.toList r.toList)\/rr=none/\Mh blt a.toList b.toList out.toList.reverse na nb/\1<=na/\2<=nb/\x+2+na+nb<=a.size+b.size)) ?step2 ?fin2 ⟨out,na,nb,0,0,rfl,sm,m,a1,a2,a3⟩) ?post2)
  case fin2=>
   rintro c st' ⟨out,na,nb,p,q,rfl,sm,m,a1,a2,a3⟩;exact⟨none,out,na,nb,p,q,rfl,sm,.inr ⟨rfl,m,a1,a2,by walk_at "o"⟩⟩
  case step2=>
   rintro y c st2 _ hy ⟨out,na,nb,p,q,rfl,sm,m,a1,a2,a3⟩;dsimp only;have e1:na-1+1=na:=by walk_at "o"
   have e2:nb-1+1=nb:=by walk_at "o"
   have l1:=m.la;have l2:=m.lb;obtain⟨u,hu⟩:=g9 (a:=a) (i:=na-1) (by walk_at "o")
   obtain⟨v,hv⟩:=g9 (a:=b) (i:=nb-1) (by walk_at "o")
   have su:=ha u (b5 hu);have sv:=hb v (b5 hv);refine zB (i0 hv (zB (i0 hu (zB (hC v u sv su _ _ (sm.1.trans hk) ?_)))));dsimp only;cases e:blt v u with
   | true=>
    rw[if_pos rfl];have m2:=stA (na:=na-1) (by rw[e1];exact m) hu (by have:=F7 hO hb sB hv su (hO.as v u sv su e);rwa [e2] at this)
    refine zB (i0 hu ?_)
    split
    ·rename_i c3;exact zF ⟨_,_,_,_,_,_,rfl,sm,.inl ⟨_,rfl,dA m2 (by simpa using c3)⟩⟩
    ·rename_i c3;simp only[beq_iff_eq] at c3
     split
     ·exact zF ⟨_,_,_,_,_,_,rfl,sm,.inr ⟨rfl,m2,by walk_at "o",a2,by walk_at "o"⟩⟩
     ·exact zF ⟨_,_,_,_,_,rfl,sm,m2,by walk_at "o",a2,by walk_at "o"⟩
   | false=>
    rw[if_neg (by simp)]
    have m2:=stB (nb:=nb-1) (by rw[e2];exact m) hv (by have:=F7 hO ha sA hu sv e;rwa [e1] at this)
    refine zB (i0 hv ?_)
    split
    ·rename_i c3;exact zF ⟨_,_,_,_,_,_,rfl,sm,.inl ⟨_,rfl,dF m2 (by simpa using c3)⟩⟩
    ·rename_i c3;simp only[beq_iff_eq] at c3
     split
     ·exact zF ⟨_,_,_,_,_,_,rfl,sm,.inr ⟨rfl,m2,a1,by walk_at "o",by walk_at "o"⟩⟩
     ·exact zF ⟨_,_,_,_,_,rfl,sm,m2,a1,by walk_at "o",by walk_at "o"⟩
  case post2=>
   rintro c st2 ⟨rr,out,na,nb,p,q,rfl,sm,⟨r,rfl,gd⟩|⟨rfl,m,a1,a2,a3⟩⟩
   ·dsimp only;exact zF ⟨r,out,na,nb,g,rfl,sm,gd⟩
   dsimp only;refine zB (wpS_lift (jN ⟨rfl,?_⟩))
   refine zB (jP (qP (I:=fun y c st'=>∃out na nb g p q,c=(none,na,nb,out,g,p,q)/\SmG st st'/\Mh blt a.toList b.toList out.toList.reverse na nb/\1<=na/\2<=nb/\x+2+na+nb<=a.size+b.size)
    (Q:=fun c st'=>∃rr out na nb g p q,c=(rr,na,nb,out,g,p,q)/\SmG st st'/\((∃r,rr=some r/\Gd blt a.toList b.toList r.toList)\/rr=none/\Mh blt a.toList b.toList out.toList.reverse na nb/\1<=na/\2<=nb/\x+2+na+nb<=a.size+b.size)) ?step3 ?fin3 ⟨out,na,nb,_,p,q,rfl,sm,m,a1,a2,a3⟩) ?post3)
   case fin3=>
    rintro c st' ⟨out,na,nb,g,p,q,rfl,sm,m,a1,a2,a3⟩;exact⟨none,out,na,nb,g,p,q,rfl,sm,.inr ⟨rfl,m,a1,a2,a3⟩⟩
   case post3=>
    rintro c st2 ⟨rr,out,na,nb,g,p,q,rfl,sm,⟨r,rfl,gd⟩|⟨rfl,m,a1,a2,a3⟩⟩
    ·dsimp only;exact zF ⟨r,out,na,nb,g,rfl,sm,gd⟩
    dsimp only;refine zB (G7 fun st3 sm3=>?_);exact zF ⟨out,na,nb,_,rfl,sm.trans sm3,m,a1,a2,by walk_at "o"⟩
   case step3=>
    rintro y c st3 _ hy ⟨out,na,nb,g,p,q,rfl,sm,m,a1,a2,a3⟩;dsimp only;have l1:=m.la;have l2:=m.lb;have e2:nb-1+1=nb:=by walk_at "o"
    obtain⟨v,hv⟩:=g9 (a:=b) (i:=nb-1) (by walk_at "o")
    have sv:=hb v (b5 hv)
    by_cases hg:g>1
    case' pos=>rw[if_pos hg]
    case' neg=>rw[if_neg hg]
    all_goals
     refine zB (G7 fun st4 sm4=>?_);have sm:=sm.trans sm4;refine zB (i0 hv (zB (N0 hC hO (sm.1.trans hk) sv (by walk_at "o") (by walk_at "o") (fun i x hi hx=>ha x (b5 hx)) (fun i j x y hij hj hx hy=>W5 hO ha sA hx hy (by walk_at "o")) fun k k0 k1 k2=>?_)))
     dsimp only;have mk:Mh blt a.toList b.toList (out++(a.extract k na).reverse).toList.reverse k nb:=by
      rw[a0z];refine m.add k0 sA fun y2 hy2 z hz=>?_;obtain⟨i,hi⟩:=jZ.mp hz;rw[jU,jV] at hi;split at hi
      ·rename_i hik;rw[zM] at hi
       have:=k2 (k+i) z (by walk_at "o") hik (by rw[xH];exact hi)
       unfold bey at this;have sz:=ha z (b5 hi)
       have:=F7 hO hb sB hv sz (hO.as _ _ sv sz (by simpa using this))
       rw[e2] at this;exact this y2 hy2
      ·cases hi
     by_cases hk0:na-k>0
     case' pos=>
      rw[if_pos hk0];have m2:=mk
      by_cases c3:k=0
      case pos=>
       rw[if_pos (by simpa using c3)]
       exact zF ⟨_,_,_,_,_,_,_,rfl,sm,.inl ⟨_,rfl,dA m2 c3⟩⟩
      rw[if_neg (by simpa using c3)]
      have b1:1<=k:=by walk_at "o"
      have e1:k-1+1=k:=by walk_at "o"
      have b3:x+2+k+nb<=a.size+b.size:=by walk_at "o"
      obtain⟨u,hu⟩:=g9 (a:=a) (i:=k-1) (by walk_at "o")
      have e3:=k1 (k-1) u (by walk_at "o") (by rw[xH];exact hu)
     case' neg=>
      rw[if_neg hk0];have m2:=m;have b1:=a1;have e1:na-1+1=na:=by walk_at "o"
      have b3:=a3;obtain⟨u,hu⟩:=g9 (a:=a) (i:=na-1) (by walk_at "o")
      have e3:=k1 (na-1) u (by walk_at "o") (by rw[xH];exact hu)
     all_goals
      have su:=ha u (b5 hu);have e4:Le blt u v:=by unfold bey at e3;unfold Le;simpa using e3
      have m3:=stB (nb:=nb-1) (by rw[e2];exact m2) hv (by have:=F7 hO ha sA hu sv e4;rwa [e1] at this)
      refine zB (i0 hv ?_)
      by_cases c5:nb-1=1
      case pos=>
       rw[if_pos (by simpa using c5)]
       exact zF ⟨_,_,_,_,_,_,_,rfl,sm,.inl ⟨_,rfl,dF m3 c5⟩⟩
      rw[if_neg (by simpa using c5)]
      refine zB (i0 hu (zB (N0 hC hO (sm.1.trans hk) su (by walk_at "o") (by walk_at "o") (fun i x hi hx=>hb x (b5 hx)) (fun i j x y hij hj hx hy=>W5 hO hb sB hx hy (by walk_at "o")) fun l l0 l1 l2=>?_)))
      dsimp only;have ml:=fun(y2:Keyed) (hy2:y2∈a.toList.take _) (z:Keyed) (hz:z∈(b.toList.take (nb-1)).drop l)=>show Le blt y2 z by
       obtain⟨i,hi⟩:=jZ.mp hz;rw[jU,jV] at hi;split at hi
       ·rename_i hik;rw[zM] at hi
        have:=l2 (l+i) z (by walk_at "o") hik (by rw[xH];exact hi)
        unfold bey at this
        have:=F7 hO ha sA hu (hb z (b5 hi)) (by unfold Le;simpa using this)
        rw[e1] at this;exact this y2 hy2
       ·cases hi
      have ml:=(m3.symm.add l0 sB ml).symm;rw[<-a0z] at ml
      by_cases hl0:nb-1-l>0
      case' pos=>
       rw[if_pos hl0];have m4:=ml
       by_cases c6:l=1
       case pos=>
        rw[if_pos (by simpa using c6)]
        exact zF ⟨_,_,_,_,_,_,_,rfl,sm,.inl ⟨_,rfl,dF m4 c6⟩⟩
       rw[if_neg (by simpa using c6)]
       by_cases c7:l=0
       case pos=>
        rw[if_pos (by simpa using c7)]
        exact zF ⟨_,_,_,_,_,_,_,rfl,sm,.inl ⟨_,rfl,dB m4 c7⟩⟩
       rw[if_neg (by simpa using c7)]
       have b4:2<=l:=by walk_at "o"
       have e7:l-1+1=l:=by walk_at "o"
       obtain⟨v2,hv2⟩:=g9 (a:=b) (i:=l-1) (by walk_at "o")
       have e5:=l1 (l-1) v2 (by walk_at "o") (by rw[xH];exact hv2)
      case' neg=>
       rw[if_neg hl0];have m4:=m3;have b4:2<=nb-1:=by walk_at "o"
       have e7:nb-1-1+1=nb-1:=by walk_at "o"
       obtain⟨v2,hv2⟩:=g9 (a:=b) (i:=nb-1-1) (by walk_at "o")
       have e5:=l1 (nb-1-1) v2 (by walk_at "o") (by rw[xH];exact hv2)
      all_goals
       have sv2:=hb v2 (b5 hv2);have e6:blt v2 u=true:=by unfold bey at e5;simpa using e5
       have m5:=stA (by rw[e1];exact m4) hu (by have:=F7 hO hb sB hv2 su (hO.as _ _ sv2 su e6);rwa [e7] at this)
       refine zB (i0 hu ?_)
       split
       ·rename_i c8;exact zF ⟨_,_,_,_,_,_,_,rfl,sm,.inl ⟨_,rfl,dA m5 (by simpa using c8)⟩⟩
       ·rename_i c8;simp only[beq_iff_eq] at c8
        split
        ·exact zF ⟨_,_,_,_,_,_,_,rfl,sm,.inr ⟨rfl,m5,by walk_at "o",b4,by walk_at "o"⟩⟩
        ·exact zF ⟨_,_,_,_,_,_,rfl,sm,m5,by walk_at "o",b4,by walk_at "o"⟩
end
def Srt (blt:Keyed->Keyed->Bool) (arr:Array Keyed) (lo hi:Nat):Prop:=∀i j x y,lo<=i->i<=j->j<hi->arr[i]? =some x->arr[j]? =some y->Le blt x y
def Ninc (blt:Keyed->Keyed->Bool) (arr:Array Keyed) (lo hi:Nat):Prop:=∀i j x y,lo<=i->i<=j->j<hi->arr[i]? =some x->arr[j]? =some y->Le blt y x
def Same2 (blt:Keyed->Keyed->Bool) (arr:Array Keyed) (lo hi:Nat):Prop:=∀i j x y,lo<=i->i<hi->lo<=j->j<hi->arr[i]? =some x->arr[j]? =some y->Le blt x y
structure Kp (lo:Nat) (st st':SortSt):Prop where
 kd:kindOf st'=kindOf st
 pd:pendingOf st'=pendingOf st
 fl:failedOf st'=failedOf st
 pe:(arrOf st').Perm (arrOf st)
 lw:∀i,i<lo->(arrOf st')[i]? =(arrOf st)[i]?
theorem Kp.rfl {lo:Nat}{st:SortSt}:Kp lo st st:=⟨Eq.refl _,Eq.refl _,Eq.refl _,.refl _,fun _ _=>Eq.refl _⟩
theorem Kp.trans {lo:Nat}{st st' st2:SortSt}(h:Kp lo st st')(k:Kp lo st' st2):Kp lo st st2:=⟨k.kd.trans h.kd,k.pd.trans h.pd,k.fl.trans h.fl,k.pe.trans h.pe,fun i hi=>(k.lw i hi).trans (h.lw i hi)⟩
theorem Kp.size {lo:Nat}{st st':SortSt}(h:Kp lo st st'):(arrOf st').size=(arrOf st).size:=h.pe.size_eq
theorem Kp.all {S:Keyed->Prop}{lo:Nat}{st st':SortSt}(h:Kp lo st st')(hS:∀x∈(arrOf st).toList,S x):∀x∈(arrOf st').toList,S x:=fun x hx=>hS x ((jA.mp h.pe).mem_iff.mp hx)
def ascM (lo a nrem:Nat):StateT SortSt Sem (Option (Option Nat)×Nat):=
 forIn [a:nrem] ((none,a):Option (Option Nat)×Nat) fun _ __s=>do
  let __x <-ltAt' (lo+__s.snd) (lo+__s.snd-1)
  match __x with
  | some smaller=>if smaller=true then pure (ForInStep.done (none,__s.snd)) else pure (ForInStep.yield (none,__s.snd+1))
  | _=>pure (ForInStep.done (some none,__s.snd))
def descM (lo n nrem:Nat):StateT SortSt Sem (Option (Option Nat)×Nat×Nat):=
 forIn [n:nrem] ((none,n,0):Option (Option Nat)×Nat×Nat) fun _ __s=>do
  let __x <-ltAt' (lo+__s.snd.fst) (lo+__s.snd.fst-1)
  match __x with
  | some smaller=>
   if smaller=true then
    if __s.snd.snd>0 then do
     reverseSlice' (lo+__s.snd.fst-(__s.snd.snd+1)) (lo+__s.snd.fst)
     pure (ForInStep.yield (none,__s.snd.fst+1,0))
    else pure (ForInStep.yield (none,__s.snd.fst+1,0))
   else do
    let __x <-ltAt' (lo+__s.snd.fst-1) (lo+__s.snd.fst)
    match __x with
    | some larger=>
     if larger=true then pure (ForInStep.done (none,__s.snd.fst,__s.snd.snd))
     else pure (ForInStep.yield (none,__s.snd.fst+1,__s.snd.snd+1))
    | _=>pure (ForInStep.done (some none,__s.snd.fst,__s.snd.snd))
  | _=>pure (ForInStep.done (some none,__s.snd.fst,__s.snd.snd))
section
variable {prog:Program}{w:World}{A:Around}{E:Value->Shared->Prop}{s:Shared}{κ:SortKind}{blt:Keyed->Keyed->Bool}{S:Keyed->Prop}
theorem L4 (hC:Cmp prog w A E s κ blt S){st:SortSt}{i j:Nat}{x y:Keyed}{Q:Option Bool->SortSt->Prop}(hk:kindOf st=κ)(hS:∀x∈(arrOf st).toList,S x)(hi:(arrOf st)[i]? =some x)(hj:(arrOf st)[j]? =some y)(h:Q (some (blt x y)) st):
  wpS (model prog w) A E s (ltAt' i j) Q st:=by
 rw[ltAt'_eq];refine zB (wpS_get ?_);exact zB (i0 hi (zB (i0 hj (hC x y (hS x (b5 hi)) (hS y (b5 hj)) _ _ hk h))))
theorem a0m {st:SortSt}{lo i j:Nat}{Q:Unit->SortSt->Prop}(hi:lo<=i)(hj:j<=(arrOf st).size)
  (h:∀st',Kp lo st st'->(∀k,(arrOf st')[k]? =if i<=k/\k<j then(arrOf st)[i+j-1-k]? else(arrOf st)[k]?)->Q () st'):wpS (model prog w) A E s (reverseSlice' i j) Q st:=by
 refine wpS_reverse (h _ ⟨rfl,rfl,rfl,mirror_perm _ _ _ _,fun k hk=>?_⟩ fun k=>getElem?_mirror_all hj k);show(mirror (arrOf st) i j ((j-i)/2))[k]? =_;rw[getElem?_mirror_all hj,if_neg (by walk_at "o")]
theorem a41 (hC:Cmp prog w A E s κ blt S)(hO:Tot blt S){st:SortSt}{lo a nrem:Nat}{β:Type}{F:Option (Option Nat)×Nat->StateT SortSt Sem β}{Q:β->SortSt->Prop}(hk:kindOf st=κ)(hS:∀x∈(arrOf st).toList,S x)(hz:lo+nrem<=(arrOf st).size)(ha:1<=a)(han:a<=nrem)(hs:Srt blt (arrOf st) lo (lo+a))
  (h:∀n,a<=n->n<=nrem->Srt blt (arrOf st) lo (lo+n)->(n=nrem\/∀x y,(arrOf st)[lo+n]? =some x->(arrOf st)[lo+n-1]? =some y->blt x y=true)->wpS (model prog w) A E s (F (none,n)) Q st):wpS (model prog w) A E s (ascM lo a nrem >>=F) Q st:=by
 unfold ascM
 refine zB (jP (qP (I:=fun x c st'=>st'=st/\c=(none,x)/\Srt blt (arrOf st) lo (lo+x))
  (Q:=fun c st'=>st'=st/\∃n,c=(none,n)/\a<=n/\n<=nrem/\Srt blt (arrOf st) lo (lo+n)/\(n=nrem\/∀x y,(arrOf st)[lo+n]? =some x->(arrOf st)[lo+n-1]? =some y->blt x y=true)) ?step ?fin ⟨rfl,rfl,hs⟩) ?post)
 case fin=>
  rintro c st' ⟨rfl,rfl,hs'⟩;rw[show max a nrem=nrem by walk_at "o"] at hs' ⊢
  exact⟨rfl,nrem,rfl,han,zC _,hs',.inl rfl⟩
 case post=>
  rintro c st' ⟨rfl,n,rfl,h1,h2,h3,h4⟩;exact h n h1 h2 h3 h4
 case step=>
  rintro n c st' hax hxn ⟨rfl,rfl,hs'⟩;dsimp only;obtain⟨x,hx⟩:=g9 (a:=arrOf st') (i:=lo+n) (by walk_at "o")
  obtain⟨y,hy⟩:=g9 (a:=arrOf st') (i:=lo+n-1) (by walk_at "o")
  refine zB (L4 hC hk hS hx hy ?_);dsimp only;cases e:blt x y with
  | true=>
   rw[if_pos rfl];refine zF ⟨rfl,n,rfl,hax,by walk_at "o",hs',.inr fun x' y' hx' hy'=>?_⟩
   rw[hx] at hx';rw[hy] at hy';cases hx';cases hy';exact e
  | false=>
   rw[if_neg (by simp)]
   refine zF ⟨rfl,rfl,fun i j u v hi hij hj hu hv=>?_⟩
   by_cases hjx:j<lo+n
   ·exact hs' i j u v hi hij hjx hu hv
   ·have hj':j=lo+n:=by walk_at "o"
    subst hj';rw[hx] at hv;cases hv
    by_cases hi':i=lo+n
    ·subst hi';rw[hx] at hu;cases hu;exact hO.rf (hS x (b5 hx))
    ·exact hO.tr _ _ _ (hS _ (b5 hu)) (hS _ (b5 hy)) (hS _ (b5 hx)) (hs' i (lo+n-1) u y hi (by walk_at "o") (by walk_at "o") hu hy) e
theorem Same2.mirror {arr arr':Array Keyed}{lo lo2 hi:Nat}(h:∀k,arr'[k]? =if lo2<=k/\k<hi then arr[lo2+hi-1-k]? else arr[k]?)(h2:Same2 blt arr lo2 hi)(hN:Ninc blt arr lo hi):Ninc blt arr' lo hi:=fun i j x y hi' hij hj hx hy=>by
 rw[h] at hx hy
 by_cases hlo:lo2<=i
 ·rw[if_pos (by walk_at "o")] at hx hy
  exact h2 _ _ _ _ (by walk_at "o") (by walk_at "o") (by walk_at "o") (by walk_at "o") hy hx
 ·rw[if_neg (by walk_at "o")] at hx
  by_cases hlj:lo2<=j
  ·rw[if_pos (by walk_at "o")] at hy
   exact hN _ _ _ _ hi' (by walk_at "o") (by walk_at "o") hx hy
  ·rw[if_neg (by walk_at "o")] at hy
   exact hN _ _ _ _ hi' hij hj hx hy
theorem Ninc.grow (hO:Tot blt S){arr:Array Keyed}{lo n:Nat}{x y:Keyed}(hS:∀x∈arr.toList,S x)(h:Ninc blt arr lo (lo+n))(hx:arr[lo+n]? =some x)(hy:arr[lo+n-1]? =some y)(hn:1<=n)(e:Le blt x y):Ninc blt arr lo (lo+(n+1)):=fun i j u v hi hij hj hu hv=>by
 by_cases hjx:j<lo+n
 ·exact h i j u v hi hij hjx hu hv
 ·have hj':j=lo+n:=by walk_at "o"
  subst hj';rw[hx] at hv;cases hv
  by_cases hi':i=lo+n
  ·subst hi';rw[hx] at hu;cases hu;exact hO.rf (hS x (b5 hx))
  ·exact hO.tr _ _ _ (hS _ (b5 hx)) (hS _ (b5 hy)) (hS _ (b5 hu)) e (h i (lo+n-1) u y hi (by walk_at "o") (by walk_at "o") hu hy)
theorem a6p (hC:Cmp prog w A E s κ blt S)(hO:Tot blt S){st:SortSt}{lo a nrem:Nat}{β:Type}{F:Option (Option Nat)×Nat×Nat->StateT SortSt Sem β}{Q:β->SortSt->Prop}(hk:kindOf st=κ)(hS:∀x∈(arrOf st).toList,S x)(hz:lo+nrem<=(arrOf st).size)(ha:1<=a)(han:a<=nrem)(hs:Ninc blt (arrOf st) lo (lo+a))
  (h:∀n neq st',Kp lo st st'->a<=n->n<=nrem->Ninc blt (arrOf st') lo (lo+n)->neq+1<=n->Same2 blt (arrOf st') (lo+n-(neq+1)) (lo+n)->wpS (model prog w) A E s (F (none,n,neq)) Q st'):wpS (model prog w) A E s (descM lo a nrem >>=F) Q st:=by
 unfold descM
 refine zB (jP (qP (I:=fun n c st'=>∃neq,c=(none,n,neq)/\Kp lo st st'/\Ninc blt (arrOf st') lo (lo+n)/\neq+1<=n/\Same2 blt (arrOf st') (lo+n-(neq+1)) (lo+n))
  (Q:=fun c st'=>∃n neq,c=(none,n,neq)/\Kp lo st st'/\a<=n/\n<=nrem/\Ninc blt (arrOf st') lo (lo+n)/\neq+1<=n/\Same2 blt (arrOf st') (lo+n-(neq+1)) (lo+n)) ?step ?fin ⟨0,rfl,.rfl,hs,by walk_at "o",fun i j x y h1 h2 h3 h4 hx hy=>?init⟩) ?post)
 case init=>
  have:i=j:=by walk_at "o"
  subst this;rw[hx] at hy;cases hy;exact hO.rf (hS _ (b5 hx))
 case fin=>
  rintro c st' ⟨neq,rfl,kp,hs',hq,he⟩;rw[show max a nrem=nrem by walk_at "o"] at hs' hq he ⊢
  exact⟨nrem,neq,rfl,kp,han,zC _,hs',hq,he⟩
 case post=>
  rintro c st' ⟨n,neq,rfl,kp,h1,h2,h3,h4,h5⟩;exact h n neq st' kp h1 h2 h3 h4 h5
 case step=>
  rintro n c st' hax hxn ⟨neq,rfl,kp,hs',hq,he⟩;dsimp only;have hS':=kp.all hS;have hsz:=kp.size;have one:∀{arr:Array Keyed} {m:Nat},(∀x∈arr.toList,S x)->Same2 blt arr (lo+(m+1)-(0+1)) (lo+(m+1)):=fun{arr m} hS i j x y h1 h2 h3 h4 hx hy=>by
   have:i=j:=by walk_at "o"
   subst this;rw[hx] at hy;cases hy;exact hO.rf (hS _ (b5 hx))
  obtain⟨x,hx⟩:=g9 (a:=arrOf st') (i:=lo+n) (by walk_at "o")
  obtain⟨y,hy⟩:=g9 (a:=arrOf st') (i:=lo+n-1) (by walk_at "o")
  refine zB (L4 hC (kp.kd.trans hk) hS' hx hy ?_);dsimp only;have sx:=hS' x (b5 hx);have sy:=hS' y (b5 hy);cases e:blt x y with
  | true=>
   rw[if_pos rfl];have le:=hO.as x y sx sy e
   by_cases hneq:neq>0
   ·rw[if_pos hneq];refine zB (a0m (lo:=lo) (by walk_at "o") (by walk_at "o") fun st2 kp2 hm=>?_)
    have kp3:=kp.trans kp2;have hS2:=kp3.all hS;refine zF ⟨0,rfl,kp3,?_,by walk_at "o",one hS2⟩
    obtain⟨y2,hy2⟩:=g9 (a:=arrOf st2) (i:=lo+n-1) (by rw[kp3.size];walk_at "o")
    have hx2:(arrOf st2)[lo+n]? =some x:=by rw[hm,if_neg (by walk_at "o")];exact hx
    refine Ninc.grow hO hS2 (he.mirror hm hs') hx2 hy2 (by walk_at "o") ?_
    rw[hm,if_pos (by walk_at "o")] at hy2
    exact hO.tr _ _ _ sx sy (hS' _ (b5 hy2)) le (he _ _ _ _ (by walk_at "o") (by walk_at "o") (by walk_at "o") (by walk_at "o") hy hy2)
   ·rw[if_neg hneq];exact zF ⟨0,rfl,kp,Ninc.grow hO hS' hs' hx hy (by walk_at "o") le,by walk_at "o",one hS'⟩
  | false=>
   rw[if_neg (by simp)]
   refine zB (L4 hC (kp.kd.trans hk) hS' hy hx ?_);dsimp only;cases e2:blt y x with
   | true=>
    rw[if_pos rfl];exact zF ⟨n,neq,rfl,kp,hax,by walk_at "o",hs',hq,he⟩
   | false=>
    rw[if_neg (by simp)]
    refine zF ⟨neq+1,rfl,kp,Ninc.grow hO hS' hs' hx hy (by walk_at "o") e2,by walk_at "o",fun i j u v h1 h2 h3 h4 hu hv=>?_⟩
    have lx:∀k z,lo+n-(neq+1)<=k->k<=lo+n->(arrOf st')[k]? =some z->Le blt z y/\Le blt y z:=fun k z k1 k2 hz'=>by
     by_cases hk2:k=lo+n
     ·subst hk2;rw[hx] at hz';cases hz';exact⟨e2,e⟩
     ·exact⟨he _ _ _ _ (by walk_at "o") (by walk_at "o") (by walk_at "o") (by walk_at "o") hz' hy,he _ _ _ _ (by walk_at "o") (by walk_at "o") (by walk_at "o") (by walk_at "o") hy hz'⟩
    exact hO.tr _ _ _ (hS' _ (b5 hu)) sy (hS' _ (b5 hv)) (lx i u (by walk_at "o") (by walk_at "o") hu).1 (lx j v (by walk_at "o") (by walk_at "o") hv).2
end
section
variable {prog:Program}{w:World}{A:Around}{E:Value->Shared->Prop}{s:Shared}{κ:SortKind}{blt:Keyed->Keyed->Bool}{S:Keyed->Prop}
theorem Ninc.turned {arr arr':Array Keyed}{lo hi:Nat}(h:∀k,arr'[k]? =if lo<=k/\k<hi then arr[lo+hi-1-k]? else arr[k]?)(hN:Ninc blt arr lo hi):Srt blt arr' lo hi:=fun i j x y hi' hij hj hx hy=>by
 rw[h,if_pos (by walk_at "o")] at hx hy
 exact hN _ _ _ _ (by walk_at "o") (by walk_at "o") (by walk_at "o") hy hx
theorem Ninc.same {arr:Array Keyed}{lo:Nat}(hO:Tot blt S)(hS:∀x∈arr.toList,S x):Ninc blt arr lo (lo+1)/\Srt blt arr lo (lo+1):=by
 constructor
 all_goals
  intro i j x y h1 h2 h3 hx hy
  have:i=j:=by walk_at "o"
  subst this;rw[hx] at hy;cases hy;exact hO.rf (hS _ (b5 hx))
def tailM (lo n nrem:Nat):StateT SortSt Sem (Option Nat):=do
 liftM (rule "list.sort.descending-run")
 let __s <-descM lo (n+1) nrem
 match __s.fst with
 | some r=>pure r
 | none=>
  if __s.snd.snd>0 then do
   reverseSlice' (lo+__s.snd.fst-(__s.snd.snd+1)) (lo+__s.snd.fst)
   reverseSlice' lo (lo+__s.snd.fst)
   let __s <-ascM lo __s.snd.fst nrem
   match __s.fst with
   | some r=>pure r
   | none=>pure (some __s.snd)
  else do
   reverseSlice' lo (lo+__s.snd.fst)
   let __s <-ascM lo __s.snd.fst nrem
   match __s.fst with
   | some r=>pure r
   | none=>pure (some __s.snd)
theorem a2a (hC:Cmp prog w A E s κ blt S)(hO:Tot blt S){st:SortSt}{lo n nrem:Nat}{Q:Option Nat->SortSt->Prop}(hk:kindOf st=κ)(hS:∀x∈(arrOf st).toList,S x)(hz:lo+nrem<=(arrOf st).size)(hn:n+1<=nrem)(hs:Ninc blt (arrOf st) lo (lo+(n+1)))
  (h:∀m st',1<=m->m<=nrem->Kp lo st st'->Srt blt (arrOf st') lo (lo+m)->Q (some m) st'):wpS (model prog w) A E s (tailM lo n nrem) Q st:=by
 unfold tailM;refine zB (wpS_lift (jN ⟨rfl,?_⟩));refine a6p hC hO hk hS hz (by walk_at "o") hn hs fun m neq st1 kp h1 h2 h3 h4 h5=>?_
 dsimp only;have hz1:=kp.size
 by_cases hq:neq>0
 case' pos=>
  rw[if_pos hq];refine zB (a0m (lo:=lo) (by walk_at "o") (by walk_at "o") fun st2 kp1 hm1=>?_)
  have h3:=h5.mirror hm1 h3;have kp:=kp.trans kp1;have hz1:=kp.size
 case' neg=>rw[if_neg hq]
 all_goals
  refine zB (a0m (lo:=lo) (zC _) (by walk_at "o") fun st3 kp2 hm=>?_)
  have kp:=kp.trans kp2;refine a41 hC hO (kp.kd.trans hk) (kp.all hS) (by rw[kp.size];exact hz) (by walk_at "o") h2 (h3.turned hm) fun m2 g1 g2 g3 _=>?_
  exact zF (h m2 st3 (by walk_at "o") g2 kp g3)
theorem Z1 (lo nrem:Nat):countRun' lo nrem=(ascM lo 1 nrem >>=fun __s=>match __s.fst with
  | some r=>pure r
  | none=>
   if(__s.snd==nrem)=true then pure (some __s.snd)
   else if __s.snd>1 then do
    let __x <-ltAt' lo (lo+__s.snd-1)
    match __x with
    | some rose=>if rose=true then pure (some __s.snd) else do
      reverseSlice' lo (lo+__s.snd)
      tailM lo __s.snd nrem
    | _=>pure none
   else tailM lo __s.snd nrem):=by
 rw[countRun'_eq];unfold tailM descM ascM;dsimp only;congr 1
 funext __s
 obtain⟨r,n⟩:=__s;cases r with
 | some r=>rfl
 | none=>
  dsimp only
  split
  ·rfl
  ·split
   ·congr 1
    funext x
    cases x with
    | none=>rfl
    | some rose=>
     dsimp only
     split
     ·rfl
     ·congr 1
      funext _r
      congr 1;funext _u;congr 1;funext s2;obtain⟨r2,n2,q2⟩:=s2;cases r2 with
      | some r2=>rfl
      | none=>
       dsimp only
       split
       ·congr 1;funext _v;congr 1;funext _w;congr 1;funext s3;obtain⟨r3,n3⟩:=s3;cases r3<;>rfl
       ·congr 1;funext _w;congr 1;funext s3;obtain⟨r3,n3⟩:=s3;cases r3<;>rfl
   ·congr 1;funext _u;congr 1;funext s2;obtain⟨r2,n2,q2⟩:=s2;cases r2 with
    | some r2=>rfl
    | none=>
     dsimp only
     split
     ·congr 1;funext _v;congr 1;funext _w;congr 1;funext s3;obtain⟨r3,n3⟩:=s3;cases r3<;>rfl
     ·congr 1;funext _w;congr 1;funext s3;obtain⟨r3,n3⟩:=s3;cases r3<;>rfl
theorem a5o (hC:Cmp prog w A E s κ blt S)(hO:Tot blt S){st:SortSt}{lo nrem:Nat}{Q:Option Nat->SortSt->Prop}(hk:kindOf st=κ)(hS:∀x∈(arrOf st).toList,S x)(hz:lo+nrem<=(arrOf st).size)(h1:1<=nrem)
  (h:∀m st',1<=m->m<=nrem->Kp lo st st'->Srt blt (arrOf st') lo (lo+m)->Q (some m) st'):wpS (model prog w) A E s (countRun' lo nrem) Q st:=by
 rw[Z1];refine a41 hC hO hk hS hz (zC 1) h1 (Ninc.same hO hS).2 fun n n1 n2 n3 n4=>?_;dsimp only
 by_cases hn:n=nrem
 ·rw[if_pos (by simpa using hn)]
  exact zF (h n st n1 n2 .rfl n3)
 rw[if_neg (by simpa using hn)]
 obtain⟨x,hx⟩:=g9 (a:=arrOf st) (i:=lo+n) (by walk_at "o")
 obtain⟨y,hy⟩:=g9 (a:=arrOf st) (i:=lo+n-1) (by walk_at "o")
 have sx:=hS x (b5 hx);have sy:=hS y (b5 hy);have e:=(n4.resolve_left hn) x y hx hy
 by_cases hn1:n>1
 ·rw[if_pos hn1];obtain⟨z,hz2⟩:=g9 (a:=arrOf st) (i:=lo) (by walk_at "o")
  refine zB (L4 hC hk hS hz2 hy ?_);dsimp only;cases e2:blt z y with
  | true=>rw[if_pos rfl];exact zF (h n st n1 n2 .rfl n3)
  | false=>
   rw[if_neg (by simp)]
   have sz:=hS z (b5 hz2);have all:Same2 blt (arrOf st) lo (lo+n):=fun i j u v a1 a2 a3 a4 hu hv=>
    hO.tr _ _ _ (hS _ (b5 hu)) sy (hS _ (b5 hv)) (n3 i (lo+n-1) u y a1 (by walk_at "o") (by walk_at "o") hu hy) (hO.tr _ _ _ sy sz (hS _ (b5 hv)) e2 (n3 lo j z v (zC _) a3 a4 hz2 hv))
   refine zB (a0m (lo:=lo) (zC _) (by walk_at "o") fun st2 kp hm=>?_)
   have hS2:=kp.all hS;obtain⟨y2,hy2⟩:=g9 (a:=arrOf st2) (i:=lo+n-1) (by rw[kp.size];walk_at "o")
   have nin:Ninc blt (arrOf st) lo (lo+n):=fun i j u v a1 a2 a3 hu hv=>all j i v u (by walk_at "o") a3 a1 (by walk_at "o") hv hu
   have hx2:(arrOf st2)[lo+n]? =some x:=by rw[hm,if_neg (by walk_at "o")];exact hx
   have g:=Ninc.grow (n:=n) hO hS2 (all.mirror hm nin) hx2 hy2 (by walk_at "o") (by
    rw[hm,if_pos (by walk_at "o")] at hy2
    exact hO.tr _ _ _ sx sy (hS _ (b5 hy2)) (hO.as x y sx sy e) (all _ _ _ _ (by walk_at "o") (by walk_at "o") (by walk_at "o") (by walk_at "o") hy hy2))
   exact a2a hC hO (kp.kd.trans hk) hS2 (by rw[kp.size];exact hz) (by walk_at "o") g fun m st3 m1 m2 kp2 so=>h m st3 m1 m2 (kp.trans kp2) so
 ·rw[if_neg hn1]
  have:n=1:=by walk_at "o"
  subst this;exact a2a hC hO hk hS hz (by walk_at "o") (Ninc.grow hO hS (Ninc.same hO hS).1 hx hy (by walk_at "o") (hO.as x y sx sy e)) h
theorem a7A (hC:Cmp prog w A E s κ blt S)(hO:Tot blt S){st:SortSt}{lo n ok:Nat}{Q:Bool->SortSt->Prop}(hk:kindOf st=κ)(hS:∀x∈(arrOf st).toList,S x)(hz:lo+n<=(arrOf st).size)(hok:ok<=n)(h1:1<=ok)(hs:Srt blt (arrOf st) lo (lo+ok))
  (h:∀st',Kp lo st st'->Srt blt (arrOf st') lo (lo+n)->Q true st'):wpS (model prog w) A E s (binarySort' lo n ok) Q st:=by
 rw[binarySort'_eq]
 refine zB (jP (qP (I:=fun k c st'=>c=(none,())/\Kp lo st st'/\Srt blt (arrOf st') lo (lo+min k n))
  (Q:=fun c st'=>c=(none,())/\Kp lo st st'/\Srt blt (arrOf st') lo (lo+n)) ?step ?fin ⟨rfl,.rfl,by rw[show min (max ok 1) n=ok by walk_at "o"];exact hs⟩) ?post)
 case post=>
  rintro c st' ⟨rfl,kp,hs'⟩;exact zF (h st' kp hs')
 case fin=>
  rintro c st' ⟨hc,kp,hs'⟩;refine⟨hc,kp,?_⟩
  rwa [show min (max (max ok 1) n) n=n by walk_at "o"] at hs'
 case step=>
  rintro k c st' hak hkn ⟨rfl,kp,hs'⟩;rw[show min k n=k by walk_at "o"] at hs'
  have hS':=kp.all hS;have hsz:=kp.size;have hk':=kp.kd.trans hk;obtain⟨x,hx⟩:=g9 (a:=arrOf st') (i:=lo+k) (by walk_at "o")
  have sx:=hS' x (b5 hx)
  refine zB (jP (qP (I:=fun q c st''=>st''=st'/\∃l r,c=(none,l,r)/\l<=r/\r<=k/\r-l<=k-q/\
    (∀i u,lo<=i->i<lo+l->(arrOf st')[i]? =some u->Le blt u x)/\(∀i u,lo+r<=i->i<lo+k->(arrOf st')[i]? =some u->Le blt x u))
   (Q:=fun c st''=>st''=st'/\∃l r,c=(none,l,r)/\l<=k/\
    (∀i u,lo<=i->i<lo+l->(arrOf st')[i]? =some u->Le blt u x)/\(∀i u,lo+l<=i->i<lo+k->(arrOf st')[i]? =some u->Le blt x u)) ?istep ?ifin ?iinit) ?ipost)
  case iinit=>exact⟨rfl,0,k,rfl,by walk_at "o",by walk_at "o",by walk_at "o",fun i u h1 h2=>by walk_at "o",fun i u h1 h2=>by walk_at "o"⟩
  case ifin=>
   rintro c st'' ⟨rfl,l,r,rfl,hlr,hrk,hm,hlo,hhi⟩
   have:l=r:=by walk_at "o"
   subst this;exact⟨rfl,l,l,rfl,hrk,hlo,hhi⟩
  case istep=>
   rintro q c st'' _ hxk ⟨rfl,l,r,rfl,hlr,hrk,hm,hlo,hhi⟩;dsimp only
   by_cases hge:l≥r
   ·rw[if_pos hge]
    have:l=r:=by walk_at "o"
    subst this;exact zF ⟨rfl,l,l,rfl,hrk,hlo,hhi⟩
   ·rw[if_neg hge];obtain⟨y,hy⟩:=g9 (a:=arrOf st'') (i:=lo+(l+r)/2) (by walk_at "o")
    have sy:=hS' y (b5 hy);refine zB (L4 hC hk' hS' hx hy ?_);dsimp only;cases e:blt x y with
    | true=>
     rw[if_pos rfl];refine zF ⟨rfl,l,(l+r)/2,rfl,by walk_at "o",by walk_at "o",by walk_at "o",hlo,fun i u h1 h2 hu=>?_⟩
     exact hO.tr _ _ _ sx sy (hS' _ (b5 hu)) (hO.as x y sx sy e) (hs' _ _ _ _ (by walk_at "o") h1 h2 hy hu)
    | false=>
     rw[if_neg (by simp)]
     refine zF ⟨rfl,(l+r)/2+1,r,rfl,by walk_at "o",by walk_at "o",by walk_at "o",fun i u h1 h2 hu=>?_,hhi⟩
     exact hO.tr _ _ _ (hS' _ (b5 hu)) sy sx (hs' i (lo+(l+r)/2) u y h1 (by walk_at "o") (by walk_at "o") hu hy) e
  case ipost=>
   rintro c st'' ⟨rfl,l,r,rfl,hlk,hlo,hhi⟩;show wpS _ _ _ _ (do moveDown' (lo+k) (lo+l);pure (ForInStep.yield (none,()))) _ _
   rw[moveDown'_eq];have hb:∀q,(bubble (arrOf st'') (lo+k) (lo+k-(lo+l)))[q]? =if q=lo+k-(lo+k-(lo+l)) then(arrOf st'')[lo+k]? else if lo+k-(lo+k-(lo+l))<q/\q<=lo+k then(arrOf st'')[q-1]? else(arrOf st'')[q]?:=getElem?_bubble (by walk_at "o") _ (by walk_at "o")
   rw[show lo+k-(lo+k-(lo+l))=lo+l by walk_at "o"] at hb
   refine zB (wpS_modify (zF ⟨rfl,kp.trans ⟨rfl,rfl,rfl,bubble_perm _ _ _,fun i hi=>?_⟩,?_⟩))
   ·show(bubble (arrOf st'') (lo+k) (lo+k-(lo+l)))[i]? =_;rw[hb,if_neg (by walk_at "o"),if_neg (by walk_at "o")]
   ·rw[show min (k+1) n=k+1 by walk_at "o"]
    intro i j u v h1 h2 h3 hu hv
    replace hu:(bubble (arrOf st'') (lo+k) (lo+k-(lo+l)))[i]? =some u:=hu
    replace hv:(bubble (arrOf st'') (lo+k) (lo+k-(lo+l)))[j]? =some v:=hv
    rw[hb] at hu hv;rw[hx] at hu hv
    by_cases i1:i=lo+l
    ·rw[if_pos i1] at hu;cases hu
     by_cases j1:j=lo+l
     ·rw[if_pos j1] at hv;cases hv;exact hO.rf sx
     ·rw[if_neg j1,if_pos (by walk_at "o")] at hv
      exact hhi _ _ (by walk_at "o") (by walk_at "o") hv
    ·rw[if_neg i1] at hu
     by_cases j1:j=lo+l
     ·rw[if_pos j1] at hv;cases hv;rw[if_neg (by walk_at "o")] at hu
      exact hlo _ _ h1 (by walk_at "o") hu
     ·rw[if_neg j1] at hv
      by_cases i2:lo+l<i/\i<=lo+k
      ·rw[if_pos i2] at hu;rw[if_pos (by walk_at "o")] at hv
       exact hs' _ _ _ _ (by walk_at "o") (by walk_at "o") (by walk_at "o") hu hv
      ·rw[if_neg i2] at hu
       by_cases j2:lo+l<j/\j<=lo+k
       ·rw[if_pos j2] at hv;exact hs' _ _ _ _ (by walk_at "o") (by walk_at "o") (by walk_at "o") hu hv
       ·rw[if_neg j2] at hv;exact hs' _ _ _ _ h1 h2 (by walk_at "o") hu hv
end
theorem a0O (i:Nat):mergeAt' i=(do
 let s <-get
 let (some (sa,na,power),some (sb,nb,_)):=((pendingOf s)[i]?,(pendingOf s)[i+1]?)|unsupported "internal:list.sort.pending"
 set (setPending s (((pendingOf s).setIfInBounds i (sa,na+nb,power)).eraseIdxIfInBounds (i+1)))
 let some k <-gallop' false (<-elem' (arrOf s) sb) (arrOf s) sa na 0|return false
 let (sa,na):=(sa+k,na-k)
 if na==0 then return true
 let some nb <-gallop' true (<-elem' (arrOf s) (sa+na-1)) (arrOf s) sb nb (nb-1)|return false
 if nb==0 then return true
 let x:=(arrOf s).extract sa sb
 let y:=(arrOf s).extract sb (sb+nb)
 let merged <-if na<=nb then mergeLo' x y else mergeHi' x y
 modify fun s=>setArr s (merged.toList.zipIdx.foldl (fun a (p,j)=>a.setIfInBounds (sa+j) p) (arrOf s))
 return (failedOf (<-get)).isNone):=rfl
theorem a56 {M:Model}{A:Around}{E:Value->Shared->Prop}{s:Shared}{st st':SortSt}{Q:PUnit->SortSt->Prop}(h:Q ⟨⟩ st'):wpS M A E s (set st':StateT SortSt Sem PUnit) Q st:=by
 unfold wpS;rw[StateT.run_set];exact zD ⟨rfl,h⟩
abbrev seg (l:List Keyed) (a b:Nat):List Keyed:=(l.take b).drop a
theorem a2m {l:List Keyed}{a b c:Nat}(h1:a<=b)(h2:b<=c)(h3:a<=l.length):seg l a c=seg l a b++seg l b c:=by
 unfold seg;have e:l.take b=(l.take c).take b:=by rw[List.take_take,Nat.min_eq_left h2]
 rw[e,<-jW (by rw[qF,qF];walk_at "o"),jE]
theorem w6 {arr:Array Keyed}{a b:Nat}{z:Keyed}(h:z∈seg arr.toList a b):∃i,a<=i/\i<b/\arr[i]? =some z:=by
 obtain⟨i,hi⟩:=jZ.mp h;rw[jU,jV] at hi;split at hi
 ·rename_i hlt;rw[zM] at hi;exact⟨a+i,by walk_at "o",hlt,hi⟩
 ·cases hi
theorem a2v (arr:Array Keyed)(a b:Nat):(arr.extract a b).toList=seg arr.toList a b:=by
 rw[Array.toList_extract,List.extract_eq_take_drop];unfold seg;rw[take_drop]
 by_cases h:a<=b
 ·rw[Nat.add_sub_cancel' h]
 ·rw[jB (by rw[qF];walk_at "o"),jB (by rw[qF];walk_at "o")]
theorem a0s (sa:Nat):∀(l:List Keyed) (j:Nat) (arr:Array Keyed),sa+j+l.length<=arr.size->((l.zipIdx j).foldl (fun a (q:Keyed×Nat)=>a.setIfInBounds (sa+q.2) q.1) arr).toList=arr.toList.take (sa+j)++l++arr.toList.drop (sa+j+l.length)
 | [],j,arr,h=>by simp
 | x::l,j,arr,h=>by
  rw[qC] at h;rw[List.zipIdx_cons,List.foldl_cons,a0s sa l (j+1) _ (by rw[Array.size_setIfInBounds];walk_at "o")]
  dsimp only;have hj:sa+j<arr.toList.length:=by rw[zK];walk_at "o"
  rw[Array.toList_setIfInBounds,List.set_eq_take_append_cons_drop,if_pos hj];have e1:(arr.toList.take (sa+j)++x::arr.toList.drop (sa+j+1)).take (sa+(j+1))=arr.toList.take (sa+j)++[x]:=by
   rw[List.take_append,qY (by rw[qF];walk_at "o"),qF,Nat.min_eq_left (by walk_at "o"),show sa+(j+1)-(sa+j)=1 by walk_at "o"];rfl
  have e2:(arr.toList.take (sa+j)++x::arr.toList.drop (sa+j+1)).drop (sa+(j+1)+l.length)=arr.toList.drop (sa+j+(l.length+1)):=by
   rw[List.drop_append,jB (by rw[qF];walk_at "o"),nil_append,qF,Nat.min_eq_left (by walk_at "o"),show sa+(j+1)+l.length-(sa+j)=l.length+1 by walk_at "o",List.drop_succ_cons,drop_drop]
   congr 1;walk_at "o"
  rw[e1,e2,qC,qR,qR,qR];rfl
section
variable {prog:Program}{w:World}{A:Around}{E:Value->Shared->Prop}{s:Shared}{κ:SortKind}{blt:Keyed->Keyed->Bool}{S:Keyed->Prop}
theorem Srt.list {arr:Array Keyed}{lo hi:Nat}(h:Srt blt arr lo hi):(seg arr.toList lo hi).Pairwise (Le blt):=by
 rw[List.pairwise_iff_getElem];intro i j hi' hj hij;have ei:=jY hi';have ej:=jY hj;have lj:=hj;rw[length_drop,qF] at lj;rw[jU,jV,if_pos (by walk_at "o"),zM] at ei ej
 exact h _ _ _ _ (by walk_at "o") (by walk_at "o") (by walk_at "o") ei ej
theorem Srt.of (hO:Tot blt S){arr:Array Keyed}{lo hi:Nat}(hS:∀x∈arr.toList,S x)(h:(seg arr.toList lo hi).Pairwise (Le blt)):Srt blt arr lo hi:=fun i j x y h1 h2 h3 hx hy=>by
 by_cases e:i=j
 ·subst e;rw[hx] at hy;cases hy;exact hO.rf (hS x (b5 hx))
 ·have at_:∀{k z},lo<=k->k<hi->arr[k]? =some z->(seg arr.toList lo hi)[k-lo]? =some z:=fun{k z} k1 k2 hk=>by
   rw[jU,jV,if_pos (by walk_at "o"),zM,show lo+(k-lo)=k by walk_at "o"];exact hk
  obtain⟨a1,a2⟩:=zE.mp (at_ h1 (by walk_at "o") hx)
  obtain⟨b1,b2⟩:=zE.mp (at_ (by walk_at "o") h3 hy)
  have:=(List.pairwise_iff_getElem.mp h) (i-lo) (j-lo) a1 b1 (by walk_at "o")
  rwa [a2,b2] at this
structure Mg (blt:Keyed->Keyed->Bool) (sa n:Nat) (st st':SortSt) (ps:Array (Nat×Nat×Nat)):Prop where
 kd:kindOf st'=kindOf st
 pd:pendingOf st'=ps
 fl:failedOf st'=failedOf st
 pe:(arrOf st').Perm (arrOf st)
 ot:∀i,i<sa\/sa+n<=i->(arrOf st')[i]? =(arrOf st)[i]?
 so:Srt blt (arrOf st') sa (sa+n)
theorem a1L (hC:Cmp prog w A E s κ blt S)(hO:Tot blt S){st:SortSt}{i sa na pa sb nb pb:Nat}{Q:Bool->SortSt->Prop}(hk:kindOf st=κ)(hF:failedOf st=none)(hS:∀x∈(arrOf st).toList,S x)(hi:(pendingOf st)[i]? =some (sa,na,pa))(hj:(pendingOf st)[i+1]? =some (sb,nb,pb))
  (hb:sb=sa+na) (n1:1<=na) (n2:1<=nb) (hz:sb+nb<=(arrOf st).size) (sA:Srt blt (arrOf st) sa sb) (sB:Srt blt (arrOf st) sb (sb+nb))
  (h:∀st',Mg blt sa (na+nb) st st' (((pendingOf st).setIfInBounds i (sa,na+nb,pa)).eraseIdxIfInBounds (i+1))->Q true st'):wpS (model prog w) A E s (mergeAt' i) Q st:=by
 rw[a0O];refine zB (wpS_get ?_);rw[hi,hj];dsimp only;refine zB (a56 ?_);generalize hps:((pendingOf st).setIfInBounds i (sa,na+nb,pa)).eraseIdxIfInBounds (i+1)=ps at h ⊢;obtain⟨b0,hb0⟩:=g9 (a:=arrOf st) (i:=sb) (by walk_at "o")
 have sb0:=hS b0 (b5 hb0);refine zB (i0 hb0 (zB (N0 hC hO hk sb0 (by walk_at "o") (by walk_at "o") (fun i x _ hx=>hS x (b5 hx)) (fun i j x y hij hj hx hy=>sA _ _ _ _ (by walk_at "o") (by walk_at "o") (by walk_at "o") hx hy) fun k k0 k1 k2=>?_)))
 dsimp only;have lk:∀i z,sa<=i->i<sa+k->(arrOf st)[i]? =some z->Le blt z b0:=fun i z h1 h2 hz=>by
  have:=k1 (i-sa) z (by walk_at "o") (by rw[show sa+(i-sa)=i by walk_at "o"];exact hz)
  unfold bey at this;unfold Le;simpa using this
 by_cases c1:na-k=0
 ·rw[if_pos (by simpa using c1)]
  refine zF (h _ ⟨rfl,rfl,rfl,.refl _,fun _ _=>rfl,fun i j x y h1 h2 h3 hx hy=>?_⟩)
  by_cases j1:j<sb
  ·exact sA i j x y h1 h2 j1 hx hy
  ·by_cases i1:i<sb
   ·exact hO.tr _ _ _ (hS _ (b5 hx)) sb0 (hS _ (b5 hy)) (lk i x h1 (by walk_at "o") hx) (sB sb j b0 y (zC _) (by walk_at "o") (by walk_at "o") hb0 hy)
   ·exact sB i j x y (by walk_at "o") h2 (by walk_at "o") hx hy
 rw[if_neg (by simpa using c1)]
 obtain⟨al,hal⟩:=g9 (a:=arrOf st) (i:=sa+k+(na-k)-1) (by walk_at "o")
 have sal:=hS al (b5 hal);have hal':(arrOf st)[sb-1]? =some al:=by rw[show sb-1=sa+k+(na-k)-1 by walk_at "o"];exact hal
 refine zB (i0 hal (zB (N0 hC hO hk sal (by walk_at "o") (by walk_at "o") (fun i x _ hx=>hS x (b5 hx)) (fun i j x y hij hj hx hy=>sB _ _ _ _ (by walk_at "o") (by walk_at "o") (by walk_at "o") hx hy) fun l l0 l1 l2=>?_)))
 dsimp only;have ll:∀i z,sb+l<=i->i<sb+nb->(arrOf st)[i]? =some z->Le blt al z:=fun i z h1 h2 hz=>by
  have:=l2 (i-sb) z (by walk_at "o") (by walk_at "o") (by rw[show sb+(i-sb)=i by walk_at "o"];exact hz)
  unfold bey at this;unfold Le;simpa using this
 by_cases c2:l=0
 ·rw[if_pos (by simpa using c2)]
  refine zF (h _ ⟨rfl,rfl,rfl,.refl _,fun _ _=>rfl,fun i j x y h1 h2 h3 hx hy=>?_⟩)
  by_cases j1:j<sb
  ·exact sA i j x y h1 h2 j1 hx hy
  ·by_cases i1:i<sb
   ·exact hO.tr _ _ _ (hS _ (b5 hx)) sal (hS _ (b5 hy)) (sA i (sb-1) x al h1 (by walk_at "o") (by walk_at "o") hx hal') (ll j y (by walk_at "o") (by walk_at "o") hy)
   ·exact sB i j x y (by walk_at "o") h2 (by walk_at "o") hx hy
 rw[if_neg (by simpa using c2)]
 have L:=(zK (xs:=arrOf st));have lm:∀i z,sb<=i->i<sb+l->(arrOf st)[i]? =some z->Le blt z al:=fun i z h1 h2 hz=>by
  have:=l1 (i-sb) z (by walk_at "o") (by rw[show sb+(i-sb)=i by walk_at "o"];exact hz)
  unfold bey at this;exact hO.as _ _ (hS _ (b5 hz)) sal (by simpa using this)
 have lg:∀i z,sa+k<=i->i<sb->(arrOf st)[i]? =some z->Le blt b0 z:=fun i z h1 h2 hz=>by
  have:=k2 (i-sa) z (by walk_at "o") (by walk_at "o") (by rw[show sa+(i-sa)=i by walk_at "o"];exact hz)
  unfold bey at this;exact hO.as _ _ sb0 (hS _ (b5 hz)) (by simpa using this)
 have eX:=a2v (arrOf st) (sa+k) sb;have eY:=a2v (arrOf st) sb (sb+l);have zX:((arrOf st).extract (sa+k) sb).size=sb-(sa+k):=by rw[Array.size_extract];walk_at "o"
 have zY:((arrOf st).extract sb (sb+l)).size=l:=by rw[Array.size_extract];walk_at "o"
 have getX:∀i,i<sb-(sa+k)->((arrOf st).extract (sa+k) sb)[i]? =(arrOf st)[sa+k+i]?:=fun i hi=>by rw[Array.getElem?_extract,if_pos (by walk_at "o")]
 have getY:∀i,i<l->((arrOf st).extract sb (sb+l))[i]? =(arrOf st)[sb+i]?:=fun i hi=>by rw[Array.getElem?_extract,if_pos (by walk_at "o")]
 have pX:((arrOf st).extract (sa+k) sb).toList.Pairwise (Le blt):=by rw[eX];exact Srt.list fun i j x y h1 h2 h3=>sA i j x y (by walk_at "o") h2 h3
 have pY:((arrOf st).extract sb (sb+l)).toList.Pairwise (Le blt):=by rw[eY];exact Srt.list fun i j x y h1 h2 h3=>sB i j x y h1 h2 (by walk_at "o")
 have main:∀(r:Array Keyed) (st2:SortSt),Gd blt ((arrOf st).extract (sa+k) sb).toList ((arrOf st).extract sb (sb+l)).toList r.toList->SmG (setPending st ps) st2->
   wpS (model prog w) A E s (do
    modify fun s=>setArr s (r.toList.zipIdx.foldl (fun a (p,j)=>a.setIfInBounds (sa+k+j) p) (arrOf s))
    return (failedOf (<-get)).isNone) Q st2:=by
  intro r st2 gd sm;refine zB (wpS_modify (zB (wpS_get (zF ?_))));have ef:(failedOf (setArr st2 (r.toList.zipIdx.foldl (fun a (p,j)=>a.setIfInBounds (sa+k+j) p) (arrOf st2)))).isNone=true:=by
   show(failedOf st2).isNone=true;rw[sm.2.2.2];show(failedOf st).isNone=true;rw[hF];rfl
  rw[ef];have ea:arrOf st2=arrOf st:=sm.2.1;have lr:r.toList.length=sb-(sa+k)+l:=by
   rw[gd.1.length_eq,zO,zK,zK,zX,zY]
  have el:(r.toList.zipIdx.foldl (fun a (q:Keyed×Nat)=>a.setIfInBounds (sa+k+q.2) q.1) (arrOf st)).toList=(arrOf st).toList.take (sa+k)++r.toList++(arrOf st).toList.drop (sb+l):=by
   rw[a0s (sa+k) r.toList 0 (arrOf st) (by walk_at "o"),lr]
   congr 2;walk_at "o"
  generalize hq:r.toList.zipIdx.foldl (fun a (q:Keyed×Nat)=>a.setIfInBounds (sa+k+q.2) q.1) (arrOf st)=N at el;have eN:arrOf (setArr st2 (r.toList.zipIdx.foldl (fun a (p,j)=>a.setIfInBounds (sa+k+j) p) (arrOf st2)))=N:=by
   rw[ea];exact hq
  have pe:N.Perm (arrOf st):=by
   rw[jA,el];have e2:(arrOf st).toList=(arrOf st).toList.take (sa+k)++(seg (arrOf st).toList (sa+k) sb++seg (arrOf st).toList sb (sb+l))++(arrOf st).toList.drop (sb+l):=by
    rw[<-a2m (by walk_at "o") (by walk_at "o") (by walk_at "o")]
    have:(arrOf st).toList.take (sa+k)++seg (arrOf st).toList (sa+k) (sb+l)=(arrOf st).toList.take (sb+l):=by
     have:=a2m (l:=(arrOf st).toList) (a:=0) (b:=sa+k) (c:=sb+l) (qW _) (by walk_at "o") (qW _)
     unfold seg at this ⊢;rw[xF,xF] at this;exact this.symm
    rw[this,jE]
   conv=>rhs;rw[e2]
   exact List.Perm.append_right _ (List.Perm.append_left _ (by rw[<-eX,<-eY];exact gd.1))
  refine h _ ⟨sm.1,sm.2.2.1,sm.2.2.2,by rw[eN];exact pe,fun i hi=>?_,?_⟩
  ·rw[eN,<-zM,<-zM,el];have lt:((arrOf st).toList.take (sa+k)).length=sa+k:=by rw[qF];walk_at "o"
   rcases hi with hi|hi
   ·rw[qR,zU (by walk_at "o"),jV,if_pos (by walk_at "o")]
   ·rw[zZ (by rw[zO];walk_at "o"),zO,lt,lr,jU]
    congr 1;walk_at "o"
  ·rw[eN];have hSN:∀x∈N.toList,S x:=fun x hx=>hS x ((jA.mp pe).mem_iff.mp hx);refine Srt.of hO hSN ?_;have e3:seg N.toList sa (sa+(na+nb))=seg (arrOf st).toList sa (sa+k)++r.toList++seg (arrOf st).toList (sb+l) (sb+nb):=by
    unfold seg;rw[el];have lt:((arrOf st).toList.take (sa+k)).length=sa+k:=by rw[qF];walk_at "o"
    rw[List.take_append,qY (by rw[zO];walk_at "o"),zO,lt,lr,qR,jW (by walk_at "o"),<-qR]
    congr 1;rw[take_drop];congr 2;walk_at "o"
   rw[e3];have mr:∀z∈r.toList,(∃i,sa+k<=i/\i<sb/\(arrOf st)[i]? =some z)\/∃i,sb<=i/\i<sb+l/\(arrOf st)[i]? =some z:=fun z hz=>by
    rcases jM.mp (gd.1.mem_iff.mp hz) with z1|z1
    ·rw[eX] at z1;exact .inl (w6 z1)
    ·rw[eY] at z1;exact .inr (w6 z1)
   have sOf:∀{i z},(arrOf st)[i]? =some z->S z:=fun hz=>hS _ (b5 hz);refine xO.mpr ⟨xO.mpr ⟨Srt.list fun i j x y h1 h2 h3=>sA i j x y h1 h2 (by walk_at "o"),gd.2,fun u hu v hv=>?_⟩,Srt.list fun i j x y h1 h2 h3=>sB i j x y (by walk_at "o") h2 h3,fun u hu v hv=>?_⟩
   ·obtain⟨i,i1,i2,i3⟩:=w6 hu;rcases mr v hv with ⟨j,j1,j2,j3⟩|⟨j,j1,j2,j3⟩
    ·exact sA i j u v i1 (by walk_at "o") j2 i3 j3
    ·exact hO.tr _ _ _ (sOf i3) sb0 (sOf j3) (lk i u i1 i2 i3) (sB sb j b0 v (zC _) j1 (by walk_at "o") hb0 j3)
   ·obtain⟨j,j1,j2,j3⟩:=w6 hv;rcases jM.mp hu with hu|hu
    ·obtain⟨i,i1,i2,i3⟩:=w6 hu;exact hO.tr _ _ _ (sOf i3) sb0 (sOf j3) (lk i u i1 i2 i3) (sB sb j b0 v (zC _) (by walk_at "o") j2 hb0 j3)
    ·rcases mr u hu with ⟨i,i1,i2,i3⟩|⟨i,i1,i2,i3⟩
     ·exact hO.tr _ _ _ (sOf i3) sal (sOf j3) (sA i (sb-1) u al (by walk_at "o") (by walk_at "o") (by walk_at "o") i3 hal') (ll j v j1 j2 j3)
     ·exact sB i j u v i1 (by walk_at "o") j2 i3 j3
 have hSX:∀x∈((arrOf st).extract (sa+k) sb).toList,S x:=fun x hx=>by rw[eX] at hx;obtain⟨i,_,_,hi⟩:=w6 hx;exact hS _ (b5 hi)
 have hSY:∀x∈((arrOf st).extract sb (sb+l)).toList,S x:=fun x hx=>by rw[eY] at hx;obtain⟨i,_,_,hi⟩:=w6 hx;exact hS _ (b5 hi)
 have fst_:∀x,((arrOf st).extract sb (sb+l))[0]? =some x->∀y∈((arrOf st).extract (sa+k) sb).toList,Le blt x y:=fun x hx y hy=>by
  rw[getY 0 (by walk_at "o"),Nat.add_zero,hb0] at hx;cases hx
  rw[eX] at hy;obtain⟨i,i1,i2,i3⟩:=w6 hy;exact lg i y i1 i2 i3
 have lst_:∀y,((arrOf st).extract (sa+k) sb)[((arrOf st).extract (sa+k) sb).size-1]? =some y->∀x∈((arrOf st).extract sb (sb+l)).toList,Le blt x y:=fun y hy x hx=>by
  rw[zX,getX _ (by walk_at "o"),show sa+k+(sb-(sa+k)-1)=sb-1 by walk_at "o",hal'] at hy;cases hy
  rw[eY] at hx;obtain⟨i,i1,i2,i3⟩:=w6 hx;exact lm i x i1 i2 i3
 by_cases c3:na-k<=l
 ·rw[if_pos c3];exact zB (a1Q hC hO (st:=setPending st ps) hk hSX hSY pX pY (by walk_at "o") (by walk_at "o") fst_ lst_ main)
 ·rw[if_neg c3];exact zB (a1D hC hO (st:=setPending st ps) hk hSX hSY pX pY (by walk_at "o") (by walk_at "o") fst_ lst_ main)
end
def Rn (blt:Keyed->Keyed->Bool) (arr:Array Keyed):Nat->List (Nat×Nat×Nat)->Nat->Prop
 | at_,[],lo=>at_=lo
 | at_,(s,n,_)::ps,lo=>s=at_/\1<=n/\Srt blt arr at_ (at_+n)/\Rn blt arr (at_+n) ps lo
section
variable {blt:Keyed->Keyed->Bool}{arr arr':Array Keyed}{at_ m lo n:Nat}{ps qs:List (Nat×Nat×Nat)}
theorem Rn.le:∀{ps:List (Nat×Nat×Nat)} {at_:Nat},Rn blt arr at_ ps lo->at_+ps.length<=lo
 | [],at_,h=>by rw[show at_=lo from h];simp
 | (s,n,p)::ps,at_,h=>by have:=h.2.2.2.le;have:=h.2.1;rw[qC];walk_at "o"
theorem Rn.congr:∀{ps:List (Nat×Nat×Nat)} {at_:Nat},Rn blt arr at_ ps lo->(∀k,at_<=k->k<lo->arr'[k]? =arr[k]?)->Rn blt arr' at_ ps lo
 | [],at_,h,_=>h
 | (s,n,p)::ps,at_,h,e=>by
  have l:=h.2.2.2.le;exact⟨h.1,h.2.1,fun i j x y h1 h2 h3 hx hy=>h.2.2.1 i j x y h1 h2 h3 (by rw[<-e i h1 (by walk_at "o")];exact hx) (by rw[<-e j (by walk_at "o") (by walk_at "o")];exact hy),h.2.2.2.congr fun k h1 h2=>e k (by walk_at "o") h2⟩
theorem Rn.app:∀{ps:List (Nat×Nat×Nat)} {at_:Nat},Rn blt arr at_ ps m->Rn blt arr m qs lo->Rn blt arr at_ (ps++qs) lo
 | [],at_,h,k=>by rw[show at_=m from h];exact k
 | (s,n,p)::ps,at_,h,k=>⟨h.1,h.2.1,h.2.2.1,h.2.2.2.app k⟩
theorem Rn.mod {f:Nat×Nat×Nat->Nat×Nat×Nat}(hf:∀x,(f x).1=x.1/\(f x).2.1=x.2.1):∀{ps:List (Nat×Nat×Nat)} {at_:Nat} (i:Nat),Rn blt arr at_ ps lo->Rn blt arr at_ (ps.modify i f) lo
 | [],at_,i,h=>by cases i<;>exact h
 | (s,n,p)::ps,at_,0,h=>by
  have:=hf (s,n,p)
  rw[List.modify_zero_cons];generalize f (s,n,p)=q at this;obtain⟨s',n',p'⟩:=q;obtain⟨rfl,rfl⟩:=this;exact h
 | (s,n,p)::ps,at_,i+1,h=>by
  rw[List.modify_succ_cons];exact⟨h.1,h.2.1,h.2.2.1,h.2.2.2.mod hf i⟩
theorem Rn.cut:∀{ps:List (Nat×Nat×Nat)} {at_:Nat},Rn blt arr at_ (ps++qs) lo->∃m,Rn blt arr at_ ps m/\Rn blt arr m qs lo
 | [],at_,h=>⟨at_,rfl,h⟩
 | (s,n,p)::ps,at_,h=>by
  obtain⟨m,h1,h2⟩:=Rn.cut (ps:=ps) h.2.2.2;exact⟨m,⟨h.1,h.2.1,h.2.2.1,h1⟩,h2⟩
end
section
variable {prog:Program}{w:World}{A:Around}{E:Value->Shared->Prop}{s:Shared}{κ:SortKind}{blt:Keyed->Keyed->Bool}{S:Keyed->Prop}
theorem W4 (hC:Cmp prog w A E s κ blt S)(hO:Tot blt S){st:SortSt}{i lo:Nat}{Q:Bool->SortSt->Prop}(hk:kindOf st=κ)(hF:failedOf st=none)(hS:∀x∈(arrOf st).toList,S x)(hi:i+1<(pendingOf st).size)(hR:Rn blt (arrOf st) 0 (pendingOf st).toList lo)(hz:lo<=(arrOf st).size)
  (h:∀st',kindOf st'=κ->failedOf st'=none->(arrOf st').Perm (arrOf st)->(∀k,lo<=k->(arrOf st')[k]? =(arrOf st)[k]?)->(pendingOf st').size+1=(pendingOf st).size->Rn blt (arrOf st') 0 (pendingOf st').toList lo->Q true st'):wpS (model prog w) A E s (mergeAt' i) Q st:=by
 generalize hp:(pendingOf st).toList=ps at hR;have lp:ps.length=(pendingOf st).size:=by rw[<-hp,zK]
 have e:ps=ps.take i++(ps[i]'(by walk_at "o")::ps[i+1]'(by walk_at "o")::ps.drop (i+2)):=by
  rw[xR,xR,jE]
 generalize ps[i]'(by walk_at "o")=u at e
 generalize ps[i+1]'(by walk_at "o")=v at e
 obtain⟨sa,na,pa⟩:=u;obtain⟨sb,nb,pb⟩:=v;have li:(ps.take i).length=i:=by rw[qF];walk_at "o"
 generalize ps.take i=P at e li;generalize ps.drop (i+2)=R at e;subst e;obtain⟨m,r1,r2⟩:=hR.cut;obtain⟨rfl,n1,so1,rfl,n2,so2,r3⟩:=r2;have l3:=r3.le;have l1:=r1.le;have g1:(pendingOf st)[i]? =some (sa,na,pa):=by rw[<-zM,hp,zZ (by walk_at "o"),li,jL];rfl
 have g2:(pendingOf st)[i+1]? =some (sa+na,nb,pb):=by rw[<-zM,hp,zZ (by walk_at "o"),li,show i+1-i=1 by walk_at "o"];rfl
 refine a1L hC hO hk hF hS g1 g2 rfl n1 n2 (by walk_at "o") so1 so2 fun st' g=>?_
 have ep:(pendingOf st').toList=P++(sa,na+nb,pa)::R:=by
  rw[g.pd,Array.toList_eraseIdxIfInBounds,Array.toList_setIfInBounds,hp,List.set_append_right _ _ (by walk_at "o"),li,jL,List.set_cons_zero,List.eraseIdx_append_of_length_le (by walk_at "o"),li,show i+1-i=1 by walk_at "o"]
  rfl
 refine h st' (g.kd.trans hk) (g.fl.trans hF) g.pe (fun k hk=>g.ot k (.inr (by walk_at "o"))) ?_ ?_
 ·rw[<-zK,<-zK (xs:=pendingOf st),ep,hp];simp only[zO,qC];walk_at "o"
 ·rw[ep];refine(r1.congr fun k _ h2=>g.ot k (.inl h2)).app ⟨rfl,by walk_at "o",g.so,?_⟩
  rw[show sa+(na+nb)=sa+na+nb by walk_at "o"]
  exact r3.congr fun k h1 _=>g.ot k (.inr (by walk_at "o"))
theorem a1g (hC:Cmp prog w A E s κ blt S)(hO:Tot blt S){st:SortSt}{Q:Unit->SortSt->Prop}(hk:kindOf st=κ)(hF:failedOf st=none)(hP:pendingOf st= #[])(hS:∀x∈(arrOf st).toList,S x)(h2:1<=(arrOf st).size)
  (h:∀st',(arrOf st').Perm (arrOf st)->failedOf st'=none->Srt blt (arrOf st') 0 (arrOf st').size->Q () st'):wpS (model prog w) A E s sortRuns' Q st:=by
 rw[sortRuns'_eq];refine zB (wpS_get ?_);dsimp only;generalize hN:(arrOf st).size=N at h2 ⊢;generalize minRun' N N 0=mr;have Sof:∀{st':SortSt},(arrOf st').Perm (arrOf st)->∀x∈(arrOf st').toList,S x:=fun pe x hx=>hS x ((jA.mp pe).mem_iff.mp hx)
 refine zB (jP (qP
  (I:=fun x c st'=>∃lo,c=(none,lo)/\x<=lo/\lo<=N/\kindOf st'=κ/\failedOf st'=none/\(arrOf st').Perm (arrOf st)/\Rn blt (arrOf st') 0 (pendingOf st').toList lo)
  (Q:=fun c st'=>c=(none,N)/\kindOf st'=κ/\failedOf st'=none/\(arrOf st').Perm (arrOf st)/\Rn blt (arrOf st') 0 (pendingOf st').toList N) ?step ?fin ⟨0,rfl,zC _,qW _,hk,hF,.refl _,by rw[hP];rfl⟩) ?post)
 case fin=>
  rintro c st' ⟨lo,rfl,h1,h2,h3⟩
  have:lo=N:=by walk_at "o"
  subst this;exact⟨rfl,h3⟩
 case step=>
  rintro x c st' _ hx ⟨lo,rfl,h1,h2,h3,h4,h5,h6⟩;dsimp only
  by_cases hlo:lo≥N
  ·rw[if_pos hlo]
   have:lo=N:=by walk_at "o"
   subst this;exact zF ⟨rfl,h3,h4,h5,h6⟩
  rw[if_neg hlo];have z5:(arrOf st').size=N:=by rw[h5.size_eq,hN]
  refine zB (a5o hC hO h3 (Sof h5) (by walk_at "o") (by walk_at "o") fun n st2 n1 n2 kp so=>?_)
  have R2:Rn blt (arrOf st2) 0 (pendingOf st2).toList lo:=by rw[kp.pd];exact h6.congr fun k _ hk=>kp.lw k hk
  dsimp only
  by_cases hm:n<mr
  case' pos=>
   rw[if_pos hm];refine zB (wpS_lift (jN ⟨rfl,?_⟩));refine zB (a7A hC hO (kp.kd.trans h3) (kp.all (Sof h5)) (by rw[kp.size];walk_at "o") (by walk_at "o") n1 so fun st3 kp3 so3=>?_)
   rw[if_neg (by simp)]
   have R3:Rn blt (arrOf st3) 0 (pendingOf st3).toList lo:=by rw[kp3.pd];exact R2.congr fun k _ hk=>kp3.lw k hk
   have kp3:=kp.trans kp3;have f1:1<=min (N-lo) mr:=by walk_at "o"
   have f2:lo+min (N-lo) mr<=N:=by walk_at "o"
  case' neg=>
   rw[if_neg hm];have R3:=R2;have kp3:=kp;have so3:=so;have f1:=n1;have f2:lo+n<=N:=by walk_at "o"
  all_goals
   have k3:=kp3.kd.trans h3;have q3:=kp3.fl.trans h4;have p3:=kp3.pe.trans h5;refine zB (wpS_get ?_)
   split
   ·refine zB (jP (qP
     (I:=fun _ c st'=>c=(none,())/\kindOf st'=κ/\failedOf st'=none/\(arrOf st').Perm (arrOf st)/\Rn blt (arrOf st') 0 (pendingOf st').toList lo/\Srt blt (arrOf st') lo (lo+_))
     (Q:=fun c st'=>c=(none,())/\kindOf st'=κ/\failedOf st'=none/\(arrOf st').Perm (arrOf st)/\Rn blt (arrOf st') 0 (pendingOf st').toList lo/\Srt blt (arrOf st') lo (lo+_)) ?stp (fun c st' hh=>hh) ⟨rfl,k3,q3,p3,R3,so3⟩) ?pst)
    case stp=>
     rintro y c st4 _ hy ⟨rfl,k4,q4,p4,R4,so4⟩;refine zB (wpS_get ?_)
     split
     ·split
      ·exact zF ⟨rfl,k4,q4,p4,R4,so4⟩
      ·rename_i e _;have hs2:(pendingOf st4).size>1:=by
        by_cases z:(pendingOf st4).size>1
        ·exact z
        ·rw[if_neg z] at e;cases e
       refine zB (W4 hC hO k4 q4 (Sof p4) (by walk_at "o") R4 (by rw[p4.size_eq,hN];walk_at "o") fun st5 k5 q5 p5 o5 _ R5=>?_)
       rw[if_neg (by simp)]
       exact zF ⟨rfl,k5,q5,p5.trans p4,R5,fun i j u v a1 a2 a3 hu hv=>so4 i j u v a1 a2 a3 (by rw[<-o5 i a1];exact hu) (by rw[<-o5 j (by walk_at "o")];exact hv)⟩
     ·exact zF ⟨rfl,k4,q4,p4,R4,so4⟩
    case pst=>
     rintro c st4 ⟨rfl,k4,q4,p4,R4,so4⟩;dsimp only;refine zB (wpS_modify (zB (wpS_modify (zF ⟨_,rfl,by walk_at "o",f2,k4,q4,p4,?_⟩))))
     show Rn blt (arrOf st4) 0 (((pendingOf st4).modify _ _).push _).toList _;rw[Array.toList_push,Array.toList_modify];refine Rn.app (m:=lo) (qs:=[(lo,_,0)]) (Rn.mod ?_ _ R4) ⟨rfl,f1,so4,rfl⟩;exact fun x=>⟨rfl,rfl⟩
   ·refine zB (wpS_modify (zF ⟨_,rfl,by walk_at "o",f2,k3,q3,p3,?_⟩))
    show Rn blt (arrOf _) 0 ((pendingOf _).push _).toList _;rw[Array.toList_push];exact R3.app (qs:=[(lo,_,0)]) ⟨rfl,f1,so3,rfl⟩
 case post=>
  rintro c st' ⟨rfl,h3,h4,h5,h6⟩;dsimp only
  refine zB (jP (qP
   (I:=fun x c st'=>c=(none,())/\kindOf st'=κ/\failedOf st'=none/\(arrOf st').Perm (arrOf st)/\Rn blt (arrOf st') 0 (pendingOf st').toList N/\(pendingOf st').size+x<=N)
   (Q:=fun c st'=>c=(none,())/\failedOf st'=none/\(arrOf st').Perm (arrOf st)/\Srt blt (arrOf st') 0 N) ?stp2 ?fin2 ⟨rfl,h3,h4,h5,h6,by have:=h6.le;rw[zK] at this;walk_at "o"⟩) ?pst2)
  case fin2=>
   rintro c st' ⟨rfl,k4,q4,p4,R4,l4⟩
   exfalso
   have:(pendingOf st').toList=[]:=List.eq_nil_of_length_eq_zero (by rw[zK];walk_at "o")
   rw[this] at R4
   have:0=N:=R4
   walk_at "o"
  case stp2=>
   rintro y c st4 _ hy ⟨rfl,k4,q4,p4,R4,l4⟩;refine zB (wpS_get ?_)
   by_cases hs:(pendingOf st4).size<=1
   ·rw[if_pos hs];refine zF ⟨rfl,q4,p4,?_⟩;rw[<-zK] at hs;generalize (pendingOf st4).toList=ps at hs R4
    match ps,hs,R4 with
    | [],_,R4=>have:0=N:=R4;walk_at "o"
    | [(s,n,p)],_,R4=>
     obtain⟨_,_,a3,a4⟩:=R4;have a4:0+n=N:=a4
     rwa [a4] at a3
   rw[if_neg hs];refine zB (W4 hC hO k4 q4 (Sof p4) ?_ R4 (by rw[p4.size_eq,hN];walk_at "o") fun st5 k5 q5 p5 o5 z5 R5=>?_)
   ·generalize Option.any _ _=t;cases t<;>simp<;>walk_at "o"
   ·rw[if_neg (by simp)]
    exact zF ⟨rfl,k5,q5,p5.trans p4,R5,by walk_at "o"⟩
  case pst2=>
   rintro c st4 ⟨rfl,q4,p4,so4⟩;exact zF (h st4 p4 q4 (by rw[p4.size_eq,hN];exact so4))
end
end Z
theorem ex5 {α β:Type}{A B C:α->β->Prop}{G:Prop}(h:∃x y,A x y/\B x y/\C x y)(k:∀x y,A x y->B x y->C x y->G):G:=by
 obtain⟨x,y,a,b,c⟩:=h;exact k x y a b c
namespace L2
open PySem PySem.Spec PyProof.Rows
abbrev Key:=Sum Int Str
def keyIs:Key->Value->Bool
 | .inl k,v=>Value.isInt k v
 | .inr x,v=>Value.isStrOf x v
def keyH (w:World):Key->Int
 | .inl k=>hashInt k
 | .inr x=>hashStr w x
theorem k7:∀{k:Key} {v:Value},keyIs k v=true->(∃i t,k=Sum.inl i/\v=Value.int i t)\/(∃x t,k=Sum.inr x/\v=Value.str x t)
 | .inl i,v,h=>by
  obtain⟨t,e⟩:=Value.isInt_shape (k:=i) (v:=v) h;exact .inl ⟨i,t,rfl,e⟩
 | .inr x,v,h=>by
  obtain⟨t,e⟩:=Value.isStrOf_shape (x:=x) (v:=v) h;exact .inr ⟨x,t,rfl,e⟩
theorem a28 (i:Int)(t:Tok):keyIs (.inl i) (.int i t)=true:=by simp[keyIs,Value.isInt]
theorem a3z (x:Str)(t:Tok):keyIs (.inr x) (.str x t)=true:=by simp[keyIs,Value.isStrOf]
theorem a7P (a b:Int):decide ((Sum.inl a:Key)=Sum.inl b)=(a==b):=by
 by_cases e:a=b
 ·subst e;simp
 ·have h:¬(Sum.inl a:Key)=Sum.inl b:=fun q=>e (Sum.inl.inj q);rw[qB h];exact(beq_eq_false_iff_ne.mpr e).symm
theorem a8x (a b:Str):decide ((Sum.inr a:Key)=Sum.inr b)=decide (a=b):=by
 by_cases e:a=b
 ·subst e;simp
 ·have h:¬(Sum.inr a:Key)=Sum.inr b:=fun q=>e (Sum.inr.inj q);rw[qB h,qB e]
theorem a7C (a:Int)(b:Str):decide ((Sum.inl a:Key)=Sum.inr b)=false:=qB (fun q=>nomatch q)
theorem a8w (a:Str)(b:Int):decide ((Sum.inr a:Key)=Sum.inl b)=false:=qB (fun q=>nomatch q)
def mixKind (prog:Program) (w:World):PySem.KeyKind prog w Key where
 is:=keyIs
 hash:=keyH w
 inj:=fun v a b ha hb=>by
  rcases k7 ha with ⟨i,t,rfl,rfl⟩|⟨x,t,rfl,rfl⟩
  ·rcases k7 hb with ⟨j,u,rfl,e⟩|⟨y,u,rfl,e⟩
   ·injection e with e1 _;rw[e1]
   ·exact nomatch e
  ·rcases k7 hb with ⟨j,u,rfl,e⟩|⟨y,u,rfl,e⟩
   ·exact nomatch e
   ·injection e with e1 _;rw[e1]
 byValue:=fun k v h=>by
  rcases k7 h with ⟨i,t,rfl,rfl⟩|⟨x,t,rfl,rfl⟩<;>rfl
 pyHash:=fun hv h=>by
  rcases k7 hv with ⟨i,t,rfl,rfl⟩|⟨x,t,rfl,rfl⟩
  ·exact wpAny_pyHash_int h
  ·exact wpAny_pyHash_str h
 eqBool:=fun hu hv h=>by
  rcases k7 hu with ⟨i,t,rfl,rfl⟩|⟨x,t,rfl,rfl⟩
  ·rcases k7 hv with ⟨j,u,rfl,rfl⟩|⟨y,u,rfl,rfl⟩
   ·rw[a7P] at h;exact wpAny_eqBool_int h
   ·rw[a7C] at h;exact SeqAt.EqAt.int_str i t y u _ _ _ _ h
  ·rcases k7 hv with ⟨j,u,rfl,rfl⟩|⟨y,u,rfl,rfl⟩
   ·rw[a8w] at h;exact SeqAt.EqAt.str_int x t j u _ _ _ _ h
   ·rw[a8x] at h;exact wpAny_eqBool_str h
 «strs»:=fun k x t v h=>by
  rcases k7 h with ⟨i,u,rfl,e⟩|⟨y,u,rfl,e⟩
  ·exact nomatch e
  ·injection e with e1 _
   subst e1;cases v<;>rfl
theorem a0N (prog:Program)(w:World)(i:Int)(t:Tok):(mixKind prog w).is (.inl i) (.int i t)=true:=a28 i t
theorem a0G (prog:Program)(w:World)(x:Str)(t:Tok):(mixKind prog w).is (.inr x) (.str x t)=true:=a3z x t
inductive V where
 | non|bl (b:Bool)|int (i:Int)|str (x:Str)|byt (b:Array UInt8)|flt (b:UInt64)|ref (a:Addr)|ty (n:String)
def RelV:V->Value->Prop
 | .non,u=>u=Value.none
 | .bl b,u=>u=Value.bool b
 | .int i,u=>∃t,u=Value.int i t
 | .str x,u=>∃t,u=Value.str x t
 | .byt b,u=>∃t,u=Value.bytes b t
 | .flt b,u=>∃t,u=Value.float b t
 | .ref a,u=>u=Value.ref a
 | .ty n,u=>u=Value.type n
abbrev Vals:List V->List Value->Prop:=Paired RelV
theorem Vals.length {xs:List V}{us:List Value}(r:Vals xs us):xs.length=us.length:=xM r
theorem Vals.get:∀{xs:List V} {us:List Value} {i:Nat} {x:V},Vals xs us->xs[i]? =some x->∃u,us[i]? =some u/\RelV x u
 | _,_,_,_,.nil,e=>by simp at e
 | _,_,0,_,.cons r _,e=>by simp at e;subst e;exact⟨_,rfl,r⟩
 | _,_,i+1,x,.cons _ t,e=>by
  obtain⟨u,h1,h2⟩:=Vals.get (i:=i) (x:=x) t (by simpa using e)
  exact⟨u,by simpa using h1,h2⟩
theorem Vals.set {x:V}{u:Value}(r:RelV x u):∀{xs:List V} {us:List Value} (i:Nat),Vals xs us->Vals (xs.set i x) (us.set i u)
 | _,_,_,.nil=>.nil
 | _,_,0,.cons _ t=>.cons r t
 | _,_,i+1,.cons q t=>.cons q (Vals.set r i t)
theorem Vals.append:∀{xs ys:List V} {us ws:List Value},Vals xs us->Vals ys ws->Vals (xs++ys) (us++ws)
 | _,_,_,_,.nil,s=>s
 | _,_,_,_,.cons r t,s=>.cons r (Vals.append t s)
theorem Vals.take:∀{xs:List V} {us:List Value} (n:Nat),Vals xs us->Vals (xs.take n) (us.take n)
 | _,_,0,_=>.nil
 | _,_,_+1,.nil=>.nil
 | _,_,n+1,.cons r t=>.cons r (Vals.take n t)
theorem Vals.drop:∀{xs:List V} {us:List Value} (n:Nat),Vals xs us->Vals (xs.drop n) (us.drop n)
 | _,_,0,r=>r
 | _,_,_+1,.nil=>.nil
 | _,_,n+1,.cons _ t=>Vals.drop n t
def RelO:Option V->Option Value->Prop
 | some v,some u=>RelV v u
 | none,none=>True
 | _,_=>False
def KV {κ:Type}:List (κ×V)->List (κ×Value)->Prop:=Paired fun(p:κ×V) (q:κ×Value)=>p.1=q.1/\RelV p.2 q.2
def kV:Key->V
 | .inl i=>.int i
 | .inr x=>.str x
inductive HO where
 | lst (xs:List V)
 | tup (xs:List V)
 | dK (kvs:List (Key×V))|dT (kvs:List (List Key×V))
 | set (S:Int->Bool) (n:Nat)
 | ins (C dx:Addr) (fs:List (Str×V))
 | own (x:Addr)
 | xd (fs:List (Str×V))
 | met (f x:Addr)
 | rng (lo hi:Int)
 | frz (o:Obj) (u:HO)
 | tbl (ps:Array Value)
 | ext (φ:Heap->Prop)
abbrev Hp:=Addr->Option HO
def upd (H:Hp) (a:Addr) (o:HO):Hp:=fun b=>if b=a then some o else H b
theorem o4 {H:Hp}{a:Addr}{o:HO}:upd H a o a=some o:=by unfold upd;rw[if_pos rfl]
theorem b8 {H:Hp}{a b:Addr}{o:HO}(h:b≠a):upd H a o b=H b:=by unfold upd;rw[if_neg h]
theorem t6 {H:Hp}{a b:Addr}{o:HO}(h:H a=some o)(h':H b=none):a≠b:=by
 intro e;subst e;rw[h] at h';cases h'
def TupN (h:Heap) (a:Addr) (its:Array Value):Prop:=∃o,h.get? a=some o/\o.cls= .type "tuple"/\(∃n,o.data= .seq its n)/\o.dict=none
theorem TupN.is {h:Heap}{a:Addr}{its:Array Value}(x:TupN h a its):IsTup h a its:=let ⟨o,e,c,d,_⟩:=x;⟨o,e,c,d⟩
theorem TupN.new (h:Heap)(its:Array Value):TupN (h.push {cls:=.type "tuple",data:=.seq its}) h.objs.size its:=⟨_,qK _ rfl,rfl,⟨_,rfl⟩,rfl⟩
def Rd (H:Hp) (a:Addr) (u:HO):Prop:=H a=some u\/∃o,H a=some (.frz o u)
def SqT (K:PySem.W.Frag) (H:Hp) (a:Addr) (xs:List V):Prop:=
 Rd H a (.tup xs)\/
  ∃(o:Obj) (its:Array Value) (n:Nat),K.lookup a=some o/\o.cls= .type "tuple"/\o.dict=none/\o.data= .seq its n/\its.size<=sizeLine/\Vals xs its.toList
theorem Rd.upd {H:Hp}{a b:Addr}{u o:HO}(r:Rd H b u)(n:b≠a):Rd (upd H a o) b u:=by
 rcases r with r|⟨ob,r⟩
 ·exact .inl (by rw[b8 n];exact r)
 ·exact .inr ⟨ob,by rw[b8 n];exact r⟩
theorem Rd.ex {H:Hp}{b:Addr}{u:HO}(r:Rd H b u):H b≠none:=by
 rcases r with r|⟨ob,r⟩<;>rw[r]<;>exact nofun
theorem Rd.ne {H:Hp}{a b:Addr}{u:HO}(r:Rd H b u)(n:H a=none):b≠a:=fun z=>r.ex (by rw[z];exact n)
section
variable (K:PySem.W.Frag)(P:Program)(w:World)
def ObjOk (H:Hp) (h:Heap) (a:Addr):HO->Prop
 | .lst xs=>xs.length<=sizeLine/\∃(its:List Value) (n:Nat),Vals xs its/\h.get? a=some {cls:=.type "list",data:=.seq its.toArray n}
 | .tup xs=>xs.length<=sizeLine/\∃its:List Value,Vals xs its/\TupN h a its.toArray
 | .dK kvs=>kvs.length<=sizeLine/\(a==sysModules)=false/\∃vs,KV kvs vs/\h.DictAt (mixKind P w) a vs kvs.length
 | .dT kvs=>kvs.length<=sizeLine/\(a==sysModules)=false/\∃xs:List (List Key×Addr×Value),
   Paired (fun(p:List Key×V) (q:List Key×Addr×Value)=>p.1=q.1/\SqT K H q.2.1 (p.1.map kV)/\RelV p.2 q.2.2) kvs xs/\
   ∃o es,h.get? a=some o/\o.ExactDict/\o.data= .dict es kvs.length/\es.toList=xs.map (entryOfKey (tupleKind (mixKind P w)))/\(xs.map (·.1)).Nodup
 | .set S n=>h.SetOf (intKind P w) a S n
 | .ins C dx fs=>H dx=some (.own a)/\fs.length<=1000/\dx≠a/\h.get? a=some (PySem.W.instObj C dx)/\
   ∃mA,h.Ns1 dx mA/\(∀f,RelO (fs.lookup f) (mA f))/\PySem.Within mA (fs.map (·.1))
 | .own _=>∃o,h.get? a=some o
 | .xd fs=>∃mA,h.Ns1 a mA/\∀f,RelO (fs.lookup f) (mA f)
 | .rng lo hi=>∃t u v,h.get? a=some {cls:=.type "range",data:=.fields #[.int lo t,.int hi u,.int 1 v]}
 | .frz o u=>h.get? a=some o/\ObjOk H h a u
 | .tbl ps=>h.get? a=some {cls:=.none,data:=.fields ps}
 | .met f x=>h.get? a=some (PySem.W.methodObj (.ref f) (.ref x))
 | .ext φ=>φ h/\(∃o,h.get? a=some o)/\∀h1 h2:Heap,φ h1->(∀o,h1.get? a=some o->h2.get? a=some o)->φ h2
def HOk (H:Hp) (h:Heap):Prop:=∀a o,H a=some o->ObjOk K P w H h a o
end
section
variable {K:PySem.W.Frag}{P:Program}{w:World}{H H':Hp}{h h':Heap}{a:Addr}{o:HO}
theorem ObjOk.lt (x:ObjOk K P w H h a o):a<h.objs.size:=by
 cases o with
 | lst xs=>obtain⟨_,_,_,_,e⟩:=x;exact qA e
 | tup xs=>obtain⟨_,_,_,p⟩:=x;exact p.is.lt
 | dK kvs=>obtain⟨_,_,_,_,o,_,e,_⟩:=x;exact qA e
 | dT kvs=>obtain⟨_,_,_,_,o,_,e,_⟩:=x;exact qA e
 | set S n=>obtain⟨o,_,_,_,e,_⟩:=x;exact qA e
 | ins C dx fs=>obtain⟨_,_,_,e,_⟩:=x;exact qA e
 | own y=>obtain⟨_,e⟩:=x;exact qA e
 | xd fs=>obtain⟨_,⟨_,_,_,e,_⟩,_⟩:=x;exact qA e
 | rng lo hi=>obtain⟨_,_,_,e⟩:=x;exact qA e
 | frz ob u=>obtain⟨e,_⟩:=x;exact qA e
 | tbl ps=>exact qA (show h.get? a=some _ from x)
 | met f y=>exact qA (show h.get? a=some _ from x)
 | ext φ=>obtain⟨_,⟨_,e⟩,_⟩:=x;exact qA e
theorem Paired.mapP {α β:Type}{F G:α->β->Prop}:∀{l₁:List α} {l₂:List β},Paired F l₁ l₂->(∀a b,F a b->G a b)->Paired G l₁ l₂
 | _,_,.nil,_=>.nil
 | _,_,.cons r t,f=>.cons (f _ _ r) (Paired.mapP t f)
theorem ObjOk.stay (x:ObjOk K P w H h a o)(k:∀b u,(b=a\/H b=some (.own a))->h.get? b=some u->h'.get? b=some u)
  (ho:∀b,H b=some (.own a)->H' b=some (.own a)) (ht:∀b xs,Rd H b (.tup xs)->Rd H' b (.tup xs)):ObjOk K P w H' h' a o:=by
 induction o with
 | lst xs=>obtain⟨z,its,n,r,e⟩:=x;exact⟨z,its,n,r,k _ _ (.inl rfl) e⟩
 | tup xs=>obtain⟨z,its,r,ob,e,c⟩:=x;exact⟨z,its,r,ob,k _ _ (.inl rfl) e,c⟩
 | dK kvs=>obtain⟨z,y,vs,r,ob,es,e,c⟩:=x;exact⟨z,y,vs,r,ob,es,k _ _ (.inl rfl) e,c⟩
 | dT kvs=>
  obtain⟨z,y,xs,r,ob,es,e,c⟩:=x;exact⟨z,y,xs,Paired.mapP r fun p q z=>⟨z.1,z.2.1.imp (ht _ _) id,z.2.2⟩,ob,es,k _ _ (.inl rfl) e,c⟩
 | set S n=>obtain⟨ob,es,ep,t,e,c⟩:=x;exact⟨ob,es,ep,t,k _ _ (.inl rfl) e,c⟩
 | ins C dx fs=>
  obtain⟨d,z,ne,e,mA,⟨od,es,ep,e2,c⟩,r⟩:=x;exact⟨ho _ d,z,ne,k _ _ (.inl rfl) e,mA,⟨od,es,ep,k _ _ (.inr d) e2,c⟩,r⟩
 | own y=>obtain⟨ob,e⟩:=x;exact⟨ob,k _ _ (.inl rfl) e⟩
 | xd fs=>obtain⟨mA,⟨od,es,ep,e,c⟩,r⟩:=x;exact⟨mA,⟨od,es,ep,k _ _ (.inl rfl) e,c⟩,r⟩
 | rng lo hi=>obtain⟨t,u,v,e⟩:=x;exact⟨t,u,v,k _ _ (.inl rfl) e⟩
 | frz ob u ih=>obtain⟨e,q⟩:=x;exact⟨k _ _ (.inl rfl) e,ih q⟩
 | tbl ps=>
  have e:h.get? a=some {cls:=.none,data:=.fields ps}:=x;show h'.get? a=some {cls:=.none,data:=.fields ps};exact k a _ (.inl rfl) e
 | met f y=>
  have e:h.get? a=some (PySem.W.methodObj (.ref f) (.ref y)):=x;show h'.get? a=some (PySem.W.methodObj (.ref f) (.ref y));exact k a _ (.inl rfl) e
 | ext φ=>obtain⟨p,⟨o,e⟩,st⟩:=x;exact⟨st _ _ p fun o q=>k _ _ (.inl rfl) q,⟨o,k _ _ (.inl rfl) e⟩,st⟩
theorem HOk.lt (x:HOk K P w H h)(e:H a=some o):a<h.objs.size:=(x a o e).lt
theorem HOk.fresh (x:HOk K P w H h)(e:h.objs.size<=a):H a=none:=by
 cases q:H a with
 | none=>rfl
 | some u=>exact absurd (zG (x.lt q) e) (xN _)
theorem HOk.kept (x:HOk K P w H h)(k:∀b u,h.get? b=some u->h'.get? b=some u):HOk K P w H h':=fun a o e=>
 (x a o e).stay (fun b u _ q=>k b u q) (fun _ q=>q) fun _ _ q=>q
theorem HOk.laid (x:HOk K P w H h)(k:∀b u,h.get? b=some u->h'.get? b=some u)(hp:h.objs.size<=a)(new:ObjOk K P w (upd H a o) h' a o):HOk K P w (upd H a o) h':=fun b u e=>by
 have hn:=x.fresh hp
 by_cases hb:b=a
 ·subst hb;rw[o4] at e;cases e;exact new
 ·rw[b8 hb] at e;exact(x b u e).stay (fun c v _ q=>k c v q) (fun c q=>by rw[b8 (t6 q hn)];exact q) fun c xs q=>q.upd (q.ne hn)
end
theorem Rd.of {H:Hp}{a:Addr}{u:HO}(h:H a=some u):Rd H a u:=.inl h
theorem Rd.ok {K:PySem.W.Frag}{P:Program}{w:World}{H:Hp}{h:Heap}{a:Addr}{u:HO}(r:Rd H a u)(x:HOk K P w H h):ObjOk K P w H h a u:=by
 rcases r with r|⟨o,r⟩
 ·exact x a u r
 ·obtain⟨_,q⟩:=x a _ r;exact q
def Mut:Option HO->Prop
 | some (.lst _)=>True
 | some (.dK _)=>True
 | some (.dT _)=>True
 | some (.set _ _)=>True
 | some (.ins _ _ _)=>True
 | some (.ext _)=>True
 | _=>False
section
variable {K:PySem.W.Frag}{P:Program}{w:World}{H:Hp}{h h':Heap}{x e:Addr}{o':HO}
theorem HOk.write (ok:HOk K P w H h)(mu:Mut (H x))(he:e=x\/H e=some (.own x))(k:∀b u,b≠e->h.get? b=some u->h'.get? b=some u)(heo:∃u,h'.get? e=some u)
  (new:ObjOk K P w (upd H x o') h' x o'):HOk K P w (upd H x o') h':=fun b u q=>by
 have nown:∀c y,H c=some (.own y)->c≠x:=fun c y r z=>by subst z;rw[r] at mu;exact mu
 have ntup:∀c xs,Rd H c (.tup xs)->c≠x:=fun c xs r z=>by subst z;rcases r with r|⟨_,r⟩<;>rw[r] at mu<;>exact mu
 by_cases hb:b=x
 ·subst hb;rw[o4] at q;cases q;exact new
 ·rw[b8 hb] at q
  by_cases hbe:b=e
  ·have q':H b=some (.own x):=by
    rcases he with z|z
    ·exact absurd (hbe.trans z) hb
    ·rw[hbe];exact z
   rw[q] at q';cases q';obtain⟨v,hv⟩:=heo;exact⟨v,by rw[hbe];exact hv⟩
  ·refine(ok b u q).stay (fun c v hc r=>k c v ?_ r) (fun c r=>by rw[b8 (nown c b r)];exact r) fun c xs r=>r.upd (ntup c xs r)
   rcases hc with rfl|hc
   ·exact hbe
   ·rintro rfl;rcases he with z|z
    ·exact nown c b hc z
    ·rw[hc] at z;cases z;exact hb rfl
end
structure Un (fs ex:List Addr) (H H':Hp) (h h':Heap):Prop where
 keep:∀b o,h.get? b=some o->H b=none->b∉fs->b∉ex->h'.get? b=some o
 slot:∀b o,h.get? b=some o->H b=none->b∈fs->b∉ex->∃sl,h'.get? b=some {o with slots:=sl}
 free:∀b o,h.get? b=some o->H b=none->b∉ex->H' b=none
 there:∀b o,h.get? b=some o->b∉ex->∃o',h'.get? b=some o'
 tups:∀b xs,H b=some (.tup xs)->H' b=some (.tup xs)
 frzs:∀b o u,H b=some (.frz o u)->H' b=some (.frz o u)
 tbls:∀b ps,H b=some (.tbl ps)->∃more,H' b=some (.tbl (ps++more))
section
variable {fs ex:List Addr}{H H1:Hp}{h h1 h':Heap}{a x e:Addr}{o:HO}
theorem Un.any (u:Un fs ex H H1 h h1){b:Addr}{ob:Obj}(q:h.get? b=some ob)(n:H b=none)(hx:b∉ex):∃sl,h1.get? b=some {ob with slots:=sl}:=by
 by_cases hb:b∈fs
 ·exact u.slot b ob q n hb hx
 ·exact⟨ob.slots,u.keep b ob q n hb hx⟩
theorem Un.kept (k:∀b u,h.get? b=some u->h'.get? b=some u):Un fs ex H H h h':=
 ⟨fun b ob q _ _ _=>k b ob q,fun b ob q _ _ _=>⟨ob.slots,k b ob q⟩,fun _ _ _ n _=>n,fun b ob q _=>⟨ob,k b ob q⟩,fun _ _ q=>q,fun _ _ _ q=>q,fun _ ps q=>⟨#[],by rw[q];simp⟩⟩
theorem Un.refl:Un fs ex H H h h:=Un.kept fun _ _ q=>q
theorem Un.laid (k:∀b u,h.get? b=some u->h'.get? b=some u)(hp:h.objs.size<=a)(hn:H a=none):Un fs ex H (upd H a o) h h' where
 keep:=fun b u q _ _ _=>k b u q
 slot:=fun b u q _ _ _=>⟨u.slots,k b u q⟩
 free:=fun b u q n _=>by rw[b8 (zW (zG (qA q) hp))];exact n
 there:=fun b u q _=>⟨u,k b u q⟩
 tups:=fun b xs q=>by rw[b8 (t6 q hn)];exact q
 frzs:=fun b u xs q=>by rw[b8 (t6 q hn)];exact q
 tbls:=fun b ps q=>⟨#[],by rw[b8 (t6 q hn),q];simp⟩
theorem Un.write (mu:Mut (H x))(he:e=x\/H e=some (.own x))(k:∀b u,b≠e->h.get? b=some u->h'.get? b=some u)(heo:∃u,h'.get? e=some u):Un fs ex H (upd H x o) h h':=by
 have hx:∀b,H b=none->b≠x:=fun b n z=>by subst z;rw[n] at mu;exact mu
 have hb:∀b,H b=none->b≠e:=fun b n z=>by
  subst z;rcases he with r|r
  ·exact hx b n r
  ·rw[n] at r;cases r
 have hm:∀b u,H b=some u->¬Mut (some u)->b≠x:=fun b u q nm z=>by subst z;rw[q] at mu;exact nm mu
 refine⟨fun b u q n _ _=>k b u (hb b n) q,fun b u q n _ _=>⟨u.slots,k b u (hb b n) q⟩,fun b u q n _=>by rw[b8 (hx b n)];exact n,fun b u q _=>?_,
  fun b xs q=>by rw[b8 (hm b _ q fun z=>z)];exact q,fun b u xs q=>by rw[b8 (hm b _ q fun z=>z)];exact q,fun b ps q=>⟨#[],by rw[b8 (hm b _ q fun z=>z),q];simp⟩⟩
 by_cases hbe:b=e
 ·subst hbe;exact heo
 ·exact⟨u,k b u hbe q⟩
end
def trk (h:Heap) (H:Hp):List Addr:=(List.range h.objs.size).filter fun a=>(H a).isSome
def hidT (h:Heap) (H:Hp):Heap:=PySem.W.hideAll h (trk h H)
theorem a3F (h:Heap)(H:Hp):(hidT h H).objs.size=h.objs.size:=PySem.W.hideAll_size _ _
theorem a4D {h:Heap}{H:Hp}{b:Addr}{o:Obj}(e:h.get? b=some o)(n:H b=none):(hidT h H).get? b=some o:=
 PySem.W.hideAll_get _ e fun hm=>by
  have q:(H b).isSome=true:=(List.mem_filter.mp hm).2;rw[n] at q;simp at q
theorem a5Q {h:Heap}{H:Hp}{b:Addr}{o:Obj}(e:(hidT h H).get? b=some o):h.get? b=some o/\H b=none:=by
 have e':h.get? b=some o:=PySem.W.of_hideAll (trk h H) e;refine⟨e',?_⟩;cases q:H b with
 | none=>rfl
 | some x=>
  have hm:b∈trk h H:=List.mem_filter.mpr ⟨mem_range.mpr (qA e'),by simp[q]⟩
  have z:(hidT h H).get? b=none:=PySem.W.hideAll_none (trk h H) hm;rw[z] at e;cases e
def allNews (g h:Heap) (L:Addr):List (Addr×Obj):=(List.range h.objs.size).filterMap fun a=>if a=L\/(g.get? a).isSome=true then none else(h.get? a).map fun o=>(a,o)
def rest (g h:Heap) (L d:Addr):List (Addr×Obj):=(allNews g h L).filter fun p=>decide (p.1≠d)
structure Mod (K:PySem.W.Frag) (mg:Str->Option Value) (base:Heap):Prop where
 kin:K.In base
 glob:base.Ns mainGlobals mg
 blt:∃mb,base.Ns builtinsNs mb/\∀x:Str,x≠"__name__"->mb x=bootBuiltins x
 nolimit:base.NoLimit
structure Cx where
 prog:Program
 w:World
 K:PySem.W.Frag
 mg:Str->Option Value
 base:Heap
 A:Around
 N:List Str
 s₀:Shared
 H₀:Hp
 env:Env
 outer:List Env
 stack:List Env
 ex:List Addr
 fn:Str->Bool
 calm:Bool
 pn:List (Addr×Obj)
 xe:Value->Shared->Prop
def frs (l:List Env):List Addr:=l.filterMap (·.frame)
abbrev Cx.fs (X:Cx):List Addr:=frs X.outer
def Vis (sc:Scope) (x:Str):Prop:=sc.names.lookup x=some .local\/sc.names.lookup x=some .cell\/sc.names.lookup x=some .free
def Loc (sc:Scope) (x:Str):Prop:=sc.names.lookup x=some .local\/sc.names.lookup x=some .cell
def Look (env:Env) (h:Heap) (m:Str->Option Value) (x:Str) (u:Value):Prop:=
 (env.kindOf x=some .local/\m x=some u)\/((env.kindOf x=some .cell\/env.kindOf x=some .free)/\∃c,env.cells.lookup x=some c/\h.IsCell c (some u))
structure Cx.Ok (X:Cx):Prop where
 mod:Mod X.K X.mg X.base
 kind:X.env.scope.kind= .function
 glob:X.env.globals=mainGlobals
 blt:X.env.builtins=builtinsNs
 above:X.s₀.heap.objs.size<=X.env.locals
 inj:∀x y c,X.env.cells.lookup x=some c->X.env.cells.lookup y=some c->x=y
 has:∀x,(X.env.kindOf x=some .cell\/X.env.kindOf x=some .free)->∃c,X.env.cells.lookup x=some c
 cab:∀x c,X.fn x=true->X.env.cells.lookup x=some c->X.s₀.heap.objs.size<=c
 hd:X.calm=true->X.A.handled=none
 frames:X.A.frames=some X.stack
 stk:X.stack=X.outer\/(X.stack=X.env::X.outer/\X.env.frame=some X.env.locals)
 exf:∀b∈X.ex,b≠X.env.locals/\∀x c,X.env.cells.lookup x=some c->c≠b
 bs:∀b o,X.base.get? b=some o->X.s₀.heap.get? b=some o/\X.H₀ b=none
 bsz:X.base.objs.size<=X.s₀.heap.objs.size
 noex:∀b o,X.base.get? b=some o->b∉X.ex
 exfs:∀b∈X.ex,b∉X.fs
 funs:X.s₀.heap.FunFrames X.base X.outer
 frf:∀b∈X.fs,X.H₀ b=none
structure Inv (X:Cx) (pins:List (Addr×Obj)) (σ:List (Option V)) (H:Hp) (s:Shared):Prop where
 ok:X.Ok
 os:s.os=X.s₀.os
 bare:AllBare s.gens
 base:Un X.fs X.ex X.H₀ H X.s₀.heap s.heap
 loc:∃m,s.heap.Ns X.env.locals m/\∀(i:Nat) (x:Str) (v:V),X.N[i]? =some x->σ[i]? =some (some v)->Vis X.env.scope x->∃u,RelV v u/\Look X.env s.heap m x u
 cell:∀x c,X.env.cells.lookup x=some c->∃v,s.heap.IsCell c v
 free:H X.env.locals=none
 freeC:∀x c,X.env.cells.lookup x=some c->H c=none
 pin:∀p∈X.pn++pins,s.heap.get? p.1=some p.2/\H p.1=none/\p.1≠X.env.locals/\p.1∉X.fs/\∀v,p.2.data≠.cell v
 hok:HOk X.K X.prog X.w H s.heap
 len:σ.length=X.N.length
section
variable {X:Cx}{pins:List (Addr×Obj)}{σ:List (Option V)}{H H':Hp}{s:Shared}{h':Heap}
theorem Cx.Ok.nofr (ok:X.Ok){b:Addr}{o:Obj}(e:X.base.get? b=some o):b∉X.fs:=fun hb=>by
 have:=(ok.funs.mem hb).1
 rw[e] at this;cases this
theorem Inv.bs (I:Inv X pins σ H s):∀b o,X.base.get? b=some o->s.heap.get? b=some o/\H b=none:=fun b o e=>
 ⟨I.base.keep b o (I.ok.bs b o e).1 (I.ok.bs b o e).2 (I.ok.nofr e) (I.ok.noex b o e),I.base.free b o (I.ok.bs b o e).1 (I.ok.bs b o e).2 (I.ok.noex b o e)⟩
theorem Inv.bk (I:Inv X pins σ H s):∀b o,X.base.get? b=some o->s.heap.get? b=some o:=fun b o e=>(I.bs b o e).1
theorem Inv.mod (I:Inv X pins σ H s):Mod X.K X.mg X.base:=I.ok.mod
theorem Inv.kIn (I:Inv X pins σ H s):X.K.In s.heap:=I.ok.mod.kin.keeps I.bk
theorem Inv.lt (I:Inv X pins σ H s):X.env.locals<s.heap.objs.size:=let ⟨_,hn,_⟩:=I.loc;hn.lt
theorem Inv.sz (I:Inv X pins σ H s):X.s₀.heap.objs.size<=s.heap.objs.size:=zJ I.ok.above (Nat.le_of_lt I.lt)
theorem Inv.nofs (I:Inv X pins σ H s){a:Addr}(h:s.heap.objs.size<=a):a∉X.fs:=fun hb=>by
 obtain⟨_,o,ho,_⟩:=I.ok.funs.mem hb;exact absurd (zG (qA ho) (zJ I.sz h)) (xN _)
theorem Inv.cne (I:Inv X pins σ H s):∀x c,X.env.cells.lookup x=some c->c≠X.env.locals:=fun x c e z=>by
 obtain⟨v,o,ho,hd⟩:=I.cell x c e;obtain⟨m,⟨o',es,ep,ho',hd',_⟩,_⟩:=I.loc;rw[z,ho'] at ho;cases ho;rw[hd'] at hd;cases hd
theorem Inv.funs (I:Inv X pins σ H s):s.heap.FunFrames X.base X.outer:=by
 have all:∀(l:List Env),(∀b∈frs l,b∈X.fs)->X.s₀.heap.FunFrames X.base l->s.heap.FunFrames X.base l:=by
  intro l
  induction l with
  | nil=>intro _ _;trivial
  | cons env r ih=>
   intro hs hl;obtain⟨hk,⟨L,o,hf,hn,ho,hd⟩,hr⟩:=hl;have hL:L∈X.fs:=hs L (by unfold frs;rw[List.filterMap_cons,hf];exact zR)
   obtain⟨sl,e⟩:=I.base.slot L o ho (I.ok.frf L hL) hL fun z=>I.ok.exfs L z hL;exact⟨hk,⟨L,_,hf,hn,e,hd⟩,ih (fun b hb=>hs b (by unfold frs;rw[List.filterMap_cons,hf];exact zN _ hb)) hr⟩
 exact all X.outer (fun _ hb=>hb) I.ok.funs
theorem Inv.stack (I:Inv X pins σ H s):s.heap.FunFrames X.base X.stack:=by
 rcases I.ok.stk with e|⟨e,hf⟩
 ·rw[e];exact I.funs
 ·rw[e];obtain⟨m,hn,_⟩:=I.loc;refine .cons (by rw[I.ok.kind];decide) hf hn ?_ I.funs
  exact Heap.get?_none_of_le (zJ I.ok.bsz I.ok.above)
theorem Inv.stkSub (I:Inv X pins σ H s):∀b∈frs X.stack,b∈X.env.locals::X.fs:=fun b hb=>by
 rcases I.ok.stk with e|⟨e,hf⟩
 ·rw[e] at hb;exact zN _ hb
 ·rw[e] at hb;unfold frs at hb;rw[List.filterMap_cons,hf] at hb;exact hb
theorem Inv.stkFree (I:Inv X pins σ H s):∀b∈frs X.stack,H b=none:=fun b hb=>by
 rcases qG.mp (I.stkSub b hb) with e|hb
 ·rw[e];exact I.free
 ·obtain⟨_,o,ho,_⟩:=I.ok.funs.mem hb;exact I.base.free b o ho (I.ok.frf b hb) fun z=>I.ok.exfs b z hb
theorem Inv.step {g':Array GenState}{t':Nat}{d':Drawn}{ch:List Addr}(I:Inv X pins σ H s)
  (hch:∀b∈ch,(b∈X.ex\/X.s₀.heap.objs.size<=b)/\b≠X.env.locals/\(∀x c,X.env.cells.lookup x=some c->c≠b)/\∀p∈X.pn++pins,p.1≠b)
  (keep:∀b o,b≠X.env.locals->b∉X.fs->b∉ch->s.heap.get? b=some o->H b=none->h'.get? b=some o)
  (slot:∀b o,b≠X.env.locals->b∈X.fs->b∉ch->s.heap.get? b=some o->H b=none->∃sl,h'.get? b=some {o with slots:=sl}) (free:∀b o,b∉ch->s.heap.get? b=some o->H b=none->H' b=none)
  (there:∀b o,b∉ch->s.heap.get? b=some o->∃o',h'.get? b=some o')
  (tups:∀b xs,H b=some (.tup xs)->H' b=some (.tup xs)) (frzs:∀b o u,H b=some (.frz o u)->H' b=some (.frz o u)) (tbls:∀b ps,H b=some (.tbl ps)->∃more,H' b=some (.tbl (ps++more)))
  (ns:∀m,s.heap.Ns X.env.locals m->h'.Ns X.env.locals m) (hok:HOk X.K X.prog X.w H' h') (hg:AllBare g'):
  Inv X pins σ H' {s with heap:=h',gens:=g',drawn:=d',toks:=t'}:=by
 have neL:∀b o,X.s₀.heap.get? b=some o->b≠X.env.locals:=fun b o e=>zW (zG (qA e) I.ok.above);have neC:∀b o,X.s₀.heap.get? b=some o->b∉X.ex->b∉ch:=fun b o e hx hb=>by
  rcases(hch b hb).1 with z|z
  ·exact hx z
  ·exact absurd (zG (qA e) z) (xN _)
 have cellK:∀x c,X.env.cells.lookup x=some c->∀v,s.heap.IsCell c v->h'.IsCell c v:=fun x c e v ⟨o,ho,hd⟩=>by
  have nch:c∉ch:=fun z=>(hch c z).2.2.1 x c e rfl
  by_cases hc:c∈X.fs
  ·obtain⟨sl,q⟩:=slot c o (I.cne x c e) hc nch ho (I.freeC x c e);exact⟨_,q,hd⟩
  ·exact⟨o,keep c o (I.cne x c e) hc nch ho (I.freeC x c e),hd⟩
 refine⟨I.ok,I.os,hg,⟨fun b o e n hb hx=>?_,fun b o e n hb hx=>?_,fun b o e n hx=>?_,fun b o e hx=>?_,fun b xs e=>tups b xs (I.base.tups b xs e),fun b o xs e=>frzs b o xs (I.base.frzs b o xs e),fun b ps e=>?_⟩,?_,fun x c e=>?_,?_,fun x c e=>?_,fun p hp=>?_,hok,I.len⟩
 ·exact keep b o (neL b o e) hb (neC b o e hx) (I.base.keep b o e n hb hx) (I.base.free b o e n hx)
 ·obtain⟨sl,e1⟩:=I.base.slot b o e n hb hx;obtain⟨sl',e2⟩:=slot b _ (neL b o e) hb (neC b o e hx) e1 (I.base.free b o e n hx);exact⟨sl',e2⟩
 ·obtain⟨o',e1⟩:=I.base.there b o e hx;exact free b o' (neC b o e hx) e1 (I.base.free b o e n hx)
 ·obtain⟨o',e1⟩:=I.base.there b o e hx;exact there b o' (neC b o e hx) e1
 ·obtain⟨m1,e1⟩:=I.base.tbls b ps e;obtain⟨m2,e2⟩:=tbls b _ e1;exact⟨m1++m2,by rw[e2,Array.append_assoc]⟩
 ·obtain⟨m,hn,hl⟩:=I.loc;refine⟨m,ns m hn,fun i x v e1 e2 e3=>?_⟩;obtain⟨u,r,l⟩:=hl i x v e1 e2 e3;refine⟨u,r,?_⟩;rcases l with l|⟨k,c,e,z⟩
  ·exact .inl l
  ·exact .inr ⟨k,c,e,cellK x c e _ z⟩
 ·obtain⟨v,z⟩:=I.cell x c e;exact⟨v,cellK x c e v z⟩
 ·obtain⟨m,⟨o,_,_,ho,_⟩,_⟩:=I.loc;exact free _ o (fun z=>(hch _ z).2.1 rfl) ho I.free
 ·obtain⟨v,o,ho,hd⟩:=I.cell x c e;exact free c o (fun z=>(hch c z).2.2.1 x c e rfl) ho (I.freeC x c e)
 ·obtain⟨e,n,ne,nf,d⟩:=I.pin p hp;have nch:p.1∉ch:=fun z=>(hch p.1 z).2.2.2 p hp rfl;exact⟨keep p.1 p.2 ne nf nch e n,free p.1 p.2 nch e n,ne,nf,d⟩
theorem Inv.un {t':Nat}(I:Inv X pins σ H s)(u:Un X.fs [] H H' s.heap h')(hok:HOk X.K X.prog X.w H' h'):Inv X pins σ H' {s with heap:=h',toks:=t'}:=by
 obtain⟨m,⟨o,es,ep,ho,r⟩,_⟩:=id I.loc;obtain⟨sl,hL⟩:=u.any ho I.free (by simp)
 exact I.step (g':=s.gens) (d':=s.drawn) (ch:=[]) (fun _ z=>nomatch z) (fun b o _ hb _ e n=>u.keep b o e n hb (by simp)) (fun b o _ hb _ e n=>u.slot b o e n hb (by simp)) (fun b o _ e n=>u.free b o e n (by simp)) (fun b o _ e=>u.there b o e (by simp)) u.tups u.frzs u.tbls (fun m' hm=>by
  obtain⟨o',es',ep',ho',r'⟩:=hm;rw[ho] at ho';cases ho'
  exact⟨_,es',ep',hL,r'⟩) hok I.bare
theorem Inv.call {g':Array GenState}{t':Nat}{d':Drawn}{ch:List Addr}(I:Inv X pins σ H s)(u:Un (frs X.stack) ch H H' s.heap h')(hok:HOk X.K X.prog X.w H' h')(hg:AllBare g')
  (hch:∀b∈ch,(b∈X.ex\/X.s₀.heap.objs.size<=b)/\b≠X.env.locals/\(∀x c,X.env.cells.lookup x=some c->c≠b)/\∀p∈X.pn++pins,p.1≠b):
  Inv X pins σ H' {s with heap:=h',gens:=g',drawn:=d',toks:=t'}:=by
 obtain⟨m,⟨o,es,ep,ho,r⟩,_⟩:=id I.loc;obtain⟨sl,hL⟩:=u.any ho I.free fun z=>(hch _ z).2.1 rfl
 exact I.step (ch:=ch) hch (fun b o hL hb hc e n=>u.keep b o e n (fun z=>(qG.mp (I.stkSub b z)).elim hL hb) hc) (fun b o _ _ hc e n=>u.any e n hc) (fun b o hc e n=>u.free b o e n hc) (fun b o hc e=>u.there b o e hc) u.tups u.frzs u.tbls (fun m' hm=>by
  obtain⟨o',es',ep',ho',r'⟩:=hm;rw[ho] at ho';cases ho'
  exact⟨_,es',ep',hL,r'⟩) hok hg
theorem Inv.turned {t':Nat}{it:Addr}(I:Inv X pins σ H s)(k:∀b o,b≠it->s.heap.get? b=some o->h'.get? b=some o)(hn:H it=none)(hL:it≠X.env.locals)
  (h1:it∈X.ex\/X.s₀.heap.objs.size<=it) (h2:∀x c,X.env.cells.lookup x=some c->c≠it) (h3:∀p∈X.pn++pins,p.1≠it):Inv X pins σ H {s with heap:=h',toks:=t'}:=by
 have nit:∀b u,H b=some u->b≠it:=fun b u e z=>by rw[z,hn] at e;cases e
 refine I.step (g':=s.gens) (d':=s.drawn) (ch:=[it]) (fun b hb=>?_) (fun b o _ _ hc e _=>k b o (fun z=>hc (by simp[z])) e) (fun b o _ _ hc e _=>⟨o.slots,k b o (fun z=>hc (by simp[z])) e⟩) (fun _ _ _ _ n=>n)
  (fun b o hc e=>⟨o,k b o (fun z=>hc (by simp[z])) e⟩) (fun _ _ e=>e) (fun _ _ _ e=>e) (fun b ps e=>⟨#[],by rw[e];simp⟩) (fun m hm=>?_) (fun b u e=>?_) I.bare
 ·have e:b=it:=by simpa using hb
  subst e;exact⟨h1,hL,h2,h3⟩
 ·obtain⟨o,es,ep,ho,r⟩:=hm;exact⟨o,es,ep,k _ o (qN hL) ho,r⟩
 ·refine(I.hok b u e).stay (fun c v hc q=>k c v ?_ q) (fun _ q=>q) fun _ _ q=>q;rcases hc with z|z
  ·rw[z];exact nit b u e
  ·exact nit c _ z
theorem Inv.tok (I:Inv X pins σ H s)(t:Nat):Inv X pins σ H {s with toks:=t}:=I.un (h':=s.heap) (t':=t) Un.refl I.hok
theorem Inv.kept {t':Nat}(I:Inv X pins σ H s)(k:∀b u,s.heap.get? b=some u->h'.get? b=some u):Inv X pins σ H {s with heap:=h',toks:=t'}:=I.un (Un.kept k) (I.hok.kept k)
theorem Inv.laid {a:Addr}{o:HO}{t':Nat}(I:Inv X pins σ H s)(k:∀b u,s.heap.get? b=some u->h'.get? b=some u)(hp:s.heap.objs.size<=a)(new:ObjOk X.K X.prog X.w (upd H a o) h' a o):
  Inv X pins σ (upd H a o) {s with heap:=h',toks:=t'}:=I.un (Un.laid k hp (I.hok.fresh hp)) (I.hok.laid k hp new)
theorem Inv.write {x e:Addr}{o:HO}{t':Nat}(I:Inv X pins σ H s)(mu:Mut (H x))(he:e=x\/H e=some (.own x))(k:∀b u,b≠e->s.heap.get? b=some u->h'.get? b=some u)(heo:∃u,h'.get? e=some u)
  (new:ObjOk X.K X.prog X.w (upd H x o) h' x o):Inv X pins σ (upd H x o) {s with heap:=h',toks:=t'}:=I.un (Un.write mu he k heo) (I.hok.write mu he k heo new)
theorem Inv.pins_of {pins':List (Addr×Obj)}(I:Inv X pins σ H s)(h:∀p∈pins',s.heap.get? p.1=some p.2/\H p.1=none/\p.1≠X.env.locals/\p.1∉X.fs/\∀v,p.2.data≠.cell v):Inv X pins' σ H s:=
 ⟨I.ok,I.os,I.bare,I.base,I.loc,I.cell,I.free,I.freeC,fun p hp=>(jM.mp hp).elim (fun z=>I.pin p (List.mem_append_left _ z)) (h p),I.hok,I.len⟩
theorem a0M {N:List Str}(hN:N.Nodup){i j:Nat}{x:Str}(a:N[i]? =some x)(b:N[j]? =some x):i=j:=by
 obtain⟨h1,e1⟩:=zE.mp a;obtain⟨h2,e2⟩:=zE.mp b;exact(List.getElem_inj hN).mp (e1.trans e2.symm)
theorem a3s {M:Model}{A:Around}{E:Value->Shared->Prop}{i:Nat}{x:Str}{v:V}{u:Value}{Q:Unit->Shared->Prop}(I:Inv X pins σ H s)(hN:X.N.Nodup)(hi:X.N[i]? =some x)(hx:Loc X.env.scope x)(r:RelV v u)
  (h:∀s',Inv X pins (σ.set i (some v)) H s'->(∃a,Heap.SameBut a s.heap s'.heap/\(a=X.env.locals\/X.env.cells.lookup x=some a))->Q () s') (hf:X.fn x=true\/X.env.scope.names.lookup x=some .local:=by first|exact .inl rfl|exact .inr rfl|assumption):wpAny M A (storeName X.env x u) Q E s:=by
 obtain⟨m,hn,hl⟩:=id I.loc;have hcls:(X.env.scope.kind == .class||(X.env.scope.kind == .module&&X.env.locals != X.env.globals))=false:=by rw[I.ok.kind];rfl
 have hiσ:i<σ.length:=by rw[I.len];exact(zE.mp hi).1
 have cne:=I.cne;have tracked:∀{a:Addr} {h':Heap},(∃o,s.heap.get? a=some o/\H a=none)->Heap.SameBut a s.heap h'->HOk X.K X.prog X.w H h':=fun{a h'} ha hs b ob e=>by
  obtain⟨_,_,hfree⟩:=ha;refine(I.hok b ob e).stay (fun c w' hc q=>(hs.2 c ?_).trans q) (fun _ q=>q) fun _ _ q=>q;rintro rfl;rcases hc with rfl|hc
  ·rw[hfree] at e;cases e
  ·rw[hfree] at hc;cases hc
 rcases hx with hk|hk
 ·refine wpAny_storeName_local hk hn (fun h' hn' hs=>?_) hcls;obtain⟨oL,_,_,hoL,_⟩:=id hn;refine h _ ⟨I.ok,I.os,I.bare,⟨fun b o e n hb hx=>?_,fun b o e n hb hx=>?_,I.base.free,fun b o e hx=>?_,I.base.tups,I.base.frzs,I.base.tbls⟩,⟨_,hn',fun j y v' e1 e2 e3=>?_⟩,fun y c e=>?_,I.free,I.freeC,fun p hp=>?_,tracked ⟨oL,hoL,I.free⟩ hs,by simpa using I.len⟩ ⟨_,hs,.inl rfl⟩
  ·exact(hs.2 b (zW (zG (qA e) I.ok.above))).trans (I.base.keep b o e n hb hx)
  ·obtain⟨sl,e1⟩:=I.base.slot b o e n hb hx;exact⟨sl,(hs.2 b (zW (zG (qA e) I.ok.above))).trans e1⟩
  ·obtain⟨o',e1⟩:=I.base.there b o e hx;exact⟨o',(hs.2 b (zW (zG (qA e) I.ok.above))).trans e1⟩
  ·by_cases hj:j=i
   ·subst hj;rw[hi] at e1;cases e1;rw[List.getElem?_set_self hiσ] at e2;cases e2;exact⟨u,r,.inl ⟨hk,by simp⟩⟩
   ·rw[zL (qN hj)] at e2;obtain⟨u',r',q⟩:=hl j y v' e1 e2 e3;refine⟨u',r',?_⟩;rcases q with ⟨k,e⟩|⟨k,c,e,z⟩
    ·refine .inl ⟨k,?_⟩
     have:y≠x:=fun e=>hj (a0M hN e1 (e▸hi))
     simp[this,e]
    ·exact .inr ⟨k,c,e,z.sameBut hs (cne y c e)⟩
  ·obtain⟨w',z⟩:=I.cell y c e;exact⟨w',z.sameBut hs (cne y c e)⟩
  ·obtain⟨e,n,ne,nf,d⟩:=I.pin p hp;exact⟨(hs.2 p.1 ne).trans e,n,ne,nf,d⟩
 ·have hfn:X.fn x=true:=by
   rcases hf with z|z
   ·exact z
   ·rw[z] at hk;cases hk
  obtain⟨c,hc⟩:=I.ok.has x (.inl hk);obtain⟨w',z⟩:=I.cell x c hc;refine wpAny_storeName_cell I.ok.kind hk hc z (fun h' hc' hs=>?_);obtain⟨oc,hoc,hocd⟩:=id z;refine h {s with heap:=h'} ⟨I.ok,I.os,I.bare,⟨fun b o e n hb hx=>?_,fun b o e n hb hx=>?_,I.base.free,fun b o e hx=>?_,I.base.tups,I.base.frzs,I.base.tbls⟩,⟨m,hn.sameBut hs (qN (cne x c hc)),fun j y v' e1 e2 e3=>?_⟩,fun y c' e=>?_,I.free,I.freeC,fun p hp=>?_,tracked ⟨oc,hoc,I.freeC x c hc⟩ hs,by simpa using I.len⟩ ⟨c,hs,.inr hc⟩
  ·exact(hs.2 b (zW (zG (qA e) (I.ok.cab x c hfn hc)))).trans (I.base.keep b o e n hb hx)
  ·obtain⟨sl,e1⟩:=I.base.slot b o e n hb hx;exact⟨sl,(hs.2 b (zW (zG (qA e) (I.ok.cab x c hfn hc)))).trans e1⟩
  ·obtain⟨o',e1⟩:=I.base.there b o e hx;exact⟨o',(hs.2 b (zW (zG (qA e) (I.ok.cab x c hfn hc)))).trans e1⟩
  ·by_cases hj:j=i
   ·subst hj;rw[hi] at e1;cases e1;rw[List.getElem?_set_self hiσ] at e2;cases e2;exact⟨u,r,.inr ⟨.inl hk,c,hc,hc'⟩⟩
   ·rw[zL (qN hj)] at e2;obtain⟨u',r',q⟩:=hl j y v' e1 e2 e3;refine⟨u',r',?_⟩;rcases q with q|⟨k,c',e,z'⟩
    ·exact .inl q
    ·refine .inr ⟨k,c',e,z'.sameBut hs ?_⟩;rintro rfl;exact hj (a0M hN e1 (I.ok.inj _ _ _ e hc▸hi))
  ·by_cases hcc:c'=c
   ·subst hcc;exact⟨_,hc'⟩
   ·obtain⟨w2,z2⟩:=I.cell y c' e;exact⟨w2,z2.sameBut hs hcc⟩
  ·obtain⟨e,n,ne,nf,d⟩:=I.pin p hp;refine⟨(hs.2 p.1 ?_).trans e,n,ne,nf,d⟩;intro q;rw[q,hoc] at e;have q':oc=p.2:=qS e;exact d w' (by rw[<-q'];exact hocd)
theorem K5 {M:Model}{A:Around}{E:Value->Shared->Prop}{i:Nat}{x:Str}{v:V}{u:Value}{Q:Unit->Shared->Prop}(I:Inv X pins σ H s)(hN:X.N.Nodup)(hi:X.N[i]? =some x)(hx:Loc X.env.scope x)(r:RelV v u)
  (h:∀s',Inv X pins (σ.set i (some v)) H s'->Q () s') (hf:X.fn x=true\/X.env.scope.names.lookup x=some .local:=by first|exact .inl rfl|exact .inr rfl|assumption):wpAny M A (storeName X.env x u) Q E s:=
 a3s I hN hi hx r (fun s' I' _=>h s' I') hf
theorem Inv.call' {s':Shared}{ch:List Addr}(I:Inv X pins σ H s)(ho:s'.os=s.os)(u:Un (frs X.stack) ch H H' s.heap s'.heap)(hok:HOk X.K X.prog X.w H' s'.heap)(hg:AllBare s'.gens)
  (hch:∀b∈ch,(b∈X.ex\/X.s₀.heap.objs.size<=b)/\b≠X.env.locals/\(∀x c,X.env.cells.lookup x=some c->c≠b)/\∀p∈X.pn++pins,p.1≠b):Inv X pins σ H' s':=by
 obtain⟨h',g',d',t',o'⟩:=s';have e:o'=s.os:=ho;subst e;exact I.call (g':=g') (t':=t') (d':=d') u hok hg hch
end
abbrev XK:=Value->Option Addr->Hp->Prop
abbrev St:=List (Option V)
abbrev VK:=V->Hp->Prop
abbrev TE:=St->Hp->VK->Prop
abbrev TT:=St->Hp->(Bool->Hp->Prop)->Prop
abbrev TA:=St->Hp->(List V->Hp->Prop)->Prop
structure Ends where
 nx:St->Hp->Prop
 rt:VK
 bk:St->Hp->Prop:=fun _ _=>False
 ct:St->Hp->Prop:=fun _ _=>False
abbrev TS:=Ends->St->Hp->Prop
def EP (X:Cx) (pins:List (Addr×Obj)) (σ:St) (Q:VK) (u:Value) (s':Shared):Prop:=∃v H',Inv X pins σ H' s'/\RelV v u/\Q v H'
def TP (X:Cx) (pins:List (Addr×Obj)) (σ:St) (Q:Bool->Hp->Prop) (b:Bool) (s':Shared):Prop:=∃H',Inv X pins σ H' s'/\Q b H'
def AP (X:Cx) (pins:List (Addr×Obj)) (σ:St) (Q:List V->Hp->Prop) (us:List Value) (s':Shared):Prop:=∃vs H',Inv X pins σ H' s'/\Vals vs us/\Q vs H'
def SP (X:Cx) (pins:List (Addr×Obj)) (D:Ends) (f:Flow) (s':Shared):Prop:=
 match f with
 | .next=>∃σ' H',Inv X pins σ' H' s'/\D.nx σ' H'
 | .brk=>∃σ' H',Inv X pins σ' H' s'/\D.bk σ' H'
 | .cont=>∃σ' H',Inv X pins σ' H' s'/\D.ct σ' H'
 | .ret u=>∃v σ' H',Inv X pins σ' H' s'/\RelV v u/\D.rt v H'
def PE (X:Cx) (e:Expr) (t:TE):Prop:=
 ∀(pins:List (Addr×Obj)) (s:Shared) (σ:St) (H:Hp) (Q:VK),Inv X pins σ H s->t σ H Q->wpAny (model X.prog X.w) X.A (eval e X.env) (EP X pins σ Q) X.xe s
def PT (X:Cx) (e:Expr) (t:TT):Prop:=
 ∀(pins:List (Addr×Obj)) (s:Shared) (σ:St) (H:Hp) (Q:Bool->Hp->Prop),Inv X pins σ H s->t σ H Q->wpAny (model X.prog X.w) X.A (isTrue e X.env (eval e X.env)) (TP X pins σ Q) X.xe s
def PW (X:Cx) (e:Expr) (t:TT):Prop:=
 ∀(whole:Sem Value) (pins:List (Addr×Obj)) (s:Shared) (σ:St) (H:Hp) (Q:Bool->Hp->Prop),Inv X pins σ H s->t σ H Q->wpAny (model X.prog X.w) X.A (isTrue e X.env whole) (TP X pins σ Q) X.xe s
theorem PW.pt {X:Cx}{e:Expr}{t:TT}(h:PW X e t):PT X e t:=h _
def PA (X:Cx) (es:List Expr) (t:TA):Prop:=
 ∀(pos:Pos) (pins:List (Addr×Obj)) (s:Shared) (σ:St) (H:Hp) (Q:List V->Hp->Prop),Inv X pins σ H s->t σ H Q->wpAny (model X.prog X.w) X.A (spliced (backTo pos (starEach es X.env))) (AP X pins σ Q) X.xe s
def PS (X:Cx) (st:Stmt) (t:TS):Prop:=
 ∀(pins:List (Addr×Obj)) (s:Shared) (σ:St) (H:Hp) (D:Ends),Inv X pins σ H s->t D σ H->wpAny (model X.prog X.w) X.A (exec st X.env) (SP X pins D) X.xe s
def PSs (X:Cx) (st:List Stmt) (t:TS):Prop:=
 ∀(pins:List (Addr×Obj)) (s:Shared) (σ:St) (H:Hp) (D:Ends),Inv X pins σ H s->t D σ H->wpAny (model X.prog X.w) X.A (execs st X.env) (SP X pins D) X.xe s
theorem thn {α:Type}{t:Sem α}{Q Q':α->Shared->Prop}{M:Model}{A:Around}{E:Value->Shared->Prop}{s:Shared}(h:wpAny M A t Q E s)(hQ:∀a s,Q a s->Q' a s):wpAny M A t Q' E s:=qD h hQ fun _ _ x=>x
section
variable {X:Cx}
def tVar (i:Nat):TE:=fun σ H Q=>∃v,σ[i]? =some (some v)/\Q v H
def tC (v:V):TE:=fun _ H Q=>Q v H
theorem a4h {i:Nat}{x:Str}{pos:Pos}(hN:X.N[i]? =some x)(hv:Vis X.env.scope x)(hd:(x==("__debug__":Str))=false:=by decide)(hcd:(x==("__classdict__":Str))=false:=by decide):PE X (.Name x pos) (tVar i):=by
 intro pins s σ H Q I h;obtain⟨v,e,h⟩:=h;obtain⟨m,hn,hl⟩:=I.loc;obtain⟨u,r,l⟩:=hl i x v hN e hv;have fin:EP X pins σ Q u s:=⟨v,H,I,r,h⟩;rcases l with ⟨hk,hm⟩|⟨hk,c,hc,hcell⟩
 ·exact wpAny_Name (wpAny_loadName_local I.ok.kind hk hn hm fin) hd
 ·rcases hk with hk|hk
  ·exact wpAny_Name (wpAny_loadName_cell I.ok.kind hk hc hcell fin) hd
  ·exact wpAny_Name (wpAny_loadName_free I.ok.kind hk hc hcell fin hcd) hd
theorem a7x {i j pos}:PE X (.Constant (.int i) j pos) (tC (.int i)):=fun _ _ _ H _ I h=>wpAny_Constant_int ⟨.int i,H,I.tok _,⟨_,rfl⟩,h⟩
theorem pe_bl {b j pos}:PE X (.Constant (.bool b) j pos) (tC (.bl b)):=fun _ _ _ H _ I h=>Constant_bool ⟨.bl b,H,I,rfl,h⟩
def Gl (X:Cx) (x:Str):Prop:=X.env.kindOf x=some .globalImplicit
theorem Z8 {E:Value->Shared->Prop}{pins:List (Addr×Obj)}{s:Shared}{σ:St}{H:Hp}{x:Str}{u:Value}{pos:Pos}{Q:Value->Shared->Prop}(I:Inv X pins σ H s)(hg:Gl X x)(hm:X.mg x=some u)(h:Q u s)
  (hd:(x==("__debug__":Str))=false:=by decide):wpAny (model X.prog X.w) X.A (eval (.Name x pos) X.env) Q E s:=
 Calls.Name_function_global I.ok.kind hg (Calls.loadGlobal_global (by rw[I.ok.glob];exact I.mod.glob.keeps I.bk) hm h) hd
theorem a0n {E:Value->Shared->Prop}{pins:List (Addr×Obj)}{s:Shared}{σ:St}{H:Hp}{x:Str}{u:Value}{pos:Pos}{Q:Value->Shared->Prop}(I:Inv X pins σ H s)(hg:Gl X x)(hm:X.mg x=none)(hv:bootBuiltins x=some u)(h:Q u s)
  (hn:x≠"__name__":=by decide) (hd:(x==("__debug__":Str))=false:=by decide):wpAny (model X.prog X.w) X.A (eval (.Name x pos) X.env) Q E s:=by
 obtain⟨mb,h1,h2⟩:=I.mod.blt;exact Calls.Name_function_global I.ok.kind hg (Calls.loadGlobal_builtin (by rw[I.ok.glob];exact I.mod.glob.keeps I.bk) hm (by rw[I.ok.blt];exact h1.keeps I.bk) ((h2 x hn).trans hv) h) hd
theorem a5H {x:Str}{v:V}{u:Value}{pos:Pos}(hg:Gl X x)(hm:X.mg x=some u)(r:RelV v u)(hd:(x==("__debug__":Str))=false:=by decide):PE X (.Name x pos) (tC v):=
 fun _ _ _ H _ I h=>Z8 I hg hm ⟨v,H,I,r,h⟩ hd
theorem a6m {x:Str}{v:V}{u:Value}{pos:Pos}(hg:Gl X x)(hm:X.mg x=none)(hv:bootBuiltins x=some u)(r:RelV v u)(hn:x≠"__name__":=by decide)(hd:(x==("__debug__":Str))=false:=by decide):PE X (.Name x pos) (tC v):=
 fun _ _ _ H _ I h=>a0n I hg hm hv ⟨v,H,I,r,h⟩ hn hd
variable {a b:Expr}{ta tb:TE}{pos:Pos}
variable {tA tB':TT}{rest:List Expr}
def tAnd (t u:TT):TT:=fun σ H Q=>t σ H fun c H1=>if c=true then u σ H1 Q else Q false H1
def tOr (t u:TT):TT:=fun σ H Q=>t σ H fun c H1=>if c=true then Q true H1 else u σ H1 Q
def tNot (t:TT):TT:=fun σ H Q=>t σ H fun c H1=>Q (!c) H1
theorem pw_and1 (ha:PT X a tA):PW X (.BoolOp .And [a] pos) tA:=by
 intro wh pins s σ H Q I h;refine isTrue_and (thn (ha pins s σ H Q I h) fun c s1 e=>?_);cases c with
 | true=>exact isTrue_and_nil e
 | false=>exact e
theorem pw_or1 (ha:PT X a tA):PW X (.BoolOp .Or [a] pos) tA:=by
 intro wh pins s σ H Q I h;refine isTrue_or (thn (ha pins s σ H Q I h) fun c s1 e=>?_);cases c with
 | false=>exact isTrue_or_nil e
 | true=>exact e
theorem pw_and (ha:PT X a tA)(hb:PW X (.BoolOp .And (b::rest) pos) tB'):PW X (.BoolOp .And (a::b::rest) pos) (tAnd tA tB'):=by
 intro wh pins s σ H Q I h;refine isTrue_and (thn (ha pins s σ H _ I h) fun c s1 ⟨H1,I1,q1⟩=>?_);cases c with
 | true=>exact hb wh pins s1 σ H1 Q I1 q1
 | false=>exact⟨H1,I1,q1⟩
theorem pw_or (ha:PT X a tA)(hb:PW X (.BoolOp .Or (b::rest) pos) tB'):PW X (.BoolOp .Or (a::b::rest) pos) (tOr tA tB'):=by
 intro wh pins s σ H Q I h;refine isTrue_or (thn (ha pins s σ H _ I h) fun c s1 ⟨H1,I1,q1⟩=>?_);cases c with
 | true=>exact⟨H1,I1,q1⟩
 | false=>exact hb wh pins s1 σ H1 Q I1 q1
theorem a8p (ha:PT X a tA):PT X (.UnaryOp .Not a pos) (tNot tA):=by
 intro pins s σ H Q I h;exact isTrue_not (ha pins s σ H (fun c H1=>Q (!c) H1) I h)
def tAndV (ta tb:TE):TE:=fun σ H Q=>ta σ H fun x H1=>∃c,x= .bl c/\if c=true then tb σ H1 Q else Q (.bl false) H1
theorem a7L {op}{t:TE}(h:PE X a t):PE X (.BoolOp op [a] pos) t:=fun pins s σ H Q I hw=>BoolOp_one (h pins s σ H Q I hw)
theorem a76 (ha:PE X a ta)(hb:PE X (.BoolOp .And (b::rest) pos) tb):PE X (.BoolOp .And (a::b::rest) pos) (tAndV ta tb):=by
 intro pins s σ H Q I h;refine BoolOp_and (thn (ha pins s σ H _ I h) fun v s1 h0=>ex5 h0 fun x H1 I1 r1 q1=>?_);obtain⟨c,rfl,q1⟩:=q1;cases r1;refine wpAny_truthy_bool ?_;cases c with
 | true=>exact hb pins s1 σ H1 Q I1 q1
 | false=>exact⟨.bl false,H1,I1,rfl,q1⟩
end
def SqL (K:PySem.W.Frag) (H:Hp) (a:Addr) (xs:List V):Prop:=
 Rd H a (.lst xs)\/
  ∃(o:Obj) (its:Array Value) (n:Nat),K.lookup a=some o/\o.cls= .type "list"/\o.dict=none/\o.data= .seq its n/\its.size<=sizeLine/\Vals xs its.toList
def absV:Value->Option V
 | .none=>some .non
 | .bool b=>some (.bl b)
 | .int i _=>some (.int i)
 | .str x _=>some (.str x)
 | .bytes b _=>some (.byt b)
 | .float b _=>some (.flt b)
 | .ref a=>some (.ref a)
 | .type n=>some (.ty n)
 | _=>none
theorem RelV.abs {x:V}{u:Value}(r:RelV x u):absV u=some x:=by
 cases x with
 | non=>cases r;rfl
 | bl _=>cases r;rfl
 | int _=>obtain⟨t,rfl⟩:=r;rfl
 | str _=>obtain⟨t,rfl⟩:=r;rfl
 | byt _=>obtain⟨t,rfl⟩:=r;rfl
 | flt _=>obtain⟨t,rfl⟩:=r;rfl
 | ref _=>cases r;rfl
 | ty _=>cases r;rfl
theorem RelV.inj {x y:V}{u:Value}(r:RelV x u)(q:RelV y u):x=y:=qS (r.abs.symm.trans q.abs)
theorem Vals.inj:∀{xs ys:List V} {us:List Value},Vals xs us->Vals ys us->xs=ys
 | _,_,_,.nil,.nil=>rfl
 | _,_,_,.cons r t,.cons r' t'=>by rw[r.inj r',Vals.inj t t']
section
variable {X:Cx}{pins:List (Addr×Obj)}{σ:St}{H:Hp}{s:Shared}{a:Addr}{xs ys:List V}
theorem SqL.of {K:PySem.W.Frag}(h:H a=some (.lst xs)):SqL K H a xs:=.inl (.inl h)
theorem SqT.of {K:PySem.W.Frag}(h:H a=some (.tup xs)):SqT K H a xs:=.inl (.inl h)
theorem Inv.list (I:Inv X pins σ H s)(h:SqL X.K H a xs):∃its:List Value,Vals xs its/\PlainL s.heap a its.toArray/\xs.length<=sizeLine:=by
 rcases h with h|⟨o,its,n,hk,hc,hd,hs,hz,r⟩
 ·obtain⟨z,its,n,r,e⟩:=h.ok I.hok;exact⟨its,r,⟨_,n,e,rfl,rfl,rfl⟩,z⟩
 ·refine⟨its.toList,r,⟨o,n,I.kIn a o hk,hc,hd,by simpa using hs⟩,?_⟩
  have e:=r.length;simp only[zK] at e;walk_at "o"
theorem Inv.tupN (I:Inv X pins σ H s)(h:SqT X.K H a xs):∃its:List Value,Vals xs its/\TupN s.heap a its.toArray/\xs.length<=sizeLine:=by
 rcases h with h|⟨o,its,n,hk,hc,hd,hs,hz,r⟩
 ·obtain⟨z,its,r,p⟩:=h.ok I.hok;exact⟨its,r,p,z⟩
 ·refine⟨its.toList,r,⟨o,I.kIn a o hk,hc,⟨n,by simpa using hs⟩,hd⟩,?_⟩
  have e:=r.length;simp only[zK] at e;walk_at "o"
theorem Inv.tuple (I:Inv X pins σ H s)(h:SqT X.K H a xs):∃its:List Value,Vals xs its/\IsTup s.heap a its.toArray/\xs.length<=sizeLine:=let ⟨its,r,p,z⟩:=I.tupN h;⟨its,r,p.is,z⟩
theorem Inv.list_inj (I:Inv X pins σ H s)(h:SqL X.K H a xs)(h':SqL X.K H a ys):xs=ys:=by
 obtain⟨its,r,⟨o,n,e,_,_,d⟩,_⟩:=I.list h;obtain⟨its',r',⟨o',n',e',_,_,d'⟩,_⟩:=I.list h';rw[e] at e';cases e';rw[d] at d';injection d' with d1 _
 have:its=its':=by simpa using congrArg Array.toList d1
 subst this;exact r.inj r'
theorem Inv.tuple_inj (I:Inv X pins σ H s)(h:SqT X.K H a xs)(h':SqT X.K H a ys):xs=ys:=by
 obtain⟨its,r,⟨o,e,_,n,d⟩,_⟩:=I.tuple h;obtain⟨its',r',⟨o',e',_,n',d'⟩,_⟩:=I.tuple h';rw[e] at e';cases e';rw[d] at d';injection d' with d1 _
 have:its=its':=by simpa using congrArg Array.toList d1
 subst this;exact r.inj r'
end
abbrev Cx.wish (X:Cx) (E:Value->Shared->Prop):Cx:={X with xe:=E}
abbrev Cx.nox (X:Cx):Cx:=X.wish fun _ _=>False
theorem Cx.Ok.wish {X:Cx}(ok:X.Ok)(E:Value->Shared->Prop):(X.wish E).Ok:=
 ⟨ok.mod,ok.kind,ok.glob,ok.blt,ok.above,ok.inj,ok.has,ok.cab,ok.hd,ok.frames,ok.stk,ok.exf,ok.bs,ok.bsz,ok.noex,ok.exfs,ok.funs,ok.frf⟩
theorem Cx.Ok.unwish {X:Cx}{E:Value->Shared->Prop}(ok:(X.wish E).Ok):X.Ok:=
 ⟨ok.mod,ok.kind,ok.glob,ok.blt,ok.above,ok.inj,ok.has,ok.cab,ok.hd,ok.frames,ok.stk,ok.exf,ok.bs,ok.bsz,ok.noex,ok.exfs,ok.funs,ok.frf⟩
section
variable {X:Cx}{pins:List (Addr×Obj)}{σ:St}{H:Hp}{s:Shared}{E:Value->Shared->Prop}
theorem Inv.wish (I:Inv X pins σ H s)(E:Value->Shared->Prop):Inv (X.wish E) pins σ H s:=⟨I.ok.wish E,I.os,I.bare,I.base,I.loc,I.cell,I.free,I.freeC,I.pin,I.hok,I.len⟩
theorem Inv.unwish (I:Inv (X.wish E) pins σ H s):Inv X pins σ H s:=⟨I.ok.unwish,I.os,I.bare,I.base,I.loc,I.cell,I.free,I.freeC,I.pin,I.hok,I.len⟩
theorem SP.unwish {D:Ends}{f:Flow}{s':Shared}(h:SP (X.wish E) pins D f s'):SP X pins D f s':=by
 cases f with
 | next=>obtain⟨σ',H',I,q⟩:=h;exact⟨σ',H',I.unwish,q⟩
 | brk=>obtain⟨σ',H',I,q⟩:=h;exact⟨σ',H',I.unwish,q⟩
 | cont=>obtain⟨σ',H',I,q⟩:=h;exact⟨σ',H',I.unwish,q⟩
 | ret u=>obtain⟨v,σ',H',I,r,q⟩:=h;exact⟨v,σ',H',I.unwish,r,q⟩
theorem PSs.nox {st:List Stmt}{t:TS}(h:PSs X.nox st t):PSs X st t:=fun pins s σ H D I hw=>
 qD (h pins s σ H D (I.wish _) hw) (fun _ _ q=>q.unwish) fun _ _ z=>False.elim z
end
section
variable {X:Cx}{st:Stmt}{rest:List Stmt}{t u:TS}{e:Expr}{te:TE}{pos:Pos}
def tNext:TS:=fun D σ H=>D.nx σ H
def tSeq (t u:TS):TS:=fun D σ H=>t {D with nx:=u D} σ H
theorem a55:PSs X [] tNext:=fun _ _ σ H _ I h=>wpAny_execs_nil ⟨σ,H,I,h⟩
theorem a3U (h1:PS X st t)(h2:PSs X rest u):PSs X (st::rest) (tSeq t u):=by
 intro pins s σ H D I h;refine wpAny_execs_cons (thn (h1 pins s σ H {D with nx:=u D} I h) fun f s1 q=>?_)
 cases f with
 | next=>
  obtain⟨σ',H',I',q⟩:=q;exact h2 pins s1 σ' H' D I' q
 | ret v=>exact q
 | brk=>exact q
 | cont=>exact q
theorem a51 (h1:PS X st t):PSs X [st] t:=by
 intro pins s σ H D I h;refine wpAny_execs_cons (thn (h1 pins s σ H D I h) fun f s1 q=>?_);cases f with
 | next=>exact wpAny_execs_nil q
 | ret v=>exact q
 | brk=>exact q
 | cont=>exact q
theorem Inv.quiet {pins:List (Addr×Obj)}{σ:St}{H:Hp}{s:Shared}(I:Inv X pins σ H s):interactive X.env=false:=by simp[interactive,I.ok.kind]
def tDrop (te:TE):TS:=fun D σ H=>te σ H fun _ H1=>D.nx σ H1
theorem a6n (he:PE X e te)(hs:swapsWith e none pos.line X.env=pure false:=by rfl):PS X (.Expr e pos) (tDrop te):=by
 intro pins s σ H D I h;exact wpAny_Expr_any (thn (he pins s σ H _ I h) fun v s1 h0=>ex5 h0 fun x H1 I1 r1 q1=>⟨σ,H1,I1,q1⟩) I.quiet hs
def tRet (te:TE):TS:=fun D σ H=>te σ H D.rt
theorem a7M (he:PE X e te):PS X (.Return (some e) pos) (tRet te):=by
 intro pins s σ H D I h;exact wpAny_Return_some (thn (he pins s σ H _ I h) fun v s1 h0=>ex5 h0 fun x H1 I1 r1 q1=>⟨x,σ,H1,I1,r1,q1⟩)
def tIfS (c:TT) (t u:TS):TS:=fun D σ H=>c σ H fun b H1=>if b=true then t D σ H1 else u D σ H1
theorem ps_if {c:Expr}{a b:List Stmt}{tc:TT}(hc:PT X c tc)(ha:PSs X a t)(hb:PSs X b u):PS X (.If c a b pos) (tIfS tc t u):=by
 intro pins s σ H D I h;refine wpAny_If (thn (hc pins s σ H _ I h) fun d s1 ⟨H1,I1,q1⟩=>?_);cases d with
 | true=>exact ha pins s1 σ H1 D I1 q1
 | false=>exact hb pins s1 σ H1 D I1 q1
def tNever:TS:=fun _ _ _=>False
theorem a3S:PS X st tNever:=fun _ _ _ _ _ _ h=>h.elim
end
abbrev TG:=V->St->Hp->(St->Hp->Prop)->Prop
abbrev TGs:=List V->St->Hp->(St->Hp->Prop)->Prop
def PG (X:Cx) (target:Expr) (t:TG):Prop:=
 ∀(pins:List (Addr×Obj)) (s:Shared) (σ:St) (H:Hp) (v:V) (u:Value) (Q:St->Hp->Prop),Inv X pins σ H s->RelV v u->t v σ H Q->
  wpAny (model X.prog X.w) X.A (assign target X.env u) (fun _ s'=>∃σ' H',Inv X pins σ' H' s'/\Q σ' H') X.xe s
def PGs (X:Cx) (ts:List Expr) (t:TGs):Prop:=
 ∀(pins:List (Addr×Obj)) (s:Shared) (σ:St) (H:Hp) (vs:List V) (us:List Value) (Q:St->Hp->Prop),Inv X pins σ H s->Vals vs us->t vs σ H Q->
  wpAny (model X.prog X.w) X.A (assignInOrder ((assignEach ts X.env).map (·.2)) us) (fun _ s'=>∃σ' H',Inv X pins σ' H' s'/\Q σ' H') X.xe s
abbrev TSet:=V->V->V->Hp->(Hp->Prop)->Prop
def PSet (X:Cx) (t:TSet):Prop:=
 ∀(pins:List (Addr×Obj)) (s:Shared) (σ:St) (H:Hp) (o i v:V) (ov iv u:Value) (Q:Hp->Prop),Inv X pins σ H s->RelV o ov->RelV i iv->RelV v u->t o i v H Q->
  wpAny (model X.prog X.w) X.A (setItem ov iv u) (fun _ s'=>∃H',Inv X pins σ H' s'/\Q H') X.xe s
section
variable {X:Cx}{pos:Pos}
def gName (i:Nat):TG:=fun v σ H Q=>Q (σ.set i (some v)) H
theorem a1U {i:Nat}{x:Str}(hN:X.N.Nodup)(hi:X.N[i]? =some x)(hx:Loc X.env.scope x)(hf:X.fn x=true\/X.env.scope.names.lookup x=some .local:=by first|exact .inl rfl|exact .inr rfl|assumption):PG X (.Name x pos) (gName i):=by
 intro pins s σ H v u Q I r h;exact wpAny_assign_Name (K5 I hN hi hx r (fun s' I'=>⟨_,H,I',h⟩) hf)
def gNil:TGs:=fun vs σ H Q=>vs=[]/\Q σ H
def gCons (t:TG) (u:TGs):TGs:=fun vs σ H Q=>∃v r,vs=v::r/\t v σ H fun σ' H'=>u r σ' H' Q
theorem a6e:PGs X [] gNil:=by
 intro pins s σ H vs us Q I r h;obtain⟨e,h⟩:=h;subst e;cases r;exact assignInOrder_nil ⟨σ,H,I,h⟩
theorem a3N {e:Expr}{es:List Expr}{t:TG}{u:TGs}(h1:PG X e t)(h2:PGs X es u)
  (hs:(assignEach (e::es) X.env).map (·.2)=assign e X.env::(assignEach es X.env).map (·.2):=by rfl):PGs X (e::es) (gCons t u):=by
 intro pins s σ H vs us Q I r h;obtain⟨v,vr,e1,h⟩:=h;subst e1;cases r with
 | cons r rr=>
  rw[hs];refine assignInOrder_cons (thn (h1 pins s σ H _ _ _ I r h) fun _ s1 ⟨σ1,H1,I1,q1⟩=>?_);exact h2 pins s1 σ1 H1 _ _ Q I1 rr q1
def gTup (K:PySem.W.Frag) (n:Nat) (t:TGs):TG:=fun v σ H Q=>∃a xs,v= .ref a/\SqT K H a xs/\xs.length=n/\t xs σ H Q
theorem a7N {es:List Expr}{k:Nat}{t:TGs}{n:Nat}(hc:X.calm=true)(h:PGs X es t)
  (hn:(assignEach es X.env).length=n:=by rfl) (hst:(assignEach es X.env).findIdx? (·.1)=none:=by rfl):PG X (.Tuple es k pos) (gTup X.K n t):=by
 intro pins s σ H v u Q I r hw;obtain⟨a,xs,e1,hq,hl,hw⟩:=hw;subst e1;cases r;obtain⟨its,rv,ht,hz⟩:=I.tuple hq;refine assign_Tuple_tuple (I.ok.hd hc) ht (by simp[hn,<-hl,rv.length]) hst fun h' hx=>?_
 have I1:Inv X pins σ H {s with heap:=h'}:=I.kept (t':=s.toks) fun b o e=>hx b o (zW (qA e)) e
 exact h pins _ σ H xs _ Q I1 (by simpa using rv) hw
def gSub (to ti:TE) (t:TSet):TG:=fun v σ H Q=>to σ H fun o H1=>ti σ H1 fun i H2=>t o i v H2 fun H3=>Q σ H3
theorem a8o {o i:Expr}{to ti:TE}{t:TSet}(ho:PE X o to)(hi:PE X i ti)(hs:PSet X t)
  (ha:∀v,assign (.Subscript o i pos) X.env v=(do
   let ov <-holding [v] (eval o X.env)
   let iv <-holding [v,ov] (eval i X.env)
   standAt pos
   holding [v,ov,iv] (setItem ov iv v)
   release [v,ov,iv] []):=by intro _;rfl):PG X (.Subscript o i pos) (gSub to ti t):=by
 intro pins s σ H v u Q I r h;rw[ha];refine zA (qO (thn (ho pins s σ H _ I h) fun ov s1 h0=>ex5 h0 fun x H1 I1 r1 q1=>?_));refine zA (qO (thn (hi pins s1 σ H1 _ I1 q1) fun iv s2 h0=>ex5 h0 fun y H2 I2 r2 q2=>?_));refine zA (wpAny_standAt (zA (qO (thn (hs pins s2 σ H2 x y v ov iv u _ I2 r1 r2 r q2) fun _ s3 ⟨H3,I3,q3⟩=>?_))));exact wpAny_release ⟨σ,H3,I3,q3⟩
def tAsg (te:TE) (g:TG):TS:=fun D σ H=>te σ H fun x H1=>g x σ H1 D.nx
theorem a79 {tg e:Expr}{te:TE}{g:TG}(he:PE X e te)(hg:PG X tg g)(hs:swapsWithSole [tg] e pos.line X.env=pure false:=by rfl)(hw:swappedStores [tg] e X.env=pure none:=by rfl)
  (h1:(assignEach [tg] X.env).map (·.2)=[assign tg X.env]:=by rfl):PS X (.Assign [tg] e pos) (tAsg te g):=by
 intro pins s σ H D I h;refine wpAny_Assign_stores (thn (he pins s σ H _ I h) fun v s1 h0=>ex5 h0 fun x H1 I1 r1 q1=>?_) hs hw;rw[h1];exact thn (hg pins s1 σ H1 x v _ I1 r1 q1) fun _ s2 q=>q
theorem a7K {i:Nat}{x:Str}{e:Expr}{te:TE}{pos':Pos}(hN:X.N.Nodup)(hi:X.N[i]? =some x)(hx:Loc X.env.scope x)(he:PE X e te)(hs:swapsWith e (some (.Name x pos')) pos.line X.env=pure false:=by rfl)(hf:X.fn x=true\/X.env.scope.names.lookup x=some .local:=by first|exact .inl rfl|exact .inr rfl|assumption):
  PS X (.Assign [.Name x pos'] e pos) (tAsg te (gName i)):=by
 intro pins s σ H D I h;refine wpAny_Assign_Name (thn (he pins s σ H _ I h) fun v s1 h0=>ex5 h0 fun y H1 I1 r1 q1=>?_) hs;exact K5 I1 hN hi hx r1 (fun s2 I2=>⟨_,H1,I2,q1⟩) hf
def tPar (i j:Nat) (ta:TA):TS:=fun D σ H=>ta σ H fun vs H1=>∃v w,vs=[v,w]/\D.nx ((σ.set i (some v)).set j (some w)) H1
theorem a8h {i j:Nat}{x y:Str}{a b:Expr}{ta:TA}{px py pt:Pos}{kt k2 pt2}(hc:X.calm=true)(hN:X.N.Nodup)(hi:X.N[i]? =some x)(hj:X.N[j]? =some y)(hij:i≠j)
  (hx:X.env.scope.names.lookup x=some .local) (hy:X.env.scope.names.lookup y=some .local) (ha:PA X [a,b] ta)
  (hw:swappedStores [.Tuple [.Name x px,.Name y py] kt pt] (.Tuple [a,b] k2 pt2) X.env=pure (some [x,y]))
  (hs:swapsWithSole [.Tuple [.Name x px,.Name y py] kt pt] (.Tuple [a,b] k2 pt2) pos.line X.env=pure false:=by rfl):
  PS X (.Assign [.Tuple [.Name x px,.Name y py] kt pt] (.Tuple [a,b] k2 pt2) pos) (tPar i j ta):=by
 intro pins s σ H D I h;rw[exec_Assign_arm];refine zA (wpAny_standAt ?_);rw[hs];refine zA (zD ?_);rw[if_neg (by decide)]
 refine zA (Tuple_ (thn (ha _ pins s σ H _ I h) fun us s1 h0=>ex5 h0 fun vs H1 I1 r1 q1=>?_));obtain⟨v,w,e1,q1⟩:=q1;subst e1;obtain⟨u1,u2,rfl,rv,rw'⟩:∃u1 u2,us=[u1,u2]/\RelV v u1/\RelV w u2:=by
  cases r1 with
  | cons p q=>
   cases q with
   | cons p' q'=>
    cases q';exact⟨_,_,rfl,p,p'⟩
 refine jC ?_ (by show 2<=sizeLine;decide)
 have I2:Inv X pins σ H1 {s1 with heap:=s1.heap.push {cls:=.type "tuple",data:=.seq [u1,u2].toArray}}:=I1.kept (t':=s1.toks) fun b o e=>zI _ e
 rw[hw];refine zA (zD ?_);show wpAny (model X.prog X.w) X.A (do rule "assign.swapped-stores";let items <-unpackItems (.ref s1.heap.objs.size) 2 none;assignInOrder [fun v=>bindName X.env y v,fun v=>bindName X.env x v] items.reverse;pure Flow.next) _ _ _
 refine zA (jN (zA (unpackItems_tuple (items:= #[u1,u2]) (I.ok.hd hc) (IsTup.new s1.heap _) fun h' hx'=>?_)));have I3:=I2.kept (h':=h') (t':=s1.toks) fun b o e=>hx' b o (zW (qA e)) e;show wpAny _ _ (assignInOrder [fun v=>bindName X.env y v,fun v=>bindName X.env x v] [u2,u1] >>=fun _=>pure Flow.next) _ _ _;refine zA (assignInOrder_cons (wpAny_bindName (K5 I3 hN hj (.inl hy) rw' (fun s2 I4=>?_) (.inr hy))));refine assignInOrder_cons (wpAny_bindName (K5 I4 hN hi (.inl hx) rv (fun s3 I5=>assignInOrder_nil (zD ?_)) (.inr hx)));rw[List.set_comm _ _ (qN hij)] at I5;exact⟨_,H1,I5,q1⟩
end
section
variable {X:Cx}{pos:Pos}
def tWhile (c:TT) (tb:TS):TS:=fun D σ H=>∃W:Nat->St->Hp->Prop,(∃m,W m σ H)/\∀m σ H,W m σ H->
 c σ H fun b H1=>if b=true then ∃N:St->Hp->Prop,(∀σ' H',N σ' H'->∃m',m'<m/\W m' σ' H')/\tb {D with nx:=N,ct:=N,bk:=D.nx} σ H1 else D.nx σ H1
theorem a5F {c:Expr}{body:List Stmt}{tc:TT}{tb:TS}(hp:PassesOwn (model X.prog X.w) X.A X.env X.xe)(hc:PT X c tc)(hb:PSs X body tb):PS X (.While c body [] pos) (tWhile tc tb):=by
 intro pins s σ H D I h;obtain⟨W,⟨m0,w0⟩,turn⟩:=h;refine wpAny_While (codeAny_whileLoop (fun n s'=>∃σ' H',Inv X pins σ' H' s'/\W n σ' H') ?_ m0 ⟨σ,H,I,w0⟩);rintro n s1 ⟨σ1,H1,I1,w1⟩;refine xC hp (thn (hc pins s1 σ1 H1 _ I1 (turn n σ1 H1 w1)) fun b s2 ⟨H2,I2,q2⟩=>?_);cases b with
 | true=>
  obtain⟨N,hN,q2⟩:=q2;rw[if_pos rfl];refine xC hp (thn (hb pins s2 σ1 H2 _ I2 q2) fun f s3 q3=>?_);cases f with
  | next=>
   obtain⟨σ3,H3,I3,n3⟩:=q3;obtain⟨m',hm,w3⟩:=hN σ3 H3 n3;exact⟨m',hm,σ3,H3,I3,w3⟩
  | cont=>
   obtain⟨σ3,H3,I3,n3⟩:=q3;obtain⟨m',hm,w3⟩:=hN σ3 H3 n3;exact⟨m',hm,σ3,H3,I3,w3⟩
  | brk=>exact q3
  | ret v=>exact q3
 | false=>
  rw[if_neg zS];exact wpAny_execs_nil ⟨σ1,H2,I2,q2⟩
end
structure It where
 go:Nat->Hp->Prop
 yld:Nat->Hp->V->Hp->Prop
 stop:Nat->Hp->Prop
def FpOk (X:Cx) (pins:List (Addr×Obj)) (H:Hp) (b:Addr):Prop:=
 H b=none/\b≠X.env.locals/\b∉X.fs/\(b∈X.ex\/X.s₀.heap.objs.size<=b)/\(∀x c,X.env.cells.lookup x=some c->c≠b)/\∀p∈X.pn++pins,p.1≠b
theorem Inv.fpOk {X:Cx}{pins:List (Addr×Obj)}{σ:St}{H H':Hp}{s:Shared}{b:Addr}(I:Inv X pins σ H s)(hb:s.heap.objs.size<=b)(hn:H' b=none):FpOk X pins H' b:=by
 refine⟨hn,Nat.ne_of_gt (zG I.lt hb),I.nofs hb,.inr (zJ I.sz hb),fun x c e z=>?_,fun p hp z=>?_⟩
 ·obtain⟨v,q⟩:=I.cell x c e;exact absurd (zG q.lt (by rw[z];exact hb)) (xN _)
 ·exact absurd (zG (qA (I.pin p hp).1) (by rw[z];exact hb)) (xN _)
structure Turn (P:Program) (w:World) (K:PySem.W.Frag) (tg:Expr) (J:It) (fp:List Addr) (it:Addr) (tn:Nat->Heap->Prop):Prop where
 mem:it∈fp
 obj:∀i h,tn i h->∀b∈fp,∃o,h.get? b=some o/\∀v,o.data≠.cell v
 keep:∀i h h',tn i h->(∀b∈fp,∀o,h.get? b=some o->h'.get? b=some o)->tn i h'
 item:∀(X:Cx),X.prog=P->X.w=w->X.K=K->X.calm=true->∀(i:Nat) (pins:List (Addr×Obj)) (s:Shared) (σ:St) (H:Hp) (E:Value->Shared->Prop),Inv X pins σ H s->(∀b∈fp,FpOk X pins H b)->tn i s.heap->J.go i H->
  wpAny (model P w) X.A (pyNext (.ref it)) (fun r s1=>∃u,r=some u/\
   wpAny (model P w) X.A (letOwnedTupleGo tg (.ref it) u) (fun _ s2=>∃x H',Inv X pins σ H' s2/\RelV x u/\J.yld i H x H'/\tn (i+1) s2.heap/\∀b∈fp,H' b=none) E s1) E s
 done:∀(X:Cx),X.prog=P->X.w=w->X.K=K->X.calm=true->∀(i:Nat) (pins:List (Addr×Obj)) (s:Shared) (σ:St) (H:Hp) (E:Value->Shared->Prop),Inv X pins σ H s->(∀b∈fp,FpOk X pins H b)->tn i s.heap->J.stop i H->
  wpAny (model P w) X.A (pyNext (.ref it)) (fun r s1=>r=none/\Inv X pins σ H s1) E s
 self:∀(A:Around) (i:Nat) (s:Shared) (Q:Value->Shared->Prop) (E:Value->Shared->Prop),tn i s.heap->Q (.ref it) s->wpAny (model P w) A (pyIter (.ref it)) Q E s
abbrev TI:=St->Hp->(It->Hp->Prop)->Prop
def PIE (X:Cx) (pins:List (Addr×Obj)) (σ:St) (tg:Expr) (R:It->Hp->Prop) (itv:Value) (s2:Shared):Prop:=
 ∃(it:Addr) (fp:List Addr) (tn:Nat->Heap->Prop) (J:It) (H':Hp),itv= .ref it/\Inv X pins σ H' s2/\Turn X.prog X.w X.K tg J fp it tn/\tn 0 s2.heap/\(∀b∈fp,FpOk X pins H' b)/\R J H'
def PI (X:Cx) (tg iter:Expr) (wi:TI):Prop:=
 ∀(pins:List (Addr×Obj)) (s:Shared) (σ:St) (H:Hp) (R:It->Hp->Prop),Inv X pins σ H s->wi σ H R->
  wpAny (model X.prog X.w) X.A (eval iter X.env) (fun v s1=>wpAny (model X.prog X.w) X.A (pyIter v) (PIE X pins σ tg R) X.xe s1) X.xe s
theorem a2V {M:Model}{A:Around}{E:Value->Shared->Prop}{s:Shared}{tg:Expr}{it:Addr}{u:Value}{o:Obj}{n:String}{vs:Array Value}{Q:Unit->Shared->Prop}(ho:s.heap.get? it=some o)(hc:o.cls= .type n)(hd:o.data= .fields vs)
  (hn:["enumerate","zip","dict_itemiterator","dict_reverseitemiterator","odict_iterator","itertools.zip_longest","itertools.pairwise"].contains n=false) (hQ:Q () s):wpAny M A (letOwnedTupleGo tg (.ref it) u) Q E s:=by
 unfold letOwnedTupleGo;cases tg<;>first
  | exact zD hQ
  | (cases u<;>first
    | exact zD hQ
    | (refine zA (wpAny_load ho ?_)
       rw[hc,hd];show wpAny M A (if(["enumerate","zip","dict_itemiterator","dict_reverseitemiterator","odict_iterator","itertools.zip_longest","itertools.pairwise"].contains n&&vs[0]? == some (rawInt _))=true then _ else _) Q E s;rw[if_neg (by intro h;rw[hn,Bool.false_and] at h;cases h)]
       exact zD hQ))
def Itl (K:PySem.W.Frag) (a:Addr):It:=
 ⟨fun i H=>∃xs x,SqL K H a xs/\xs[i]? =some x,fun i H x H'=>H'=H/\∀xs,SqL K H a xs->xs[i]? =some x,fun i H=>∃xs,SqL K H a xs/\xs.length<=i⟩
def Itt (K:PySem.W.Frag) (a:Addr):It:=
 ⟨fun i H=>∃xs x,SqT K H a xs/\xs[i]? =some x,fun i H x H'=>H'=H/\∀xs,SqT K H a xs->xs[i]? =some x,fun i H=>∃xs,SqT K H a xs/\xs.length<=i⟩
def Itr (lo:Int) (n:Nat):It:=⟨fun i _=>i<n,fun i H x H'=>H'=H/\x= .int (lo+i),fun i _=>n<=i⟩
theorem a3v {P:Program}{w:World}{K:PySem.W.Frag}{tg:Expr}(a it:Addr):Turn P w K tg (Itl K a) [it] it (fun i h=>h.IsListIter it a i) where
 mem:=by simp
 obj:=fun i h st b hb=>by
  have e:b=it:=by simpa using hb
  subst e;obtain⟨o,e,c,d⟩:=st;exact⟨o,e,fun v z=>by rw[d] at z;cases z⟩
 keep:=fun i h h' st k=>st.at fun o e=>k it (by simp) o e
 item:=by
  intro X hP hw hK hc i pins s σ H E I hf st hg;subst hP hw hK;obtain⟨xs,x,hq,hx⟩:=hg;obtain⟨its,rv,p,hz⟩:=I.list hq;obtain⟨u,hu,ru⟩:=rv.get hx;obtain⟨f0,f1,f2,f3,f4,f5⟩:=hf it (by simp)
  refine wpAny_pyNext_list_item st p.isList (x:=u) (by simpa using hu) fun h' st' sb=>?_
  have I1:Inv X pins σ H {s with heap:=h'}:=I.turned (t':=s.toks) (fun b o hb e=>(sb.2 b hb).trans e) f0 f1 f3 f4 f5
  obtain⟨o,e,c,d⟩:=id st';exact⟨u,rfl,a2V (s:={s with heap:=h'}) e c d (by decide) ⟨x,H,I1,ru,⟨rfl,fun ys hy=>by rw[I.list_inj hy hq];exact hx⟩,st',fun b hb=>(hf b hb).1⟩⟩
 done:=by
  intro X hP hw hK hc i pins s σ H E I hf st hg;subst hP hw hK;obtain⟨xs,hq,hx⟩:=hg;obtain⟨its,rv,p,hz⟩:=I.list hq;obtain⟨f0,f1,f2,f3,f4,f5⟩:=hf it (by simp)
  have hl:=rv.length;exact wpAny_pyNext_list_end (I.ok.hd hc) st p.isList (by simp;walk_at "o") fun h' eb=>⟨rfl,I.turned (t':=s.toks) (fun b o hb e=>eb b o hb e) f0 f1 f3 f4 f5⟩
 self:=fun _ _ _ _ _ st h=>wpAny_pyIter_listiter st h
theorem a1H {P:Program}{w:World}{K:PySem.W.Frag}{tg:Expr}(a it:Addr):Turn P w K tg (Itt K a) [it] it (fun i h=>h.IsTupleIter it a i) where
 mem:=by simp
 obj:=fun i h st b hb=>by
  have e:b=it:=by simpa using hb
  subst e;obtain⟨o,e,c,d⟩:=st;exact⟨o,e,fun v z=>by rw[d] at z;cases z⟩
 keep:=fun i h h' st k=>st.at fun o e=>k it (by simp) o e
 item:=by
  intro X hP hw hK hc i pins s σ H E I hf st hg;subst hP hw hK;obtain⟨xs,x,hq,hx⟩:=hg;obtain⟨its,rv,p,hz⟩:=I.tuple hq;obtain⟨u,hu,ru⟩:=rv.get hx;obtain⟨f0,f1,f2,f3,f4,f5⟩:=hf it (by simp)
  refine wpAny_pyNext_tuple_item st (show s.heap.IsTuple a its.toArray from p) (x:=u) (by simpa using hu) fun h' st' sb=>?_
  have I1:Inv X pins σ H {s with heap:=h'}:=I.turned (t':=s.toks) (fun b o hb e=>(sb.2 b hb).trans e) f0 f1 f3 f4 f5
  obtain⟨o,e,c,d⟩:=id st';exact⟨u,rfl,a2V (s:={s with heap:=h'}) e c d (by decide) ⟨x,H,I1,ru,⟨rfl,fun ys hy=>by rw[I.tuple_inj hy hq];exact hx⟩,st',fun b hb=>(hf b hb).1⟩⟩
 done:=by
  intro X hP hw hK hc i pins s σ H E I hf st hg;subst hP hw hK;obtain⟨xs,hq,hx⟩:=hg;obtain⟨its,rv,p,hz⟩:=I.tuple hq;obtain⟨f0,f1,f2,f3,f4,f5⟩:=hf it (by simp)
  have hl:=rv.length;exact wpAny_pyNext_tuple_end (I.ok.hd hc) st (show s.heap.IsTuple a its.toArray from p) (by simp;walk_at "o") fun h' eb=>⟨rfl,I.turned (t':=s.toks) (fun b o hb e=>eb b o hb e) f0 f1 f3 f4 f5⟩
 self:=fun _ _ _ _ _ st h=>wpAny_pyIter_tupleiter st h
theorem a1p {P:Program}{w:World}{K:PySem.W.Frag}{tg:Expr}(it:Addr)(lo:Int)(n:Nat):Turn P w K tg (Itr lo n) [it] it (fun i h=>IsRangeIter h it (lo+(i:Nat)*1) ((n:Int)-(i:Nat)) 1) where
 mem:=by simp
 obj:=fun i h st b hb=>by
  have e:b=it:=by simpa using hb
  subst e
  exact⟨_,st,fun v z=>by
   have z':Data.fields _=Data.cell v:=z
   cases z'⟩
 keep:=fun i h h' st k=>k it (by simp) _ st
 item:=by
  intro X hP hw hK hc i pins s σ H E I hf st hg;subst hP hw hK;obtain⟨f0,f1,f2,f3,f4,f5⟩:=hf it (by simp)
  have W:=Walks.range (prog:=X.prog) (w:=X.w) (I.ok.hd hc) it lo 1 n;refine W.item i s _ _ hg st fun v h' tk hv st' kk=>?_;obtain⟨t,rfl⟩:=hv;have I1:Inv X pins σ H {s with heap:=h',toks:=tk}:=I.turned (fun b o hb e=>kk b o (by simpa using hb) e) f0 f1 f3 f4 f5
  refine⟨_,rfl,a2V (s:={s with heap:=h',toks:=tk}) (n:="range_iterator") st' rfl rfl (by decide) ⟨.int (lo+i),H,I1,⟨t,?_⟩,⟨rfl,rfl⟩,st',fun b hb=>(hf b hb).1⟩⟩
  rw[Int.mul_one]
 done:=by
  intro X hP hw hK hc i pins s σ H E I hf st hg;subst hP hw hK;obtain⟨f0,f1,f2,f3,f4,f5⟩:=hf it (by simp)
  exact wpAny_pyNext_range_end (I.ok.hd hc) st (by have:n<=i:=hg;walk_at "o") fun h' eb=>⟨rfl,I.turned (t':=s.toks) (fun b o hb e=>eb b o hb e) f0 f1 f3 f4 f5⟩
 self:=fun _ _ _ _ _ st h=>wpAny_pyIter_rangeiter st h
section
variable {X:Cx}{tg:Expr}
theorem a4C {pins:List (Addr×Obj)}{σ:St}{H:Hp}{s:Shared}{R:It->Hp->Prop}{E:Value->Shared->Prop}{lo hi:Int}{t u v:Tok}{tk:Nat}(I:Inv X pins σ H s)(h1:-(2^62)<=lo)(h2:lo<2^62)(h3:-(2^62)<=hi)(h4:hi<2^62)
  (q:R (Itr lo (hi-lo).toNat) H):wpAny (model X.prog X.w) X.A (pyIter (.ref s.heap.objs.size)) (PIE X pins σ tg R) E {s with heap:=s.heap.push {cls:=.type "range",data:=.fields #[.int lo t,.int hi u,.int 1 v]},toks:=tk}:=by
 refine wpAny_pyIter_range (IsRange.new ..) (small_one h1 h2 h3 h4) ?_;have I1:Inv X pins σ H {s with heap:=s.heap.push {cls:=.type "range",data:=.fields #[.int lo t,.int hi u,.int 1 v]},toks:=tk}:=I.kept fun b o e=>zI _ e
 refine⟨(s.heap.push {cls:=.type "range",data:=.fields #[.int lo t,.int hi u,.int 1 v]}).objs.size,[(s.heap.push {cls:=.type "range",data:=.fields #[.int lo t,.int hi u,.int 1 v]}).objs.size],_,_,H,rfl,
  I1.kept (t':=tk) fun b o e=>zI _ e,a1p _ lo (hi-lo).toNat,?_,fun b hb=>?_,q⟩
 ·have e1:lo+((0:Nat):Int)*1=lo:=by simp
  have e2:(((hi-lo).toNat:Nat):Int)-((0:Nat):Int)=Builtin.Range.rangeSize lo hi 1:=by rw[rangeSize_one];split<;>walk_at "o"
  show IsRangeIter _ _ (lo+((0:Nat):Int)*1) ((((hi-lo).toNat:Nat):Int)-((0:Nat):Int)) 1;rw[e1,e2];exact qK _ rfl
 ·have e:b=(s.heap.push {cls:=.type "range",data:=.fields #[.int lo t,.int hi u,.int 1 v]}).objs.size:=by simpa using hb
  subst e;exact I1.fpOk (zC _) (I1.hok.fresh (zC _))
def iRng1 (ta:TA):TI:=fun σ H R=>ta σ H fun vs H1=>∃j:Int,vs=[.int j]/\-(2^62)<=j/\j<2^62/\R (Itr 0 j.toNat) H1
theorem a3i {a:Expr}{ta:TA}{p pos:Pos}(hg:Gl X "range")(hm:X.mg "range"=none)(ha:PA X [a] ta)(hs:starEach [a] X.env=[(false,eval a X.env)]:=by rfl):PI X tg (.Call (.Name "range" p) [a] [] pos) (iRng1 ta):=by
 intro pins s σ H R I h;refine Call_ (a0n I hg hm boot_range (PyProof.Rows.callWith_type1 (thn (ha pos pins s σ H _ I h) fun us s1 h0=>ex5 h0 fun vs H1 I1 r1 q1=>?_) hs rfl));obtain⟨j,e,q1,q2,q⟩:=q1;subst e;cases r1 with
 | cons r rr=>
  cases rr;obtain⟨t,rfl⟩:=r;exact call_range_1 (a4C I1 (by walk_at "o") (by walk_at "o") q1 q2 (by simpa using q))
def tFor (wi:TI) (g:TG) (tb:TS):TS:=fun D σ H=>wi σ H fun J H1=>∃W:Nat->Nat->St->Hp->Prop,(∃m,W 0 m σ H1)/\∀i m σ H,W i m σ H->
 (J.stop i H/\D.nx σ H)\/(J.go i H/\∃N:St->Hp->Prop,(∀σ' H',N σ' H'->∃m',m'<m/\W (i+1) m' σ' H')/\∀x H',J.yld i H x H'->g x σ H' fun σ2 H2=>tb {D with nx:=N,ct:=N,bk:=D.nx} σ2 H2)
def pinsAt (fp:List Addr) (h:Heap):List (Addr×Obj):=fp.filterMap fun b=>(h.get? b).map fun o=>(b,o)
theorem C2 {fp:List Addr}{h:Heap}{b:Addr}{o:Obj}(hb:b∈fp)(e:h.get? b=some o):(b,o)∈pinsAt fp h:=List.mem_filterMap.mpr ⟨b,hb,by rw[e];rfl⟩
theorem a3t {fp:List Addr}{h:Heap}{p:Addr×Obj}(hp:p∈pinsAt fp h):p.1∈fp/\h.get? p.1=some p.2:=by
 obtain⟨b,hb,e⟩:=List.mem_filterMap.mp hp;cases q:h.get? b with
 | none=>rw[q] at e;cases e
 | some o=>
  rw[q] at e;have e':(b,o)=p:=qS e;subst e';exact⟨hb,q⟩
theorem Inv.pinned {pins:List (Addr×Obj)}{σ:St}{H:Hp}{s:Shared}{fp:List Addr}(I:Inv X pins σ H s)(hf:∀b∈fp,FpOk X pins H b)(ho:∀b∈fp,∃o,s.heap.get? b=some o/\∀v,o.data≠.cell v):Inv X (pins++pinsAt fp s.heap) σ H s:=
 I.pins_of fun p hp=>(jM.mp hp).elim (fun z=>I.pin p (qM _ z)) fun z=>by
  obtain⟨hb,e⟩:=a3t z;obtain⟨f0,f1,f2,_⟩:=hf p.1 hb;obtain⟨o,e',d⟩:=ho p.1 hb;rw[e] at e';cases e';exact⟨e,f0,f1,f2,d⟩
theorem Inv.unpinned {pins pl:List (Addr×Obj)}{σ:St}{H:Hp}{s:Shared}(I:Inv X (pins++pl) σ H s):Inv X pins σ H s:=I.pins_of fun p hp=>I.pin p (qM _ (List.mem_append_left _ hp))
theorem a8g {iter:Expr}{body:List Stmt}{wi:TI}{g:TG}{tb:TS}{pos:Pos}(hp:PassesOwn (model X.prog X.w) X.A X.env X.xe)(hc:X.calm=true)(hi:PI X tg iter wi)(hg:PG X tg g)(hb:PSs X body tb)
  (hs:∀x,foldedSetIterable iter X.env x=pure x:=by intro _;rfl):PS X (.For tg iter body [] pos) (tFor wi g tb):=by
 intro pins s σ H D I h;refine wpAny_For (thn (hi pins s σ H _ I h) fun v s1 h1=>thn h1 fun itv s2 h2=>?_) hs;obtain⟨it,fp,tn,J,H2,e,I2,T,st2,f2,W,⟨m0,w0⟩,turn⟩:=h2;subst e;have stat:∀{H':Hp},(∀b∈fp,H' b=none)->∀b∈fp,FpOk X pins H' b:=fun hn b hb=>⟨hn b hb,(f2 b hb).2⟩;refine codeAny_forLoop_any (fun n s'=>∃i σ' H',Inv X pins σ' H' s'/\tn i s'.heap/\(∀b∈fp,H' b=none)/\W i n σ' H') ?_ m0 ⟨0,σ,H2,I2,st2,fun b hb=>(f2 b hb).1,w0⟩;rintro n s3 ⟨i,σ3,H3,I3,st3,fr3,w3⟩;rcases turn i n σ3 H3 w3 with ⟨stop,qn⟩|⟨go,N,hN,step⟩
 ·refine xC hp (thn (T.done X rfl rfl rfl hc i pins s3 σ3 H3 X.xe I3 (stat fr3) st3 stop) fun r s4 ⟨hr,I4⟩=>?_);subst hr;exact wpAny_execs_nil ⟨σ3,H3,I4,qn⟩
 ·refine xC hp (thn (T.item X rfl rfl rfl hc i pins s3 σ3 H3 X.xe I3 (stat fr3) st3 go) fun r s4 ⟨u,hr,h4⟩=>?_);subst hr;refine xC hp (thn h4 fun _ s5 ⟨x,H5,I5,r5,y5,st5,fr5⟩=>?_);have I5':=I5.pinned (stat fr5) (T.obj _ _ st5);refine xC hp (thn (hg _ s5 σ3 H5 x u _ I5' r5 (step x H5 y5)) fun _ s6 ⟨σ6,H6,I6,q6⟩=>?_);refine xC hp (thn (hb _ s6 σ6 H6 _ I6 q6) fun f s7 q7=>?_);have again:∀{σ7:St} {H7:Hp},Inv X (pins++pinsAt fp s5.heap) σ7 H7 s7->N σ7 H7->∃m,m<n/\∃i σ' H',Inv X pins σ' H' s7/\tn i s7.heap/\(∀b∈fp,H' b=none)/\W i m σ' H':=fun{σ7 H7} I7 n7=>by
   obtain⟨m',hm,w7⟩:=hN σ7 H7 n7;refine⟨m',hm,i+1,σ7,H7,I7.unpinned,T.keep _ _ _ st5 fun b hb o e=>(I7.pin (b,o) (qM _ (qM _ (C2 hb e)))).1,fun b hb=>?_,w7⟩;obtain⟨o,e,d⟩:=T.obj _ _ st5 b hb;exact(I7.pin (b,o) (qM _ (qM _ (C2 hb e)))).2.1
  cases f with
  | next=>obtain⟨σ7,H7,I7,n7⟩:=q7;exact again I7 n7
  | cont=>obtain⟨σ7,H7,I7,n7⟩:=q7;exact again I7 n7
  | brk=>obtain⟨σ7,H7,I7,q7⟩:=q7;exact⟨σ7,H7,I7.unpinned,q7⟩
  | ret v=>obtain⟨x7,σ7,H7,I7,r7,q7⟩:=q7;exact⟨x7,σ7,H7,I7.unpinned,r7,q7⟩
end
abbrev R2:=V->V->Hp->VK->Prop
def OpR (X:Cx) (f:Value->Value->Sem Value) (r:R2):Prop:=
 ∀(pins:List (Addr×Obj)) (s:Shared) (σ:St) (H:Hp) (x y:V) (v u:Value) (Q:VK),Inv X pins σ H s->RelV x v->RelV y u->r x y H Q->
  wpAny (model X.prog X.w) X.A (f v u) (EP X pins σ Q) X.xe s
def UnR (X:Cx) (f:Value->Sem Value) (r:V->Hp->VK->Prop):Prop:=
 ∀(pins:List (Addr×Obj)) (s:Shared) (σ:St) (H:Hp) (x:V) (v:Value) (Q:VK),Inv X pins σ H s->RelV x v->r x H Q->
  wpAny (model X.prog X.w) X.A (f v) (EP X pins σ Q) X.xe s
def CallR (X:Cx) (f:Value) (r:List V->Hp->VK->Prop):Prop:=
 ∀(pins:List (Addr×Obj)) (s:Shared) (σ:St) (H:Hp) (xs:List V) (us:List Value) (Q:VK),Inv X pins σ H s->Vals xs us->r xs H Q->
  wpAny (model X.prog X.w) X.A (call f us) (EP X pins σ Q) X.xe s
def TruR (X:Cx) (r:V->Hp->(Bool->Hp->Prop)->Prop):Prop:=
 ∀(pins:List (Addr×Obj)) (s:Shared) (σ:St) (H:Hp) (x:V) (v:Value) (Q:Bool->Hp->Prop),Inv X pins σ H s->RelV x v->r x H Q->
  wpAny (model X.prog X.w) X.A (truthy v) (TP X pins σ Q) X.xe s
def tOp (r:R2) (ta tb:TE):TE:=fun σ H Q=>ta σ H fun x H1=>tb σ H1 fun y H2=>r x y H2 Q
def tUn (r:V->Hp->VK->Prop) (ta:TE):TE:=fun σ H Q=>ta σ H fun x H1=>r x H1 Q
def rI (C:Int->Int->Prop) (g:Int->Int->V):R2:=fun x y H Q=>∃i j,x= .int i/\y= .int j/\C i j/\Q (g i j) H
def rI0 (g:Int->Int->V):R2:=fun x y H Q=>∃i j,x= .int i/\y= .int j/\Q (g i j) H
def rU (g:Int->V):V->Hp->VK->Prop:=fun x H Q=>∃i,x= .int i/\Q (g i) H
section
variable {X:Cx}{a b:Expr}{ta tb:TE}{pos:Pos}
theorem binT (ha:PE X a ta)(hb:PE X b tb){pins:List (Addr×Obj)}{s:Shared}{σ:St}{H:Hp}{R:V->V->Hp->Prop}(I:Inv X pins σ H s)
  (h:ta σ H fun x H1=>tb σ H1 fun y H2=>R x y H2) {Q:Value->Shared->Prop} {f:Value->Value->Sem Value}
  (hf:∀v u s2 x y H2,Inv X pins σ H2 s2->RelV x v->RelV y u->R x y H2->wpAny (model X.prog X.w) X.A (f v u) Q X.xe s2):
  wpAny (model X.prog X.w) X.A (eval a X.env) (fun v s₁=>wpAny (model X.prog X.w) X.A (eval b X.env) (fun u s₂=>wpAny (model X.prog X.w) X.A (f v u) Q X.xe s₂) X.xe s₁) X.xe s:=by
 refine thn (ha pins s σ H _ I h) fun v s1 h0=>ex5 h0 fun x H1 I1 r1 q1=>?_;refine thn (hb pins s1 σ H1 _ I1 q1) fun u s2 h0=>ex5 h0 fun y H2 I2 r2 q2=>?_;exact hf v u s2 x y H2 I2 r1 r2 q2
theorem pe_op {op:Operator}{r:R2}(ho:OpR X (binaryOp op) r)(ha:PE X a ta)(hb:PE X b tb):PE X (.BinOp a op b pos) (tOp r ta tb):=by
 intro pins s σ H Q I h;exact wpAny_BinOp (binT ha hb I h fun v u s2 x y H2 I2 rx ry q=>ho pins s2 σ H2 x y v u Q I2 rx ry q)
theorem pe_un {op:UnaryOp}{r:V->Hp->VK->Prop}(ho:UnR X (unaryOp op) r)(ha:PE X a ta):PE X (.UnaryOp op a pos) (tUn r ta):=by
 intro pins s σ H Q I h;exact UnaryOp_ (thn (ha pins s σ H _ I h) fun v s1 h0=>ex5 h0 fun x H1 I1 r1 q1=>ho pins s1 σ H1 x v Q I1 r1 q1)
theorem opI {f:Value->Value->Sem Value}{C:Int->Int->Prop}{g:Int->Int->Int}
  (rule:∀(i j:Int) (t u:Tok) (s:Shared) (Q:Value->Shared->Prop) (E:Value->Shared->Prop),C i j->Q (.int (g i j) s.toks) {s with toks:=s.toks+1}->wpAny (model X.prog X.w) X.A (f (.int i t) (.int j u)) Q E s):
  OpR X f (rI C fun i j=>.int (g i j)):=by
 intro pins s σ H x y v u Q I rx ry h;obtain⟨i,j,rfl,rfl,hc,q⟩:=h;obtain⟨t,rfl⟩:=rx;obtain⟨t',rfl⟩:=ry;exact rule i j t t' s _ _ hc ⟨.int (g i j),H,I.tok _,⟨_,rfl⟩,q⟩
theorem opI0 {f:Value->Value->Sem Value}{g:Int->Int->Int}
  (rule:∀(i j:Int) (t u:Tok) (s:Shared) (Q:Value->Shared->Prop) (E:Value->Shared->Prop),Q (.int (g i j) s.toks) {s with toks:=s.toks+1}->wpAny (model X.prog X.w) X.A (f (.int i t) (.int j u)) Q E s):
  OpR X f (rI0 fun i j=>.int (g i j)):=by
 intro pins s σ H x y v u Q I rx ry h;obtain⟨i,j,rfl,rfl,q⟩:=h;obtain⟨t,rfl⟩:=rx;obtain⟨t',rfl⟩:=ry;exact rule i j t t' s _ _ ⟨.int (g i j),H,I.tok _,⟨_,rfl⟩,q⟩
theorem opB0 {f:Value->Value->Sem Value}{g:Int->Int->Bool}
  (rule:∀(i j:Int) (t u:Tok) (s:Shared) (Q:Value->Shared->Prop) (E:Value->Shared->Prop),Q (.bool (g i j)) s->wpAny (model X.prog X.w) X.A (f (.int i t) (.int j u)) Q E s):
  OpR X f (rI0 fun i j=>.bl (g i j)):=by
 intro pins s σ H x y v u Q I rx ry h;obtain⟨i,j,rfl,rfl,q⟩:=h;obtain⟨t,rfl⟩:=rx;obtain⟨t',rfl⟩:=ry;exact rule i j t t' s _ _ ⟨.bl (g i j),H,I,rfl,q⟩
def CPow (i j:Int):Prop:=0<=j/\j<=1000000/\i.natAbs<2^64
theorem a1w (k:Nat):(0:Int)<=2^k:=by
 rw[two_pow_cast];exact Int.natCast_nonneg _
theorem a8f:OpR X (binaryOp .Add) (rI0 fun i j=>.int (i+j)):=opI0 fun _ _ _ _ _ _ _ q=>add_int q
theorem a7D:OpR X (binaryOp .Sub) (rI0 fun i j=>.int (i-j)):=opI0 fun _ _ _ _ _ _ _ q=>sub_int q
theorem a7H:OpR X (binaryOp .Mod) (rI (fun _ j=>0<j) fun i j=>.int (i%j)):=opI fun i j _ _ _ _ _ hc q=>by
 have h1:(0:Int)<j:=hc;exact mod_int' (by walk_at "o") (by rw[Int.fmod_eq_emod_of_nonneg i (by walk_at "o")];exact q)
theorem a73:OpR X (binaryOp .Pow) (rI CPow fun i j=>.int (i^j.toNat)):=opI fun _ _ _ _ _ _ _ hc q=>pow_int_small hc.1 hc.2.1 hc.2.2 q
theorem a72:OpR X (binaryOp .RShift) (rI (fun _ j=>0<=j) fun i j=>.int (i/2^j.toNat)):=opI fun i j _ _ _ _ _ hc q=>
 rshift_int hc (by rw[Int.fdiv_eq_ediv_of_nonneg i (a1w _)];exact q)
theorem a8n:OpR X (binaryOp .BitAnd) (rI0 fun i j=>.int (Builtin.bitAnd i j)):=opI0 fun _ _ _ _ _ _ _ q=>and_int q
theorem unI {f:Value->Sem Value}{g:Int->Int}
  (rule:∀(i:Int) (t:Tok) (s:Shared) (Q:Value->Shared->Prop) (E:Value->Shared->Prop),Q (.int (g i) s.toks) {s with toks:=s.toks+1}->wpAny (model X.prog X.w) X.A (f (.int i t)) Q E s):
  UnR X f (rU fun i=>.int (g i)):=by
 intro pins s σ H x v Q I rx h;obtain⟨i,rfl,q⟩:=h;obtain⟨t,rfl⟩:=rx;exact rule i t s _ _ ⟨.int (g i),H,I.tok _,⟨_,rfl⟩,q⟩
theorem a8a:UnR X (unaryOp .USub) (rU fun i=>.int (-i)):=unI fun _ _ _ _ _ q=>neg_int q
end
section
variable {X:Cx}{a b c:Expr}{ta tb:TE}{pos:Pos}
theorem op_lt:OpR X (compareOp .Lt) (rI0 fun i j=>.bl (decide (i<j))):=opB0 fun _ _ _ _ _ _ _ q=>lt_int q
theorem op_gt:OpR X (compareOp .Gt) (rI0 fun i j=>.bl (decide (j<i))):=opB0 fun _ _ _ _ _ _ _ q=>gt_int q
theorem op_ge:OpR X (compareOp .GtE) (rI0 fun i j=>.bl (decide (j<=i))):=opB0 fun _ _ _ _ _ _ _ q=>ge_int q
theorem OpR.or {f:Value->Value->Sem Value}{r r':R2}(h:OpR X f r)(h':OpR X f r'):OpR X f (fun x y H Q=>r x y H Q\/r' x y H Q):=by
 intro pins s σ H x y v u Q I rx ry q;rcases q with q|q
 ·exact h pins s σ H x y v u Q I rx ry q
 ·exact h' pins s σ H x y v u Q I rx ry q
theorem nomark (b:Expr){op:CmpOp}(h:op≠.In:=by decide)(h2:op≠.NotIn:=by decide):behindInMarks op b=false:=by
 have e1:(op==CmpOp.In)=false:=by cases op<;>first|rfl|exact absurd rfl h
 have e2:(op==CmpOp.NotIn)=false:=by cases op<;>first|rfl|exact absurd rfl h2
 cases b<;>simp[behindInMarks,e1,e2]
def tTest (t:TE):TT:=fun σ H Q=>t σ H fun x H'=>∃k,x= .bl k/\Q k H'
theorem a6r {op:CmpOp}{r:R2}(ho:OpR X (compareOp op) r)(ha:PE X a ta)(hb:PE X b tb)(hm:behindInMarks op b=false):PT X (.Compare a [op] [b] pos) (tTest (tOp r ta tb)):=by
 intro pins s σ H Q I h
 refine wpAny_isTrue_Compare1 (thn (ha pins s σ H _ I h) fun v s1 h0=>ex5 h0 fun x H1 I1 r1 q1=>thn (hb pins s1 σ H1 _ I1 q1) fun u s2 h0=>ex5 h0 fun y H2 I2 r2 q2=>
  thn (ho pins s2 σ H2 x y v u _ I2 r1 r2 q2) fun c s3 ⟨z,H3,I3,r3,k,e,q3⟩=>?_) hm
 subst e;cases r3;exact wpAny_truthy_bool ⟨H3,I3,q3⟩
def TruV (K:PySem.W.Frag) (x:V) (H:Hp) (k:Bool):Prop:=
 match x with
 | .non=>k=false
 | .bl b=>k=b
 | .int i=>k=(i != 0)
 | .str y=>y.length<=sizeLine/\k=((y.length:Int) != 0)
 | .byt y=>y.size<=sizeLine/\k=((y.size:Int) != 0)
 | .ref p=>(∃xs,SqL K H p xs/\k= !xs.isEmpty)\/(∃xs,SqT K H p xs/\k= !xs.isEmpty)\/∃kvs,H p=some (.dK kvs)/\k= !kvs.isEmpty
 | _=>False
theorem a1J {κ:Type}{kvs:List (κ×V)}{vs:List (κ×Value)}(r:KV kvs vs):(!vs.isEmpty)= !kvs.isEmpty:=by
 cases r<;>rfl
theorem S2 {xs:List V}{its:List Value}(r:Vals xs its):(!its.toArray.isEmpty)= !xs.isEmpty:=by
 cases r<;>simp
theorem line63:(sizeLine:Nat)<2^63:=by rw[sizeLine_eq];decide
theorem a31:TruR X (fun x H Q=>∃k,TruV X.K x H k/\Q k H):=by
 intro pins s σ H x v Q I rx h;obtain⟨k,e,q⟩:=h;have hl:=line63;have hs:sizeLine=16777216:=sizeLine_eq;cases x with
 | non=>
  cases rx;have e':k=false:=e;subst e';exact truthy_none ⟨H,I,q⟩
 | bl b=>
  cases rx;have e':k=b:=e;subst e';exact wpAny_truthy_bool ⟨H,I,q⟩
 | int i=>
  obtain⟨t,rfl⟩:=rx;have e':k=(i != 0):=e;subst e';exact PySem.P.truthy_int ⟨H,I,q⟩
 | str y=>
  obtain⟨t,rfl⟩:=rx;obtain⟨hy,e'⟩:y.length<=sizeLine/\k=((y.length:Int) != 0):=e;subst e';exact PySem.P.truthy_str (by walk_at "o") ⟨H,I.tok _,q⟩
 | byt y=>
  obtain⟨t,rfl⟩:=rx;obtain⟨hy,e'⟩:y.size<=sizeLine/\k=((y.size:Int) != 0):=e;subst e';exact PySem.W.truthy_bytes (by walk_at "o") ⟨H,I.tok _,q⟩
 | ref p=>
  cases rx;have e':(∃xs,SqL X.K H p xs/\k= !xs.isEmpty)\/(∃xs,SqT X.K H p xs/\k= !xs.isEmpty)\/∃kvs,H p=some (.dK kvs)/\k= !kvs.isEmpty:=e;rcases e' with ⟨xs,hx,e'⟩|⟨xs,hx,e'⟩|⟨kvs,hx,e'⟩
  ·subst e';obtain⟨its,r,pl,hz⟩:=I.list hx;have hlen:=r.length;exact wpAny_truthy_list pl.isList (by simp only[zP];walk_at "o") ⟨H,I.tok _,by rw[S2 r];exact q⟩
  ·subst e';obtain⟨its,r,pl,hz⟩:=I.tuple hx;have hlen:=r.length;exact truthy_tuple pl (by simp only[zP];walk_at "o") ⟨H,I.tok _,by rw[S2 r];exact q⟩
  ·subst e';obtain⟨hz,hS,vs,r,m⟩:kvs.length<=sizeLine/\(p==sysModules)=false/\∃vs,KV kvs vs/\s.heap.DictAt (mixKind X.prog X.w) p vs kvs.length:=I.hok p _ hx;have hlen:kvs.length=vs.length:=xM r;exact wpAny_truthy_dict hS m.dictOf (by walk_at "o") ⟨H,I.tok _,by rw[a1J r];exact q⟩
 | _=>exact(show False from e).elim
theorem a4y (ha:PE X a ta)(he:∀whole,isTrue a X.env whole=(do let v <-whole;standAt a.pos;holding [v] (truthy v))):
  PT X a (fun σ H Q=>ta σ H fun x H'=>∃k,TruV X.K x H' k/\Q k H'):=by
 intro pins s σ H Q I h;exact isTrue_plain (thn (ha pins s σ H _ I h) fun v s1 h0=>ex5 h0 fun x H1 I1 r1 q1=>a31 pins s1 σ H1 x v Q I1 r1 q1) (he _)
theorem vals1 {x:V}{us:List Value}(r:Vals [x] us):∃u,us=[u]/\RelV x u:=by
 cases r with
 | cons r1 r2=>cases r2;exact⟨_,rfl,r1⟩
theorem vals2 {x y:V}{us:List Value}(r:Vals [x,y] us):∃u w',us=[u,w']/\RelV x u/\RelV y w':=by
 cases r with
 | cons r1 r2=>
  cases r2 with
  | cons r3 r4=>cases r4;exact⟨_,_,rfl,r1,r3⟩
theorem a0y:CallR X (.builtin "abs") (fun xs H Q=>∃i,xs=[.int i]/\Q (.int (if i<0 then -i else i)) H):=by
 intro pins s σ H xs us Q I r h;obtain⟨i,rfl,q⟩:=h;obtain⟨u,rfl,t,rfl⟩:=vals1 r;exact call_abs_int fun u tk=>⟨.int (if i<0 then -i else i),H,I.tok _,⟨_,rfl⟩,q⟩
theorem a3j (hc:X.calm=true):CallR X (.builtin "max") (fun xs H Q=>∃i j,xs=[.int i,.int j]/\Q (.int (if j>i then j else i)) H):=by
 intro pins s σ H xs us Q I r h;obtain⟨i,j,rfl,q⟩:=h;obtain⟨u,w',rfl,⟨t,rfl⟩,⟨t',rfl⟩⟩:=vals2 r;refine max_two_ints (I.ok.hd hc) fun h' tk k=>⟨_,H,I.kept k,?_,q⟩
 by_cases hj:j>i
 ·rw[if_pos hj,if_pos hj];exact⟨_,rfl⟩
 ·rw[if_neg hj,if_neg hj];exact⟨_,rfl⟩
theorem a3r (hc:X.calm=true):CallR X (.builtin "min") (fun xs H Q=>∃i j,xs=[.int i,.int j]/\Q (.int (if j<i then j else i)) H):=by
 intro pins s σ H xs us Q I r h;obtain⟨i,j,rfl,q⟩:=h;obtain⟨u,w',rfl,⟨t,rfl⟩,⟨t',rfl⟩⟩:=vals2 r;refine min_two_ints (I.ok.hd hc) fun h' tk k=>⟨_,H,I.kept k,?_,q⟩
 by_cases hj:j<i
 ·rw[if_pos hj,if_pos hj];exact⟨_,rfl⟩
 ·rw[if_neg hj,if_neg hj];exact⟨_,rfl⟩
end
theorem RelO.some_of {v:V}{o:Option Value}(r:RelO (some v) o):∃u,o=some u/\RelV v u:=by
 cases o with
 | none=>exact(show False from r).elim
 | some u=>exact⟨u,rfl,r⟩
structure Cls (K:PySem.W.Frag) (C:Addr):Prop where
 pg:PySem.W.plainGet K C Str.empty=true
 hd:PySem.W.hasDictIn K C=true
 po:PySem.W.plainOver K C=true
 sa:PySem.W.findIn K (.ref C) "__setattr__"=some (some (.builtin "object.__setattr__"))
section
variable {H:Hp}
inductive TyOf (K:PySem.W.Frag) (H:Hp):V->Value->Prop where
 | non:TyOf K H .non (.type "NoneType")
 | bl (x:Bool):TyOf K H (.bl x) (.type "bool")
 | int (i:Int):TyOf K H (.int i) (.type "int")
 | str (x:Str):TyOf K H (.str x) (.type "str")
 | flt (x:UInt64):TyOf K H (.flt x) (.type "float")
 | lst {a:Addr} {xs:List V} (e:H a=some (.lst xs)):TyOf K H (.ref a) (.type "list")
 | frz {a:Addr} {o:Obj} {xs:List V} (e:H a=some (.frz o (.lst xs))):TyOf K H (.ref a) (.type "list")
 | tup {a:Addr} {xs:List V} (e:H a=some (.tup xs)):TyOf K H (.ref a) (.type "tuple")
 | dK {a:Addr} {kvs:List (Key×V)} (e:H a=some (.dK kvs)):TyOf K H (.ref a) (.type "dict")
 | dT {a:Addr} {kvs:List (List Key×V)} (e:H a=some (.dT kvs)):TyOf K H (.ref a) (.type "dict")
 | ins {a C dx:Addr} {fs:List (Str×V)} (e:H a=some (.ins C dx fs)) (cl:Cls K C) (ha:PySem.W.findIn K (.ref C) "__class__"=some (some (.builtin "object.__class__")))
   (hn:PySem.W.specialIn K (.builtin "object.__class__") "__get__"=some (some (.builtin "getset_descriptor.__get__"))) (htk:PySem.W.takesIn K (.builtin "object.__class__")=some true)
   (hm:PySem.W.mroIn K C (.type "object")=some true):TyOf K H (.ref a) (.ref C)
end
structure Room (k:Nat) (A:Around):Prop where
 hd:A.handled=none
 dp:A.depth+3*k+5<recursionLimit
 un:A.units+16*k+200<cLine
 gd:A.guards=some []
theorem Room.mono {j k:Nat}{A:Around}(r:Room k A)(h:j<=k):Room j A:=⟨r.hd,by have:=r.dp;walk_at "o",by have:=r.un;walk_at "o",r.gd⟩
theorem Room.deeper {k:Nat}{A:Around}(r:Room (k+1) A)(env:Env):Room k (A.deeper env):=
 ⟨r.hd,by have:=r.dp;show A.depth+1+3*k+5<_;walk_at "o",by have:=r.un;show A.units+3+16*k+200<_;walk_at "o",r.gd⟩
theorem Room.depth {k:Nat}{A:Around}(r:Room k A):A.depth<recursionLimit:=by have:=r.dp;walk_at "o"
theorem Room.units {k:Nat}{A:Around}(r:Room k A):A.units+64<cLine:=by have:=r.un;walk_at "o"
def tNil:TA:=fun _ H Q=>Q [] H
def tCons (ta:TE) (tr:TA):TA:=fun σ H Q=>ta σ H fun x H1=>tr σ H1 fun xs H2=>Q (x::xs) H2
section
variable {X:Cx}{e:Expr}{es:List Expr}{te:TE}{t:TA}{pos:Pos}
theorem a4v:PA X [] tNil:=fun _ _ _ _ H Q I h=>Calls.spliced_nil ⟨[],H,I,.nil,h⟩
theorem Z7 (ha:PE X e te)(hr:PA X es t)(hs:starEach (e::es) X.env=(false,eval e X.env)::starEach es X.env:=by rfl):PA X (e::es) (tCons te t):=by
 intro pos pins s σ H Q I h;rw[hs];show wpAny _ _ (spliced ((false,eval e X.env)::backTo pos (starEach es X.env))) _ _ s;refine Calls.spliced_cons (thn (ha pins s σ H _ I h) fun u s1 h0=>ex5 h0 fun x H1 I1 r1 q1=>?_);exact thn (hr pos pins s1 σ H1 _ I1 q1) fun us s2 h0=>ex5 h0 fun xs H2 I2 r2 q2=>⟨x::xs,H2,I2,.cons r1 r2,q2⟩
def tTup (t:TA):TE:=fun σ H Q=>t σ H fun xs H1=>xs.length<=sizeLine/\∀p,H1 p=none->Q (.ref p) (upd H1 p (.tup xs))
def tLst (t:TA):TE:=fun σ H Q=>t σ H fun xs H1=>xs.length<=sizeLine/\∀p,H1 p=none->Q (.ref p) (upd H1 p (.lst xs))
theorem a7R {x1}(h:PA X es t):PE X (.Tuple es x1 pos) (tTup t):=by
 intro pins s σ H Q I hq;refine wpAny_Tuple_spliced (thn (h pos pins s σ H _ I hq) fun us s1 ⟨xs,H1,I1,r,z,q⟩=>⟨by rw[<-r.length];exact z,?_⟩)
 have hf:H1 s1.heap.objs.size=none:=I1.hok.fresh (zC _);refine⟨.ref s1.heap.objs.size,upd H1 s1.heap.objs.size (.tup xs),I1.laid (t':=s1.toks) (fun b u e=>zI _ e) (zC _) ?_,rfl,q _ hf⟩;exact⟨z,us,r,TupN.new _ _⟩
theorem a7U (h:PA X es t):PE X (.List es pos) (tLst t):=by
 intro pins s σ H Q I hq;refine wpAny_List_spliced (thn (h pos pins s σ H _ I hq) fun us s1 ⟨xs,H1,I1,r,z,q⟩=>⟨by rw[<-r.length];exact z,?_⟩)
 have hf:H1 s1.heap.objs.size=none:=I1.hok.fresh (zC _);refine⟨.ref s1.heap.objs.size,upd H1 s1.heap.objs.size (.lst xs),I1.laid (t':=s1.toks) (fun b u e=>zI _ e) (zC _) ?_,rfl,q _ hf⟩;exact⟨z,us,0,r,qK _ rfl⟩
end
abbrev Sp:=List V->Hp->VK->XK->Prop
abbrev CXT:=List Env->Hp->Shared->XK->Value->Shared->Prop
structure Env0 (P:Program) (w:World) (K:PySem.W.Frag) (mg:Str->Option Value) (base:Heap) (A:Around) (outer:List Env) (s:Shared) (H:Hp):Prop where
 frames:A.frames=some outer
 mod:Mod K mg base
 bs:∀b o,base.get? b=some o->s.heap.get? b=some o/\H b=none
 bsz:base.objs.size<=s.heap.objs.size
 funs:s.heap.FunFrames base outer
 frf:∀b∈frs outer,H b=none
 hok:HOk K P w H s.heap
 bare:AllBare s.gens
def CE (outer:List Env) (K:PySem.W.Frag) (P:Program) (w:World) (H:Hp) (s:Shared) (Q:VK) (u:Value) (s':Shared):Prop:=
 ∃v H',s'.os=s.os/\AllBare s'.gens/\Un (frs outer) [] H H' s.heap s'.heap/\HOk K P w H' s'.heap/\RelV v u/\Q v H'
def CR (CX:CXT) (outer:List Env) (K:PySem.W.Frag) (P:Program) (w:World) (H:Hp) (s:Shared) (Q:VK) (E:XK) (r:Result) (s':Shared):Prop:=
 match r with
 | .ok (.ret u)=>CE outer K P w H s Q u s'
 | .ok _=>False
 | .error e=>CX outer H s E e s'
structure FnOk (P:Program) (w:World) (K:PySem.W.Frag) (mg:Str->Option Value) (base:Heap) (CX:CXT) (k:Nat) (f:Addr) (fd:FuncData) (ps:List Str) (sp:Sp):Prop where
 len:∀vs H Q E,sp vs H Q E->vs.length=ps.length
 run:∀(A:Around) (outer:List Env) (s:Shared) (H:Hp) (args:Args) (us:List Value) (vs:List V) (Q:VK) (E:XK),Room k A->Env0 P w K mg base A outer s H->BindsTo s fd args (ps.zip us)->Vals vs us->sp vs H Q E->
  codeAny (model P w) A (.call (.ref f) args) (CR CX outer K P w H s Q E) s
theorem FnOk.mono {P:Program}{w:World}{K:PySem.W.Frag}{mg:Str->Option Value}{base:Heap}{CX:CXT}{j k:Nat}{f:Addr}{fd:FuncData}{ps:List Str}{sp:Sp}(F:FnOk P w K mg base CX j f fd ps sp)(h:j<=k):
  FnOk P w K mg base CX k f fd ps sp:=⟨F.len,fun A outer s H args us vs Q E hr=>F.run A outer s H args us vs Q E (hr.mono h)⟩
section
variable {X:Cx}{pins:List (Addr×Obj)}{σ:St}{H:Hp}{s s':Shared}
theorem Inv.env0 (I:Inv X pins σ H s):Env0 X.prog X.w X.K X.mg X.base X.A X.stack s H:=
 ⟨I.ok.frames,I.ok.mod,I.bs,zJ I.ok.bsz I.sz,I.stack,I.stkFree,I.hok,I.bare⟩
theorem Inv.after {Q:VK}{u:Value}(I:Inv X pins σ H s)(h:CE X.stack X.K X.prog X.w H s Q u s'):EP X pins σ Q u s':=by
 obtain⟨v,H',os,bare,un,hok,r,q⟩:=h;obtain⟨hh,g,d,t,os'⟩:=s';obtain rfl:os'=s.os:=os;exact⟨v,H',I.call (h':=hh) (g':=g) (d':=d) (t':=t) (ch:=[]) un hok bare (fun b z=>absurd z (by simp)),r,q⟩
end
def tCall (sp:Sp) (dvs:List V) (E:XK) (t:TA):TE:=fun σ H Q=>t σ H fun vs H1=>sp (vs++dvs) H1 Q E
def Binds (K:PySem.W.Frag) (fd:FuncData) (ps:List Str) (ds:List Value):Prop:=
 ∀(s:Shared) (us:List Value),K.In s.heap->(us++ds).length=ps.length->BindsTo s fd ⟨us,[]⟩ (ps.zip (us++ds))
theorem Binds.all {K:PySem.W.Frag}{fd:FuncData}{ps:List Str}(h:∀us:List Value,us.length=ps.length->bindArgs fd ⟨us,[]⟩=pure (ps.zip us)):Binds K fd ps []:=fun s us _ hl=>by
 rw[xP] at hl ⊢;exact .of_eq (h us hl)
def Passes (CX:CXT) (X:Cx) (E:XK):Prop:=∀(pins:List (Addr×Obj)) (σ:St) (H:Hp) (s:Shared) (e:Value) (s':Shared),Inv X pins σ H s->CX X.stack H s E e s'->X.xe e s'
section
variable {X:Cx}{CX:CXT}{k:Nat}{f:Addr}{fd:FuncData}{ps:List Str}{sp:Sp}{dvs:List V}{ds:List Value}{E:XK}{x:Str}{p pos:Pos}{e:Expr}{es:List Expr}{t:TA}
theorem a4l {pins:List (Addr×Obj)}{σ:St}{H:Hp}{s:Shared}{Q:VK}{us:List Value}{vs:List V}(F:FnOk X.prog X.w X.K X.mg X.base CX k f fd ps sp)(hr:Room k X.A)(hb:Binds X.K fd ps ds)(hd:Vals dvs ds)(hx:Passes CX X E)
  (I:Inv X pins σ H s) (r:Vals vs us) (h:sp (vs++dvs) H Q E):wpAny (model X.prog X.w) X.A (call (.ref f) us) (EP X pins σ Q) X.xe s:=by
 have r2:Vals (vs++dvs) (us++ds):=r.append hd;have hl:(us++ds).length=ps.length:=by rw[<-r2.length];exact F.len _ _ _ _ h
 refine wpAny_call (codeAny_mono (F.run X.A X.stack s H ⟨us,[]⟩ (us++ds) (vs++dvs) Q E hr I.env0 (hb s us I.kIn hl) r2 h) fun r s' hq=>?_);cases r with
 | error e=>exact hx pins σ H s e s' I hq
 | ok fl=>
  cases fl with
  | ret u=>exact I.after hq
  | next=>exact False.elim hq
  | brk=>exact False.elim hq
  | cont=>exact False.elim hq
theorem a1Y (F:FnOk X.prog X.w X.K X.mg X.base CX k f fd ps sp)(hr:Room k X.A)(hg:Gl X x)(hm:X.mg x=some (.ref f))(hk:PySem.W.keepIn X.K (.ref f)=true)(hb:Binds X.K fd ps ds)(hd:Vals dvs ds)(hx:Passes CX X E)
  (ha:PA X (e::es) t) (hdb:(x==("__debug__":Str))=false:=by decide) (he:starEach (e::es) X.env=(false,eval e X.env)::starEach es X.env:=by rfl) (hpl:(backTo pos (starEach es X.env)).any (·.1)=false:=by rfl):
  PE X (.Call (.Name x p) (e::es) [] pos) (tCall sp dvs E t):=by
 intro pins s σ H Q I h;refine wpAny_Call_Name_kw (Z8 I hg hm ?_ hdb);refine PySem.W.callWith_K (h₀:=X.base) I.ok.mod.kin hk (thn (ha pos pins s σ H _ I h) fun us s1 h0=>ex5 h0 fun vs H1 I1 r q=>⟨I1.kIn,?_⟩) he hpl;exact a4l F hr hb hd hx I1 r q
theorem a4w (F:FnOk X.prog X.w X.K X.mg X.base CX k f fd ps sp)(hr:Room k X.A)(hg:Gl X x)(hm:X.mg x=some (.ref f))(hk:PySem.W.keepIn X.K (.ref f)=true)(hb:Binds X.K fd ps ds)(hd:Vals dvs ds)(hx:Passes CX X E)
  (hdb:(x==("__debug__":Str))=false:=by decide):PE X (.Call (.Name x p) [] [] pos) (tCall sp dvs E tNil):=by
 intro pins s σ H Q I h;refine wpAny_Call_Name_kw (Z8 I hg hm ?_ hdb);exact PySem.W.callWith_K0 I.kIn hk (a4l (us:=[]) F hr hb hd hx I .nil h)
end
structure FnScope (N P:List Str) (sc:Scope):Prop where
 kind:sc.kind= .function
 co:sc.isCoroutine=false
 gen:sc.isGenerator=false
 nd:N.Nodup
 pre:N.take P.length=P
 par:∀x∈P,sc.names.lookup x=some .local\/sc.names.lookup x=some .cell
 nofree:∀y∈sc.names,y.2≠.free
theorem W6 {kindOf:Str->Option NameKind}{x:Str}:∀{binds:List (Str×Value)} {m:Str->Option Value},(∀v,(x,v)∉binds)->bindL kindOf binds m x=m x
 | [],_,_=>rfl
 | (n,v)::r,m,h=>by
  unfold bindL;rw[W6 fun w hw=>h w (zN _ hw)]
  split
  ·have:x≠n:=by rintro rfl;exact h v zR
   simp[this]
  ·rfl
theorem V6 {kindOf:Str->Option NameKind}{x:Str}:∀{binds:List (Str×Value)} {m:Str->Option Value},(∀v,(x,v)∉binds)->bindC kindOf binds m x=m x
 | [],_,_=>rfl
 | (n,v)::r,m,h=>by
  unfold bindC;rw[V6 fun w hw=>h w (zN _ hw)]
  split
  ·rfl
  ·have:x≠n:=by rintro rfl;exact h v zR
   simp[this]
theorem V0 {kindOf:Str->Option NameKind}{x:Str}{v:Value}:∀{P:List Str} {vs:List Value} {i:Nat} {m:Str->Option Value},P.Nodup->P[i]? =some x->vs[i]? =some v->kindOf x=some .local->
  bindL kindOf (P.zip vs) m x=some v
 | [],_,_,_,_,h,_,_=>by simp at h
 | _::_,[],_,_,_,_,h,_=>by simp at h
 | p::P,w::vs,0,m,nd,h1,h2,hk=>by
  simp at h1 h2;subst h1;subst h2;show bindL kindOf ((p,w)::P.zip vs) m p=_;unfold bindL;rw[W6 fun v hv=>(nodup_cons.mp nd).1 (of_mem_zip hv).1,if_pos hk];simp
 | p::P,w::vs,i+1,m,nd,h1,h2,hk=>by
  show bindL kindOf ((p,w)::P.zip vs) m x=_;unfold bindL;exact V0 (i:=i) (nodup_cons.mp nd).2 (by simpa using h1) (by simpa using h2) hk
theorem X5 {kindOf:Str->Option NameKind}{x:Str}{v:Value}:∀{P:List Str} {vs:List Value} {i:Nat} {m:Str->Option Value},P.Nodup->P[i]? =some x->vs[i]? =some v->kindOf x≠some .local->
  bindC kindOf (P.zip vs) m x=some v
 | [],_,_,_,_,h,_,_=>by simp at h
 | _::_,[],_,_,_,_,h,_=>by simp at h
 | p::P,w::vs,0,m,nd,h1,h2,hk=>by
  simp at h1 h2;subst h1;subst h2;show bindC kindOf ((p,w)::P.zip vs) m p=_;unfold bindC;rw[V6 fun v hv=>(nodup_cons.mp nd).1 (of_mem_zip hv).1,if_neg hk];simp
 | p::P,w::vs,i+1,m,nd,h1,h2,hk=>by
  show bindC kindOf ((p,w)::P.zip vs) m x=_;unfold bindC;exact X5 (i:=i) (nodup_cons.mp nd).2 (by simpa using h1) (by simpa using h2) hk
def start (N:List Str) (vs:List V):St:=vs.map some++List.replicate (N.length-vs.length) none
def cxOf (CX:CXT) (P:Program) (w:World) (K:PySem.W.Frag) (mg:Str->Option Value) (base:Heap) (N:List Str) (qual:Str) (scope:Scope) (f:Addr) (cd:Value) (A:Around) (outer:List Env) (s:Shared) (H:Hp) (E:XK):Cx where
 prog:=P
 w:=w
 K:=K
 mg:=mg
 base:=base
 A:=A.deeper (envOfC qual scope s.heap.objs.size f cd)
 N:=N
 s₀:=s
 H₀:=H
 env:=envOfC qual scope s.heap.objs.size f cd
 outer:=outer
 stack:=envOfC qual scope s.heap.objs.size f cd::outer
 ex:=[]
 calm:=true
 fn:=fun _=>true
 pn:=[]
 xe:=fun e s'=>wpAny (model P w) (A.deeper (envOfC qual scope s.heap.objs.size f cd)) (leaving (envOfC qual scope s.heap.objs.size f cd) e) (fun _ s''=>CX outer H s E e s'') (fun e' s''=>CX outer H s E e' s'') s'
theorem a0Z {sc:Scope}{n:Nat}{x:Str}(h:sc.names.lookup x=some .cell):∃c,(cellsFrom n sc.names []).lookup x=some c:=by
 have q:=PySem.W.cellsFrom_some sc.names n [] (.inl h);exact isSome_iff_exists.mp q
theorem a3D {CX:CXT}{P:Program}{w:World}{K:PySem.W.Frag}{mg:Str->Option Value}{base:Heap}{N ps:List Str}{qual:Str}{scope:Scope}{f:Addr}{cd:Value}{A:Around}{outer:List Env}{s s1:Shared}{H:Hp}{E:XK}{us:List Value}{vs:List V}
  (S:FnScope N ps scope) (hd:A.handled=none) (e0:Env0 P w K mg base A outer s H) (hl:vs.length=ps.length) (r:Vals vs us)
  (x:InCallC s s.heap.objs.size (bindL (envOfC qual scope s.heap.objs.size f cd).kindOf (ps.zip us) fun _=>none) (cellsFrom (s.heap.objs.size+1) scope.names []) (bindC (envOfC qual scope s.heap.objs.size f cd).kindOf (ps.zip us) fun _=>none) s1):
  Inv (cxOf CX P w K mg base N qual scope f cd A outer s H E) [] (start N vs) H s1:=by
 have hpl:ps.length<=N.length:=by have:=congrArg List.length S.pre;rw[qF] at this;walk_at "o"
 obtain⟨h1,tk,rfl,hk⟩:=x.done;have noA:∀b:Addr,b∉(cxOf CX P w K mg base N qual scope f cd A outer s H E).ex:=fun b z=>absurd (show b∈([]:List Addr) from z) (by simp)
 refine⟨⟨e0.mod,S.kind,rfl,rfl,zC _,fun y z c h1 h2=>?_,fun y hy=>?_,fun y c _ h=>?_,fun _=>hd,Around.frames_deeper e0.frames,.inr ⟨rfl,rfl⟩,fun b z=>absurd z (noA b),e0.bs,e0.bsz,fun b _ _=>noA b,fun b z=>absurd z (noA b),e0.funs,e0.frf⟩,
  rfl,e0.bare,Un.kept hk,⟨_,x.toInCall.ns,fun i y v h1 h2 h3=>?_⟩,fun y c h=>⟨_,x.cell y c h⟩,e0.hok.fresh (zC _),fun y c h=>?_,fun p hp=>absurd (show p∈([]:List (Addr×Obj)) from hp) (by simp),e0.hok.kept hk,?_⟩
 ·exact name_of_addr x.apart (xK h1) (xK h2)
 ·have hy:scope.names.lookup y=some .cell\/scope.names.lookup y=some .free:=hy;rcases hy with hy|hy
  ·exact a0Z hy
  ·exact absurd rfl (S.nofree _ (xK hy))
 ·exact Nat.le_of_lt (x.above y c (xK h))
 ·have hi:i<vs.length:=by
   unfold start at h2
   by_cases hi:i<vs.length
   ·exact hi
   ·rw[zZ (by simpa using hi)] at h2
    rw[List.getElem?_replicate] at h2;split at h2<;>cases h2
  have ha:vs[i]? =some v:=by
   unfold start at h2;rw[zU (by simpa using hi),qE] at h2
   cases e:vs[i]? with
   | none=>rw[e] at h2;cases h2
   | some a=>rw[e] at h2;cases h2;rfl
  obtain⟨u,hu,rv⟩:=r.get ha;have hp:ps[i]? =some y:=by
   rw[<-S.pre,List.getElem?_take_of_lt (by walk_at "o")];exact h1
  have ndP:ps.Nodup:=by rw[<-S.pre];exact S.nd.sublist (take_sublist _ _)
  refine⟨u,rv,?_⟩;rcases S.par y (xB hp) with k|k
  ·exact .inl ⟨k,V0 ndP hp hu k⟩
  ·obtain⟨c,e⟩:=a0Z (n:=s.heap.objs.size+1) k;refine .inr ⟨.inl k,c,e,?_⟩;have q:=x.cell y c e;rw[X5 ndP hp hu (by show scope.names.lookup y≠_;rw[k];decide)] at q
   exact q
 ·exact e0.hok.fresh (Nat.le_of_lt (x.above y c (xK h)))
 ·unfold start;show _=N.length;rw[zO,zH,List.length_replicate];walk_at "o"
theorem fn_of {CX:CXT}{P:Program}{w:World}{K:PySem.W.Frag}{mg:Str->Option Value}{base:Heap}{k:Nat}{f:Addr}{name qual:Str}{params:Arguments}{body:List Stmt}{scope:Scope}{dV kV doc pm cdv ct oc:Value}{an od:Option Addr}
  {osl:Array (Option Value)} {N ps:List Str} {sp:Sp} (lk:K.lookup f=some ⟨oc,od,.func (PySem.W.fnOf name qual params body scope dV kV doc pm an cdv ct),osl⟩) (hcd:PySem.W.codeIn K cdv qual=true) (S:FnScope N ps scope)
  (len:∀vs H Q E,sp vs H Q E->vs.length=ps.length)
  (hbody:∀(A:Around) (outer:List Env) (s:Shared) (H:Hp) (vs:List V) (Q:VK) (E:XK),Room k (A.deeper (envOfC qual scope s.heap.objs.size f cdv))->sp vs H Q E->
   ∃t,PSs (cxOf CX P w K mg base N qual scope f cdv A outer s H E) body t/\t {nx:=fun _ H'=>Q .non H',rt:=Q} (start N vs) H):
  FnOk P w K mg base CX (k+1) f (PySem.W.fnOf name qual params body scope dV kV doc pm an cdv ct) ps sp:=by
 refine⟨len,fun A outer s H args us vs Q E hr e0 hb r hsp=>?_⟩;have hl:=len _ _ _ _ hsp;have KX:K.In s.heap:=e0.mod.kin.keeps fun b o e=>(e0.bs b o e).1;have lim:s.heap.NoLimit:=e0.mod.nolimit.keeps fun b o e=>(e0.bs b o e).1;have hkind:∀y∈ps.zip us,scope.names.lookup y.1=some .local\/(scope.names.lookup y.1=some .cell/\((cellsFrom (s.heap.objs.size+1) scope.names []).lookup y.1).isSome=true):=fun⟨n,v⟩ hy=>by
  rcases S.par n (of_mem_zip hy).1 with q|q
  ·exact .inl q
  ·exact .inr ⟨q,PySem.W.cellsFrom_some _ _ _ (.inl q)⟩
 refine codeAny_call_function hr.depth (KX _ _ lk) rfl S.co S.gen rfl (PySem.W.codeRec_of KX hcd) (hb _ _ _ _ ?_);refine wpAny_newFunctionEnv_cells S.kind hkind fun env he s1 x=>?_;subst he;refine⟨lim.keeps x.toInCall.keep,codeAny_func ?_⟩;obtain⟨t,ht,hq⟩:=hbody A outer s H vs Q E (hr.deeper _) hsp;have I:Inv (cxOf CX P w K mg base N qual scope f cdv A outer s H E) [] (start N vs) H s1:=a3D S hr.hd e0 hl r x;refine qD (ht [] s1 (start N vs) H _ I hq) (fun fl s' hs=>?_) fun e s' hs=>hs;have fin:∀{σ':St} {H':Hp} {v:V} {u:Value},Inv (cxOf CX P w K mg base N qual scope f cdv A outer s H E) [] σ' H' s'->RelV v u->Q v H'->CE outer K P w H s Q u s':=
  fun{σ' H' v u} J rv q=>⟨v,H',J.os,J.bare,J.base,J.hok,rv,q⟩
 cases fl with
 | ret u=>
  obtain⟨v,σ',H',J,rv,q⟩:=hs;exact fin J rv q
 | next=>
  obtain⟨σ',H',J,q⟩:=hs;exact fin (v:=V.non) (u:=Value.none) J rfl q
 | brk=>
  obtain⟨_,_,_,q⟩:=hs;exact False.elim q
 | cont=>
  obtain⟨_,_,_,q⟩:=hs;exact False.elim q
section
variable {X:Cx}{x:Str}{p pos:Pos}{e:Expr}{es:List Expr}{t:TA}{id T:String}{r:List V->Hp->VK->Prop}
def tCB (r:List V->Hp->VK->Prop) (t:TA):TE:=fun σ H Q=>t σ H fun vs H1=>r vs H1 Q
theorem a1j (hc:CallR X (.builtin id) r)(hg:Gl X x)(hm:X.mg x=none)(hv:bootBuiltins x=some (.builtin id))(ha:PA X (e::es) t)(hn:x≠"__name__":=by decide)(hdb:(x==("__debug__":Str))=false:=by decide)
  (he:starEach (e::es) X.env=(false,eval e X.env)::starEach es X.env:=by rfl) (hpl:(backTo pos (starEach es X.env)).any (·.1)=false:=by rfl):PE X (.Call (.Name x p) (e::es) [] pos) (tCB r t):=by
 intro pins s σ H Q I h;refine wpAny_Call_Name_kw (a0n I hg hm hv ?_ hn hdb);exact PyProof.Rows.callWith_builtin1 (thn (ha pos pins s σ H _ I h) fun us s1 h0=>ex5 h0 fun vs H1 I1 r1 q1=>hc pins s1 σ H1 vs us Q I1 r1 q1) he hpl
theorem a3o (hc:CallR X (.type T) r)(hg:Gl X x)(hm:X.mg x=none)(hv:bootBuiltins x=some (.type T))(ha:PA X (e::es) t)(hn:x≠"__name__":=by decide)(hdb:(x==("__debug__":Str))=false:=by decide)
  (he:starEach (e::es) X.env=(false,eval e X.env)::starEach es X.env:=by rfl) (hpl:(backTo pos (starEach es X.env)).any (·.1)=false:=by rfl):PE X (.Call (.Name x p) (e::es) [] pos) (tCB r t):=by
 intro pins s σ H Q I h;refine wpAny_Call_Name_kw (a0n I hg hm hv ?_ hn hdb);exact PyProof.Rows.callWith_type1 (thn (ha pos pins s σ H _ I h) fun us s1 h0=>ex5 h0 fun vs H1 I1 r1 q1=>hc pins s1 σ H1 vs us Q I1 r1 q1) he hpl
end
end L2
namespace HT
open PySem PyProof.Rows
def lexLt:List Int->List Int->Bool
 | [],[]=>false
 | [],_::_=>true
 | _::_,[]=>false
 | x::xs,y::ys=>if x=y then lexLt xs ys else decide (x<y)
theorem lexLt_cons (x y:Int)(xs ys:List Int):lexLt (x::xs) (y::ys)=if x=y then lexLt xs ys else decide (x<y):=rfl
theorem U3:lexLt [] []=false:=rfl
theorem S9 (y:Int)(ys:List Int):lexLt [] (y::ys)=true:=rfl
theorem T4 (x:Int)(xs:List Int):lexLt (x::xs) []=false:=rfl
theorem a4z (A:Around)(s:Shared)(a:Int)(t:Tok)(c:Int)(u:Tok):∃e,SeqAt.EqAt A s (.int a t) (.int c u) e/\(e=true↔a=c):=
 ⟨(a==c),SeqAt.EqAt.int_int a t c u,by simp⟩
theorem a4u (A:Around)(s:Shared)(a:Int)(t:Tok)(c:Int)(u:Tok)(prog:Program)(w:World)(E:Value->Shared->Prop)(Q:Value->Shared->Prop)(h:Q (.bool (decide (a<c))) s):
  wpAny (model prog w) A (richCompare .Lt (.int a t) (.int c u)) Q E s:=
 (PyProof.Rows.lt_int h:wpAny (model prog w) A (compareOp .Lt (.int a t) (.int c u)) Q E s)
section
open PySem.SeqAt
open PySem.AutoSeq1 (wpAny_loadPart')
open PySem.MeetsSeq PySem.MeetsSeq2 PySem.MeetsSeq3
theorem U1 (l b:Addr)(items items2:Array Value)(n n2:Nat)(dd dd2:Option Addr)(sl sl2:Array (Option Value))(ns ms:List Int)(hi:IntsAre items.toList ns)(hj:IntsAre items2.toList ms):
  Meets (Builtin.«tuple.__lt__» ⟨[.ref l,.ref b],[]⟩)
   (fun _ R s=>s.heap.get? l=some {cls:=.type "tuple",dict:=dd,data:=.seq items n,slots:=sl}/\s.heap.get? b=some {cls:=.type "tuple",dict:=dd2,data:=.seq items2 n2,slots:=sl2}/\
    R (.ok (.ret (.bool (lexLt ns ms)))) s):=
 .of_wp fun prog w A R s h=>by
  obtain⟨hp,g,d,tk,os⟩:=s;obtain⟨hl,hb,h⟩:=h;have f2:=AutoSeq1.sub_tuple_tuple;have z1:items.size=ns.length:=by rw[<-hi.length];simp
  have z2:items2.size=ms.length:=by rw[<-hj.length];simp
  wp_walk using wpAny_loadPart' hl,wpAny_loadPart' hb,wpAny_forIn_list _ (fun rest b s'=>b.1=none/\s'=⟨hp,g,d,tk,os⟩/\∃(vs ws:List Value) (ns' ms':List Int),rest=vs.zip ws/\
   IntsAre vs ns'/\IntsAre ws ms'/\ns'.length+items2.size=ms'.length+items.size/\R (.ok (.ret (.bool (lexLt ns' ms')))) ⟨hp,g,d,tk,os⟩) _
  case turn=>
   rintro⟨y,x⟩ rest b s' ⟨hb',rfl,vs,ws,ns',ms',hz,hvi,hwi,hlen,hR⟩;cases hvi with
   | nil=>rw[List.zip_nil_left] at hz;cases hz
   | cons a t hvi'=>
    cases hwi with
    | nil=>rw[List.zip_nil_right] at hz;cases hz
    | cons c u hwi'=>
     rw[jO] at hz;injection hz with hyx hrest
     injection hyx with hy hx
     subst hy hx;rw[lexLt_cons] at hR;simp only[qC] at hlen;obtain⟨e,he,hiff⟩:=a4z A.in1 ⟨hp,g,d,tk,os⟩ a t c u;refine zA (he prog w _ _ ?_);cases e with
     | true=>
      rw[if_pos (hiff.mp rfl)] at hR
      wp_walk
      exact⟨rfl,rfl,_,_,_,_,hrest,hvi',hwi',by walk_at "o",hR⟩
     | false=>
      rw[if_neg (fun q=>absurd (hiff.mpr q) zS)] at hR;have hri:=a4u A.in1 ⟨hp,g,d,tk,os⟩ a t c u prog w
      wp_walk using hri
      exact⟨_,rfl,by simpa using hR⟩
  case fin=>
   rintro⟨b1,b2⟩ s' ⟨hb',rfl,vs,ws,ns',ms',hz,hvi,hwi,hlen,hR⟩;simp only at hb';subst hb';have hv:lexLt ns' ms'=decide (items.size<items2.size):=by
    cases hvi with
    | nil=>
     cases hwi with
     | nil=>
      simp only[length_nil] at hlen;rw[U3];exact(qB (by walk_at "o")).symm
     | cons c u hw=>
      simp only[length_nil,qC] at hlen;rw[S9];exact(qH (by walk_at "o")).symm
    | cons a t hv=>
     cases hwi with
     | nil=>
      simp only[length_nil,qC] at hlen;rw[T4];exact(qB (by walk_at "o")).symm
     | cons c u hw=>
      rw[jO] at hz;cases hz
   rw[hv] at hR
   wp_walk
   exact⟨_,rfl,by simpa [Builtin.Tuple.tupleCompareSizes] using hR⟩
  case h=>
   exact⟨rfl,rfl,items.toList,items2.toList,ns,ms,rfl,hi,hj,by walk_at "o",h⟩
end
section
variable {prog:Program}{w:World}{A:Around}{E:Value->Shared->Prop}{s:Shared}
theorem lt_tupInts {l b:Addr}{items items2:Array Value}{ns ms:List Int}{Q:Value->Shared->Prop}(hl:IsTup s.heap l items)(hb:IsTup s.heap b items2)(hi:IntsAre items.toList ns)(hj:IntsAre items2.toList ms)
  (hu:A.units<cLine) (h:Q (.bool (lexLt ns ms)) s):wpAny (model prog w) A (compareOp .Lt (.ref l) (.ref b)) Q E s:=by
 obtain⟨⟨cls,dd,data,sl⟩,ho,hc,n,hd⟩:=id hl;obtain⟨⟨cls2,dd2,data2,sl2⟩,ho2,hc2,n2,hd2⟩:=id hb;simp only at hc hd hc2 hd2;subst hc hd hc2 hd2;exact richCompare_meets_room (op:=.Lt) ⟨_,ho,rfl⟩ ⟨_,ho2,rfl⟩ PySem.F.slot_tuple_lt PySem.F.entry_tuple_lt (PySem.F.args_tuple_lt_2 _ _) (U1 l b items items2 n n2 dd dd2 sl sl2 ns ms hi hj)
  ⟨ho,ho2,show Value.bool (lexLt ns ms)≠Value.notImplemented/\Q (.bool (lexLt ns ms)) s from⟨(fun x=>nomatch x),h⟩⟩ hu
theorem cat_tup {t b:Addr}{vs ws:List Value}{Q:Value->Shared->Prop}(ht:IsTup s.heap t vs.toArray)(hb:IsTup s.heap b ws.toArray)(hv:vs≠[])
  (h1:ws=[]->Q (.ref t) s) (h2:ws≠[]->Q (.ref s.heap.objs.size) {s with heap:=s.heap.push {cls:=.type "tuple",data:=.seq (vs++ws).toArray}})
  (hsz:vs.length+ws.length<=sizeLine):wpAny (model prog w) A (binaryOp .Add (.ref t) (.ref b)) Q E s:=by
 obtain⟨⟨cls,dd,data,sl⟩,ho,hc,n,hd⟩:=id ht;obtain⟨⟨cls2,dd2,data2,sl2⟩,ho2,hc2,n2,hd2⟩:=id hb;simp only at hc hd hc2 hd2;subst hc hd hc2 hd2;have e:vs.toArray++ws.toArray=(vs++ws).toArray:=by simp
 by_cases hw:ws=[]
 ·exact concat_meets ⟨_,ho,rfl⟩ ⟨_,ho2,rfl⟩ noFill_tuple_add seq_tuple_add PySem.F.slot_tuple_add PySem.F.entry_tuple_add (PySem.F.args_tuple_add_2 _ _)
   (tuple_addW1 t b vs.toArray ws.toArray n n2 dd dd2 sl sl2 (by simpa using hv) (by simp[hw])) ⟨ho,ho2,h1 hw⟩
 ·refine concat_meets ⟨_,ho,rfl⟩ ⟨_,ho2,rfl⟩ noFill_tuple_add seq_tuple_add PySem.F.slot_tuple_add PySem.F.entry_tuple_add (PySem.F.args_tuple_add_2 _ _)
   (tuple_addW2 t b vs.toArray ws.toArray n n2 dd dd2 sl sl2 (by simpa using hv) (by simpa using hw) (by rw[zP,zP];exact hsz)) ⟨ho,ho2,?_⟩
  rw[e];exact h2 hw
def sIx (n d:Nat):Option Int->Nat
 | none=>d
 | some v=>if v<0 then(v+(n:Int)).toNat else min v.toNat n
theorem sIx_none (n d:Nat):sIx n d none=d:=rfl
theorem sIx_nat (n d k:Nat):sIx n d (some (k:Int))=min k n:=by
 show(if(k:Int)<0 then((k:Int)+(n:Int)).toNat else min (k:Int).toNat n)=min k n;rw[if_neg (by walk_at "o"),xU]
theorem a8i (n d:Nat)(hd:d<=n)(o:Option Int):sIx n d o<=n:=by
 cases o with
 | none=>exact hd
 | some v=>
  show(if v<0 then(v+(n:Int)).toNat else min v.toNat n)<=n
  by_cases hv:v<0
  ·rw[if_pos hv];walk_at "o"
  ·rw[if_neg hv];exact Nat.min_le_right _ _
theorem a2L (v:Int)(n d:Nat):(if v<0 then max (v+(n:Int)) 0 else min v (n:Int))=((sIx n d (some v):Nat):Int):=by
 show(if v<0 then max (v+(n:Int)) 0 else min v (n:Int))=(((if v<0 then(v+(n:Int)).toNat else min v.toNat n):Nat):Int)
 by_cases hv:v<0
 ·simp only[if_pos hv];walk_at "o"
 ·simp only[if_neg hv];walk_at "o"
theorem a1B (lo hi:Option Int)(n:Nat):Builtin.Slice.sliceAdjust lo hi 1 (n:Int)=(((sIx n 0 lo:Nat):Int),((sIx n n hi:Nat):Int)):=by
 have h1:¬((1:Int)<0):=by walk_at "o"
 unfold Builtin.Slice.sliceAdjust;simp only[h1,xA];refine Prod.ext ?_ ?_
 ·cases lo with
  | none=>rfl
  | some v=>exact a2L v n 0
 ·cases hi with
  | none=>rfl
  | some v=>exact a2L v n n
theorem a1N (i j:Nat):Builtin.Slice.slicePlaces (i:Int) (j:Int) 1=j-i:=by
 unfold Builtin.Slice.slicePlaces;have h1:(1:Int)>0:=by walk_at "o"
 simp only[h1,jD,Int.ediv_one]
 split<;>walk_at "o"
theorem S0 {v:Value}{o:Option Int}{Q:Option Int->Shared->Prop}(p:IsPart v o)(h:Q o s):wpAny (model prog w) A (Builtin.Slice.slicePartIndex v) Q E s:=by
 cases p with
 | none=>exact slicePart_none h
 | int i t=>exact slicePart_int h
theorem sliceApplied_gen {sl:Addr}{vl vu:Value}{lo hi:Option Int}{n:Nat}{Q:Int×Int×Nat->Shared->Prop}(hs:s.heap.IsSliceOf sl vl vu .none)(pl:IsPart vl lo)(pu:IsPart vu hi)
  (h:Q (((sIx n 0 lo:Nat):Int),1,sIx n n hi-sIx n 0 lo) s):wpAny (model prog w) A (Builtin.Slice.sliceApplied (.ref sl) (pure (n:Int))) Q E s:=by
 obtain⟨os,hos,hcs,hds⟩:=id hs;unfold Builtin.Slice.sliceApplied Builtin.Slice.sliceFields;refine zA (zA (wpAny_field hos hds (x:=vl) rfl (zA (wpAny_field hos hds (x:=vu) rfl (zA (wpAny_field hos hds (x:=.none) rfl (zD ?_)))))));refine zA (slicePart_none ?_);show wpAny _ _ (if((1:Int)==0)=true then _ else _) _ _ s;rw[if_neg (by decide)]
 refine zA (S0 pl (zA (S0 pu (zA (zD ?_)))));show wpAny _ _ (match Builtin.Slice.sliceAdjust lo hi 1 (n:Int) with|(lo,hi)=>pure (lo,(1:Int),Builtin.Slice.slicePlaces lo hi 1)) _ _ s
 rw[a1B lo hi n];show wpAny _ _ (pure (((sIx n 0 lo:Nat):Int),(1:Int),Builtin.Slice.slicePlaces ((sIx n 0 lo:Nat):Int) ((sIx n n hi:Nat):Int) 1)) _ _ s;rw[a1N];exact zD h
theorem a33 (xs:Array Value)(i k:Nat):((List.range k).filterMap fun(m:Nat)=>xs[((i:Int)+(m:Int)*1).toNat]?).toArray=((xs.toList.drop i).take k).toArray:=by
 have e:(fun(m:Nat)=>xs[((i:Int)+(m:Int)*1).toNat]?)=fun m=>xs[i+m]?:=by
  funext m
  have:((i:Int)+(m:Int)*1).toNat=i+m:=by walk_at "o"
  rw[this]
 rw[e]
 have:=pick_run xs i k
 rw[List.filterMap_map] at this;have e2:((fun x=>xs[x]?)∘fun x=>i+x)=fun m=>xs[i+m]?:=rfl;rw[e2] at this;rw[this]
theorem getItem_tuple_cut {t sl:Addr}{items:Array Value}{vl vu:Value}{lo hi:Option Int}{Q:Value->Shared->Prop}(ht:IsTup s.heap t items)(hs:s.heap.IsSliceOf sl vl vu .none)(pl:IsPart vl lo)(pu:IsPart vu hi)
  (hw:¬(sIx items.size 0 lo=0/\sIx items.size items.size hi=items.size))
  (h:Q (.ref s.heap.objs.size) {s with heap:=s.heap.push {cls:=.type "tuple",data:=.seq ((items.toList.drop (sIx items.size 0 lo)).take (sIx items.size items.size hi-sIx items.size 0 lo)).toArray}})
  (hsz:items.size<=sizeLine):wpAny (model prog w) A (getItem (.ref t) (.ref sl)) Q E s:=by
 have htake:sizeOk (.seq ((items.toList.drop (sIx items.size 0 lo)).take (sIx items.size items.size hi-sIx items.size 0 lo)).toArray):=by
  show((items.toList.drop (sIx items.size 0 lo)).take (sIx items.size items.size hi-sIx items.size 0 lo)).toArray.size<=sizeLine;rw[zP,qF,length_drop,zK];omega
 have hj:sIx items.size items.size hi<=items.size:=a8i _ _ (zC _) hi;obtain⟨os,hos,hcs,hds⟩:=id hs;have hTs:s.TypeIs (.ref sl) "slice":=⟨os,hos,hcs⟩;unfold getItem
 try with_reducible refine qO ?_
 first|refine zA (zD ?_)|skip
 refine zA (wpAny_sequenceKey ht.typeIs (by decide) ?_)
 refine zA (jI (name:=Str.ofString "__getitem__") ht.typeIs qQ
  (jF qQ ht.typeIs entry_tuple_getitem ?_ (args_tuple_getitem _ _)))
 show wpAny _ _ (Builtin.Tuple.tupleItemsOf (.ref t) >>=_) _ _ s;refine zA (tupleItemsOf_ ht ?_);refine zA (wpAny_typeOf hTs ?_);rw[if_pos (by decide)]
 refine zA (sliceApplied_gen hs pl pu ?_);have hno:¬((((sIx items.size 0 lo:Nat):Int)==0&&(1:Int)==1&&(sIx items.size items.size hi-sIx items.size 0 lo)==items.size)=true):=by
  intro q;rw[jQ,jQ] at q;have q1:((sIx items.size 0 lo:Nat):Int)=0:=eq_of_beq q.1.1;have q2:sIx items.size items.size hi-sIx items.size 0 lo=items.size:=eq_of_beq q.2;exact hw ⟨by omega,by omega⟩
 show wpAny _ _ (if(((sIx items.size 0 lo:Nat):Int)==0&&(1:Int)==1&&(sIx items.size items.size hi-sIx items.size 0 lo)==items.size)=true then _ else _) _ _ s;rw[if_neg hno,a33]
 first
  | exact zA (m:=Builtin.Tuple.tupleExact _) (jC (zD ⟨_,rfl,zD h⟩) htake)
  | exact zA (m:=Builtin.Tuple.tupleExact _) (jC (zA (zD (zD ⟨_,rfl,zD h⟩))) htake)
  | exact zA (zA (m:=Builtin.Tuple.tupleExact _) (jC (zD (zD ⟨_,rfl,zD h⟩)) htake))
  | exact zA (zA (m:=Builtin.Tuple.tupleExact _) (jC (zD ⟨_,rfl,zD h⟩) htake))
end
end HT
namespace L2
open PySem PySem.Spec PyProof.Rows
abbrev TO:=St->Hp->(Option Int->Hp->Prop)->Prop
def PO (X:Cx) (e:Option Expr) (t:TO):Prop:=
 ∀(pins:List (Addr×Obj)) (s:Shared) (σ:St) (H:Hp) (Q:Option Int->Hp->Prop),Inv X pins σ H s->t σ H Q->
  wpAny (model X.prog X.w) X.A (evalPart e X.env) (fun u s'=>∃o H',Inv X pins σ H' s'/\IsPart u o/\Q o H') X.xe s
def tNoPart:TO:=fun _ H Q=>Q none H
def tPart (t:TE):TO:=fun σ H Q=>t σ H fun x H1=>∃i,x= .int i/\Q (some i) H1
theorem B8 {ns:List Int}:∀{us:List Value},Vals (ns.map V.int) us->IntsAre us ns:=by
 induction ns with
 | nil=>intro us r;rw[map_nil] at r;cases r;exact .nil
 | cons n ns ih=>
  intro us r;rw[zQ] at r;cases r with
  | cons r1 r2=>
   obtain⟨t,e⟩:=r1;subst e;exact .cons n t (ih r2)
section
variable {X:Cx}{e:Expr}{te:TE}{lo hi:Option Expr}{tl th:TO}{pos p2:Pos}
theorem a6a:PO X none tNoPart:=by
 intro pins s σ H Q I h;rw[evalPart_none];exact zD ⟨none,H,I,.none,h⟩
theorem a5L (h:PE X e te):PO X (some e) (tPart te):=by
 intro pins s σ H Q I hw;rw[evalPart_some];refine thn (h pins s σ H _ I hw) fun u s1 h0=>ex5 h0 fun x H1 I1 r1 q1=>?_;obtain⟨i,rfl,q⟩:=q1;obtain⟨t,rfl⟩:=r1;exact⟨some i,H1,I1,.int i t,q⟩
def SlR (X:Cx) (r:V->Option Int->Option Int->Hp->VK->Prop):Prop:=
 ∀(pins:List (Addr×Obj)) (s:Shared) (σ:St) (H:Hp) (x:V) (v vl vu:Value) (lo hi:Option Int) (sl:Addr) (Q:VK),Inv X pins σ H s->RelV x v->s.heap.IsSliceOf sl vl vu .none->IsPart vl lo->IsPart vu hi->r x lo hi H Q->
  ∃T id,typeLookup (.type T) "__getitem__"=pure (some (.builtin id))/\s.TypeIs v T/\wpAny (model X.prog X.w) X.A (getItem v (.ref sl)) (EP X pins σ Q) X.xe s
theorem SlR.or {r r':V->Option Int->Option Int->Hp->VK->Prop}(h:SlR X r)(h':SlR X r'):SlR X (fun x lo hi H Q=>r x lo hi H Q\/r' x lo hi H Q):=by
 intro pins s σ H x v vl vu lo hi sl Q I rx hs pl pu q;rcases q with q|q
 ·exact h pins s σ H x v vl vu lo hi sl Q I rx hs pl pu q
 ·exact h' pins s σ H x v vl vu lo hi sl Q I rx hs pl pu q
def tSl (r:V->Option Int->Option Int->Hp->VK->Prop) (te:TE) (tl th:TO):TE:=fun σ H Q=>te σ H fun x H1=>tl σ H1 fun l H2=>th σ H2 fun u H3=>r x l u H3 Q
theorem a4i {r:V->Option Int->Option Int->Hp->VK->Prop}(hr:SlR X r)(he:PE X e te)(hl:PO X lo tl)(hu:PO X hi th):PE X (.Subscript e (.Slice lo hi none p2) pos) (tSl r te tl th):=by
 intro pins s σ H Q I h;refine Subscript_ (thn (he pins s σ H _ I h) fun v s1 h0=>ex5 h0 fun x H1 I1 r1 q1=>?_);refine wpAny_Slice (thn (hl pins s1 σ H1 _ I1 q1) fun vl s2 ⟨l,H2,I2,pl,q2⟩=>thn (hu pins s2 σ H2 _ I2 q2) fun vu s3 ⟨u,H3,I3,pu,q3⟩=>?_);rw[evalPart_none];refine zD ?_;have I4:Inv X pins σ H3 {s3 with heap:=s3.heap.push {cls:=.type "slice",data:=.fields #[vl,vu,.none]}}:=I3.kept (t':=s3.toks) fun b ob q=>zI _ q
 obtain⟨T,id,hT,ht,hg⟩:=hr pins {s3 with heap:=s3.heap.push {cls:=.type "slice",data:=.fields #[vl,vu,.none]}} σ H3 x v vl vu l u s3.heap.objs.size Q I4 r1 (Heap.IsSliceOf.new ..) pl pu q3
 show wpAny (model X.prog X.w) X.A (subscriptTail e (.Slice lo hi none p2) v (.ref s3.heap.objs.size)) (EP X pins σ Q) X.xe {s3 with heap:=s3.heap.push {cls:=.type "slice",data:=.fields #[vl,vu,.none]}}
 exact tail_any (ops:=[.ref s3.heap.objs.size,v]) ht hT hg (by with_unfolding_all rfl)
def cutV (xs:List V) (lo hi:Option Int):List V:=(xs.drop (HT.sIx xs.length 0 lo)).take (HT.sIx xs.length xs.length hi-HT.sIx xs.length 0 lo)
theorem O7 (xs:List V)(lo hi:Option Int):(cutV xs lo hi).length<=xs.length:=by
 unfold cutV;rw[qF,length_drop];walk_at "o"
def rSlT (K:PySem.W.Frag):V->Option Int->Option Int->Hp->VK->Prop:=fun x lo hi H Q=>∃a xs,x= .ref a/\SqT K H a xs/\
 ¬(HT.sIx xs.length 0 lo=0/\HT.sIx xs.length xs.length hi=xs.length)/\∀p,H p=none->Q (.ref p) (upd H p (.tup (cutV xs lo hi)))
theorem a8b:SlR X (rSlT X.K):=by
 intro pins s σ H x v vl vu lo hi sl Q I rx hs pl pu h;obtain⟨a,xs,rfl,hx,hw,q⟩:=h;cases rx;obtain⟨its,r,ht,hz⟩:=I.tuple hx;have hlen:its.toArray.size=xs.length:=by rw[zP];exact r.length.symm
 refine⟨"tuple",_,PyProof.Rows.slot_tuple_getitem.lookup,ht.typeIs,?_⟩;refine HT.getItem_tuple_cut ht hs pl pu (by rw[hlen];exact hw) ?_ (by rw[hlen];exact hz)
 rw[hlen];refine⟨.ref s.heap.objs.size,_,I.laid (t':=s.toks) (o:=.tup (cutV xs lo hi)) (fun b ob q=>zI _ q) (zC _) ?_,rfl,q _ (I.hok.fresh (zC _))⟩;exact⟨zJ (O7 xs lo hi) hz,_,(r.drop (HT.sIx xs.length 0 lo)).take (HT.sIx xs.length xs.length hi-HT.sIx xs.length 0 lo),TupN.new _ _⟩
def rLtT (K:PySem.W.Frag):R2:=fun x y H Q=>∃a b ns ms,x= .ref a/\y= .ref b/\SqT K H a (ns.map V.int)/\SqT K H b (ms.map V.int)/\Q (.bl (HT.lexLt ns ms)) H
theorem a77 (hu:X.A.units<cLine):OpR X (compareOp .Lt) (rLtT X.K):=by
 intro pins s σ H x y v u Q I rx ry h;obtain⟨a,b,ns,ms,rfl,rfl,ha,hb,q⟩:=h;cases rx;cases ry;obtain⟨its,r1,p1,_⟩:=I.tuple ha;obtain⟨its2,r2,p2,_⟩:=I.tuple hb;have i1:IntsAre its.toArray.toList ns:=B8 r1;have i2:IntsAre its2.toArray.toList ms:=B8 r2;exact HT.lt_tupInts p1 p2 i1 i2 hu ⟨.bl (HT.lexLt ns ms),H,I,rfl,q⟩
def rCatT (K:PySem.W.Frag):R2:=fun x y H Q=>∃a b xs ys,x= .ref a/\y= .ref b/\SqT K H a xs/\SqT K H b ys/\xs≠[]/\xs.length+ys.length<=sizeLine/\
 (ys=[]->Q (.ref a) H)/\(ys≠[]->∀p,H p=none->Q (.ref p) (upd H p (.tup (xs++ys))))
theorem Vals.nil_iff {xs:List V}{us:List Value}(r:Vals xs us):us=[]↔xs=[]:=by
 cases r with
 | nil=>simp
 | cons _ _=>simp
theorem a6s:OpR X (binaryOp .Add) (rCatT X.K):=by
 intro pins s σ H x y v u Q I rx ry h;obtain⟨a,b,xs,ys,rfl,rfl,ha,hb,hx,hz,q1,q2⟩:=h;cases rx;cases ry;obtain⟨its,r1,p1,_⟩:=I.tuple ha;obtain⟨its2,r2,p2,_⟩:=I.tuple hb;refine HT.cat_tup p1 p2 (fun z=>hx (r1.nil_iff.mp z)) (fun z=>⟨.ref a,H,I,rfl,q1 (r2.nil_iff.mp z)⟩) (fun z=>?_) (by rw[<-r1.length,<-r2.length];exact hz)
 refine⟨.ref s.heap.objs.size,_,I.laid (t':=s.toks) (o:=.tup (xs++ys)) (fun b ob q=>zI _ q) (zC _) ?_,rfl,q2 (fun w=>z (r2.nil_iff.mpr w)) _ (I.hok.fresh (zC _))⟩;exact⟨by rw[zO];exact hz,_,r1.append r2,TupN.new _ _⟩
end
def ixN (n:Nat) (i:Int):Option Nat:=if 0<=i then(if i<n then some i.toNat else none) else if -(n:Int)<=i then some (i+n).toNat else none
def atI {α:Type} (xs:List α) (i:Int):Option α:=(ixN xs.length i).bind fun j=>xs[j]?
theorem a2r {n:Nat}{i:Int}{j:Nat}(h:ixN n i=some j):seqIndex? i n=some j/\j<n/\-(n:Int)<=i/\i<n:=by
 unfold ixN at h
 by_cases h0:0<=i
 ·rw[if_pos h0] at h
  by_cases h1:i<n
  ·rw[if_pos h1] at h;have e:i.toNat=j:=qS h;exact⟨by rw[seqIndex_of h0 h1,e],by walk_at "o",by walk_at "o",h1⟩
  ·rw[if_neg h1] at h;cases h
 ·rw[if_neg h0] at h
  by_cases h1:-(n:Int)<=i
  ·rw[if_pos h1] at h;have e:(i+n).toNat=j:=qS h;exact⟨by rw[seqIndex_neg (by walk_at "o") h1,e],by walk_at "o",h1,by walk_at "o"⟩
  ·rw[if_neg h1] at h;cases h
theorem Y0 {α:Type}{xs:List α}{i:Int}{v:α}(h:atI xs i=some v):∃j,seqIndex? i xs.length=some j/\xs[j]? =some v/\j<xs.length/\-(xs.length:Int)<=i/\i<xs.length:=by
 unfold atI at h;cases e:ixN xs.length i with
 | none=>rw[e] at h;cases h
 | some j=>
  rw[e] at h;obtain⟨h1,h2,h3,h4⟩:=a2r e;exact⟨j,h1,h,h2,h3,h4⟩
theorem m8 {α:Type}{xs:List α}{j:Nat}{v:α}(h:xs[j]? =some v):atI xs (j:Int)=some v:=by
 have hj:j<xs.length:=(zE.mp h).1;have e:ixN xs.length (j:Int)=some j:=by
  unfold ixN;rw[if_pos (by walk_at "o"),if_pos (by walk_at "o")];simp
 unfold atI;rw[e];exact h
def PlainIx (b:Expr):Prop:=∀o i,subscripted b false o i=operate [o,i] (getItem o i)
def IxR (X:Cx) (r:R2):Prop:=
 ∀(value slice:Expr) (pins:List (Addr×Obj)) (s:Shared) (σ:St) (H:Hp) (x y:V) (v u:Value) (Q:VK),Inv X pins σ H s->RelV x v->RelV y u->r x y H Q->
  subscripted slice false v u=operate [v,u] (getItem v u)->wpAny (model X.prog X.w) X.A (subscriptTail value slice v u) (EP X pins σ Q) X.xe s
def MtR (X:Cx) (id:String) (r:V->List V->Hp->VK->Prop):Prop:=
 ∀(pins:List (Addr×Obj)) (s:Shared) (σ:St) (H:Hp) (x:V) (xs:List V) (v:Value) (us:List Value) (Q:VK),Inv X pins σ H s->RelV x v->Vals xs us->r x xs H Q->
  wpAny (model X.prog X.w) X.A (call (.builtin id) (v::us)) (EP X pins σ Q) X.xe s
section
variable {X:Cx}{a b:Expr}{ta tb:TE}{pos:Pos}
theorem IxR.or {r r':R2}(h:IxR X r)(h':IxR X r'):IxR X (fun x y H Q=>r x y H Q\/r' x y H Q):=by
 intro value slice pins s σ H x y v u Q I rx ry q hs;rcases q with q|q
 ·exact h value slice pins s σ H x y v u Q I rx ry q hs
 ·exact h' value slice pins s σ H x y v u Q I rx ry q hs
theorem pe_ix {r:R2}(hr:IxR X r)(ha:PE X a ta)(hb:PE X b tb)(hs:PlainIx b):PE X (.Subscript a b pos) (tOp r ta tb):=by
 intro pins s σ H Q I h;exact Subscript_ (binT ha hb I h fun v u s2 x y H2 I2 rx ry q=>hr a b pins s2 σ H2 x y v u Q I2 rx ry q (hs _ _))
def rIxL (K:PySem.W.Frag):R2:=fun x y H Q=>∃p xs i v,x= .ref p/\y= .int i/\SqL K H p xs/\atI xs i=some v/\Q v H
def rIxT (K:PySem.W.Frag):R2:=fun x y H Q=>∃p xs i v,x= .ref p/\y= .int i/\SqT K H p xs/\atI xs i=some v/\Q v H
def rIxS:R2:=fun x y H Q=>∃z i c,x= .str z/\y= .int i/\z.length<=sizeLine/\atI z.cps.toList i=some c/\Q (.str ⟨#[c]⟩) H
theorem a5X:IxR X (rIxL X.K):=by
 intro value slice pins s σ H x y v u Q I rx ry h hs;obtain⟨p,xs,i,z,rfl,rfl,hq,he,q⟩:=h;cases rx;obtain⟨t,rfl⟩:=ry;obtain⟨its,r,pl,hz⟩:=I.list hq;obtain⟨j,h1,h2,h3,h4,h5⟩:=Y0 he;obtain⟨w,ew,rw'⟩:=r.get h2;have hl:=r.length;have hn:=line63;have fin:EP X pins σ Q w s:=⟨z,H,I,rw',q⟩
 by_cases h0:0<=i
 ·have hj:i.toNat=j:=by
   rw[seqIndex_of h0 h5] at h1;exact qS h1
  exact item_listR pl.isList h0 (by walk_at "o") (by rw[hj];simpa using ew) fin hs
 ·have hj:(i+(its.toArray.size:Int)).toNat=j:=by
   rw[seqIndex_neg (by walk_at "o") h4] at h1
   rw[zP,<-hl];exact qS h1
  exact xS (x:=w) pl.isList.typeIs slot_list_getitem.lookup
   (wpAny_getItem_list_neg (Q:=fun r s'=>r=w/\EP X pins σ Q r s') pl.isList (by walk_at "o") (by rw[zP]<;>walk_at "o") (by walk_at "o") (by rw[hj];simpa using ew) ⟨rfl,fin⟩) hs
theorem a7Y:IxR X (rIxT X.K):=by
 intro value slice pins s σ H x y v u Q I rx ry h hs;obtain⟨p,xs,i,z,rfl,rfl,hq,he,q⟩:=h;cases rx;obtain⟨t,rfl⟩:=ry;obtain⟨its,r,pl,hz⟩:=I.tuple hq;obtain⟨j,h1,h2,h3,h4,h5⟩:=Y0 he;obtain⟨w,ew,rw'⟩:=r.get h2;have hl:=r.length;have hn:=line63;have fin:EP X pins σ Q w s:=⟨z,H,I,rw',q⟩;exact xS (x:=w) pl.typeIs slot_tuple_getitem.lookup
  (getItem_tuple (j:=j) (Q:=fun r s'=>r=w/\EP X pins σ Q r s') pl (by walk_at "o") (by walk_at "o") (by rw[zP,<-hl];exact h1) (by simpa using ew) ⟨rfl,fin⟩) hs
theorem a71:IxR X rIxS:=by
 intro value slice pins s σ H x y v u Q I rx ry h hs;obtain⟨z,i,c,rfl,rfl,hz,he,q⟩:=h;obtain⟨t,rfl⟩:=rx;obtain⟨t',rfl⟩:=ry;obtain⟨j,h1,h2,h3,h4,h5⟩:=Y0 he;have hl:z.cps.toList.length=z.length:=by simp[Str.length]
 rw[hl] at h1 h4 h5;have hn:=line63
 exact tail_any (typeIs_str s z t) slot_str_getitem.lookup (getItem_str (c:=c) (by
  have e1:decide (i < -(2^63:Int))=false:=qB (by walk_at "o")
  have e2:decide (i≥2^63)=false:=qB (by walk_at "o")
  rw[e1,e2,Bool.or_false]) (by rw[h1];simpa using h2) ⟨.str ⟨#[c]⟩,H,I.tok _,⟨_,rfl⟩,q⟩) hs
def rIx (K:PySem.W.Frag):R2:=fun x y H Q=>rIxL K x y H Q\/rIxT K x y H Q\/rIxS x y H Q
theorem a8y:IxR X (rIx X.K):=a5X.or (a7Y.or a71)
theorem a1n (its:List Value)(n j:Nat)(u:Value):Obj.mapSeq (·.setIfInBounds j u) {cls:=.type "list",data:=.seq its.toArray n}={cls:=.type "list",data:=.seq (its.set j u).toArray n}:=by
 simp[Obj.mapSeq]
theorem Inv.lst {pins:List (Addr×Obj)}{σ:St}{H:Hp}{s:Shared}{p:Addr}{xs:List V}(I:Inv X pins σ H s)(h:H p=some (.lst xs)):
  ∃(its:List Value) (n:Nat),Vals xs its/\s.heap.get? p=some {cls:=.type "list",data:=.seq its.toArray n}/\xs.length<=sizeLine:=by
 obtain⟨z,its,n,r,e⟩:=I.hok p _ h;exact⟨its,n,r,e,z⟩
theorem Inv.lstUpd {pins:List (Addr×Obj)}{σ:St}{H:Hp}{s:Shared}{p:Addr}{xs ys:List V}{its its':List Value}{n n':Nat}{f:Obj->Obj}(I:Inv X pins σ H s)(h:H p=some (.lst xs))
  (ho:s.heap.get? p=some {cls:=.type "list",data:=.seq its.toArray n}) (hf:f {cls:=.type "list",data:=.seq its.toArray n}={cls:=.type "list",data:=.seq its'.toArray n'}) (r:Vals ys its') (hz:ys.length<=sizeLine) (t:Nat):
  Inv X pins σ (upd H p (.lst ys)) {s with heap:=s.heap.update p f,toks:=t}:=by
 have e:(s.heap.update p f).get? p=some {cls:=.type "list",data:=.seq its'.toArray n'}:=by
  rw[xI f ho (by rw[hf]<;>rfl),hf]
 refine I.write (x:=p) (e:=p) (by rw[h];trivial) (.inl rfl) (fun b u hb q=>(Heap.get?_update_other _ _ (qN hb)).trans q) ⟨_,e⟩ ?_
 exact⟨hz,its',n',r,e⟩
def rSetL:V->V->V->Hp->(Hp->Prop)->Prop:=fun o i v H Q=>∃p xs k j,o= .ref p/\i= .int k/\H p=some (.lst xs)/\ixN xs.length k=some j/\Q (upd H p (.lst (xs.set j v)))
theorem a3P:PSet X rSetL:=by
 intro pins s σ H o i v ov iv u Q I ro ri rv h;obtain⟨p,xs,k,j,rfl,rfl,hp,hj,q⟩:=h;cases ro;obtain⟨t,rfl⟩:=ri;obtain⟨its,n,r,ho,hz⟩:=I.lst hp;obtain⟨h1,h2,h3,h4⟩:=a2r hj;have hl:=r.length;have hn:=line63;have I':Inv X pins σ (upd H p (.lst (xs.set j v))) {s with heap:=s.heap.update p (Obj.mapSeq (·.setIfInBounds j u))}:=
  I.lstUpd hp ho (a1n its n j u) (r.set rv j) (by rw[length_set];exact hz) s.toks
 by_cases h0:0<=k
 ·have hk:k.toNat=j:=by
   rw[seqIndex_of h0 h4] at h1;exact qS h1
  exact PySem.W.ki_setAt ho h0 (by walk_at "o") (by rw[zP,<-hl];exact h4) (by rw[hk];exact⟨_,I',q⟩)
 ·have hk:(k+(its.toArray.size:Int)).toNat=j:=by
   rw[seqIndex_neg (by walk_at "o") h3] at h1
   rw[zP,<-hl];exact qS h1
  exact PySem.W.ki_setBack ho (by walk_at "o") (by rw[zP,<-hl];exact h3) (by walk_at "o") (by rw[hk];exact⟨_,I',q⟩)
theorem Y2 (lo hi:Option Int)(n:Nat):(sliceBounds lo hi none n).1=((HT.sIx n 0 lo:Nat):Int)/\(sliceBounds lo hi none n).2.1=((HT.sIx n n hi:Nat):Int)/\(sliceBounds lo hi none n).2.2=1:=by
 refine⟨?_,?_,rfl⟩
 ·cases lo with
  | none=>simp[sliceBounds,HT.sIx]
  | some i=>
   simp only[sliceBounds,HT.sIx,getD_none,show(1:Int)>0 by decide,jD]
   by_cases h:i<0
   ·simp only[h,jD]<;>walk_at "o"
   ·simp only[h,xA]<;>walk_at "o"
 ·cases hi with
  | none=>simp[sliceBounds,HT.sIx]
  | some i=>
   simp only[sliceBounds,HT.sIx,getD_none,show(1:Int)>0 by decide,jD]
   by_cases h:i<0
   ·simp only[h,jD]<;>walk_at "o"
   ·simp only[h,xA]<;>walk_at "o"
theorem U4 (its:List Value)(lo hi:Option Int):slicePick its.toArray lo hi none=((its.drop (HT.sIx its.length 0 lo)).take (HT.sIx its.length its.length hi-HT.sIx its.length 0 lo)).toArray:=by
 obtain⟨h1,h2,h3⟩:=Y2 lo hi its.toArray.size;unfold slicePick;rw[h1,h2,h3];simp only[sliceRange_one,pick_run,zP]<;>rfl
def rSlL (K:PySem.W.Frag):V->Option Int->Option Int->Hp->VK->Prop:=fun x lo hi H Q=>∃a xs,x= .ref a/\SqL K H a xs/\∀p,H p=none->Q (.ref p) (upd H p (.lst (cutV xs lo hi)))
theorem a6l:SlR X (rSlL X.K):=by
 intro pins s σ H x v vl vu lo hi sl Q I rx hs pl pu h;obtain⟨a,xs,rfl,hx,q⟩:=h;cases rx;obtain⟨its,r,ht,hz⟩:=I.list hx;have hlen:=r.length;refine⟨"list",_,slot_list_getitem.lookup,ht.isList.typeIs,?_⟩;refine wpAny_getItem_list_slice ht.isList hs pl pu .none (by simp) ?_ (by rw[zP]<;>walk_at "o")
 rw[U4,<-hlen];refine⟨.ref s.heap.objs.size,_,I.laid (t':=s.toks) (o:=.lst (cutV xs lo hi)) (fun b ob q=>zI _ q) (zC _) ?_,rfl,q _ (I.hok.fresh (zC _))⟩;exact⟨zJ (O7 xs lo hi) hz,_,0,(r.drop (HT.sIx xs.length 0 lo)).take (HT.sIx xs.length xs.length hi-HT.sIx xs.length 0 lo),qK _ rfl⟩
def flatV:V->Bool
 | .non=>true
 | .bl _=>true
 | .int _=>true
 | .str _=>true
 | _=>false
def eqV:V->V->Bool
 | .non,.non=>true
 | .bl a,.bl b=>a==b
 | .bl a,.int b=>(if a then 1 else 0)==b
 | .int a,.bl b=>a==(if b then 1 else 0)
 | .int a,.int b=>a==b
 | .str a,.str b=>a==b
 | _,_=>false
theorem a8m {A:Around}{s:Shared}{y x:V}{u v:Value}(ry:RelV y u)(rx:RelV x v)(fy:flatV y=true)(fx:flatV x=true):SeqAt.EqAt A s u v (eqV y x):=by
 cases y with
 | non=>
  cases ry;cases x with
  | non=>cases rx;exact SeqAt.EqAt.same _
  | bl b=>cases rx;exact SeqAt.EqAt.none_bool b
  | int b=>obtain⟨t,rfl⟩:=rx;exact SeqAt.EqAt.none_int b t
  | str b=>obtain⟨t,rfl⟩:=rx;exact SeqAt.EqAt.none_str b t
  | _=>exact absurd (show false=true from fx) zS
 | bl a=>
  cases ry;cases x with
  | non=>cases rx;exact SeqAt.EqAt.bool_none a
  | bl b=>cases rx;exact SeqAt.EqAt.bool_bool a b
  | int b=>obtain⟨t,rfl⟩:=rx;exact SeqAt.EqAt.bool_int a b t
  | str b=>obtain⟨t,rfl⟩:=rx;exact SeqAt.EqAt.bool_str a b t
  | _=>exact absurd (show false=true from fx) zS
 | int a=>
  obtain⟨t',rfl⟩:=ry;cases x with
  | non=>cases rx;exact SeqAt.EqAt.int_none a t'
  | bl b=>cases rx;exact SeqAt.EqAt.int_bool a t' b
  | int b=>obtain⟨t,rfl⟩:=rx;exact SeqAt.EqAt.int_int a t' b t
  | str b=>obtain⟨t,rfl⟩:=rx;exact SeqAt.EqAt.int_str a t' b t
  | _=>exact absurd (show false=true from fx) zS
 | str a=>
  obtain⟨t',rfl⟩:=ry;cases x with
  | non=>cases rx;exact SeqAt.EqAt.str_none a t'
  | bl b=>cases rx;exact SeqAt.EqAt.str_bool a t' b
  | int b=>obtain⟨t,rfl⟩:=rx;exact SeqAt.EqAt.str_int a t' b t
  | str b=>obtain⟨t,rfl⟩:=rx;exact SeqAt.EqAt.str_str a t' b t
  | _=>exact absurd (show false=true from fx) zS
 | _=>exact absurd (show false=true from fy) zS
def eqU (x:V) (u:Value):Bool:=match u with
 | .none=>eqV .non x
 | .bool b=>eqV (.bl b) x
 | .int i _=>eqV (.int i) x
 | .str z _=>eqV (.str z) x
 | _=>false
theorem a35 {x y:V}{u:Value}(r:RelV y u)(f:flatV y=true):eqU x u=eqV y x:=by
 cases y with
 | non=>cases r;rfl
 | bl b=>cases r;rfl
 | int i=>obtain⟨t,rfl⟩:=r;rfl
 | str z=>obtain⟨t,rfl⟩:=r;rfl
 | _=>exact absurd (show false=true from f) zS
theorem Y9 {x:V}:∀{xs:List V} {us:List Value},Vals xs us->xs.all flatV=true->us.any (eqU x)=xs.any fun y=>eqV y x
 | _,_,.nil,_=>rfl
 | y::xs,u::us,.cons r t,f=>by
  rw[all_cons,jQ] at f;rw[any_cons,any_cons,a35 r f.1,Y9 t f.2]
theorem T0 {A:Around}{s:Shared}{x:V}{v:Value}(rx:RelV x v)(fx:flatV x=true):∀{xs:List V} {us:List Value},Vals xs us->xs.all flatV=true->∀u∈us,SeqAt.EqAt A s u v (eqU x u)
 | _,_,.nil,_=>fun u hu=>by cases hu
 | y::xs,u::us,.cons r t,f=>fun u' hu=>by
  rw[all_cons,jQ] at f;rcases qG.mp hu with rfl|hu
  ·rw[a35 r f.1];exact a8m r rx f.1 fx
  ·exact T0 rx fx t f.2 u' hu
def inV (x:V) (xs:List V):Bool:=xs.any fun y=>eqV y x
def rIn (K:PySem.W.Frag) (neg:Bool):R2:=fun x y H Q=>∃p xs,y= .ref p/\(SqL K H p xs\/SqT K H p xs)/\flatV x=true/\xs.all flatV=true/\Q (.bl (if neg then !inV x xs else inV x xs)) H
theorem a3A:OpR X (compareOp .In) (rIn X.K false):=by
 intro pins s σ H x y v u Q I rx ry h;obtain⟨p,xs,rfl,hq,fx,fs,q⟩:=h;cases ry;rcases hq with hq|hq
 ·obtain⟨its,r,pl,hz⟩:=I.list hq;refine SeqAt.in_listAt (eqU x) pl.isList (fun w hw=>T0 rx fx r fs w (by simpa using hw)) ⟨.bl _,H,I,rfl,?_⟩
  rw[show its.toArray.any (eqU x)=its.any (eqU x) by simp,Y9 r fs]
  exact q
 ·obtain⟨its,r,pl,hz⟩:=I.tuple hq;refine SeqAt.in_tupleAt (eqU x) pl (fun w hw=>T0 rx fx r fs w (by simpa using hw)) ⟨.bl _,H,I,rfl,?_⟩
  rw[show its.toArray.any (eqU x)=its.any (eqU x) by simp,Y9 r fs]
  exact q
theorem k8:CallR X (.builtin "len") (fun xs H Q=>∃p ys,xs=[.ref p]/\(SqL X.K H p ys\/SqT X.K H p ys)/\Q (.int ys.length) H):=by
 intro pins s σ H xs us Q I r h;obtain⟨p,ys,rfl,hq,q⟩:=h;obtain⟨u,rfl,rx⟩:=vals1 r;cases rx;have hn:=line63;rcases hq with hq|hq
 ·obtain⟨its,r',pl,hz⟩:=I.list hq;have hlen:=r'.length;exact Calls.call_len_list pl.isList (by simp only[zP]<;>walk_at "o") ⟨.int ys.length,H,I.tok _,⟨s.toks+1,by rw[zP,hlen]⟩,q⟩
 ·obtain⟨its,r',pl,hz⟩:=I.tuple hq;have hlen:=r'.length;exact len_tuple pl (by simp only[zP]<;>walk_at "o") ⟨.int ys.length,H,I.tok _,⟨s.toks+1,by rw[zP,hlen]⟩,q⟩
theorem CallR.or {f:Value}{r r':List V->Hp->VK->Prop}(h:CallR X f r)(h':CallR X f r'):CallR X f (fun xs H Q=>r xs H Q\/r' xs H Q):=by
 intro pins s σ H xs us Q I rs q;rcases q with q|q
 ·exact h pins s σ H xs us Q I rs q
 ·exact h' pins s σ H xs us Q I rs q
theorem Y3:CallR X (.type "list") (fun xs H Q=>∃p ys,xs=[.ref p]/\(SqL X.K H p ys\/SqT X.K H p ys)/\∀l,H l=none->Q (.ref l) (upd H l (.lst ys))):=by
 intro pins s σ H xs us Q I r h;obtain⟨p,ys,rfl,hq,q⟩:=h;obtain⟨u,rfl,rx⟩:=vals1 r;cases rx;have fin:∀(its:List Value),Vals ys its->ys.length<=sizeLine->∀(h':Heap) (c':Nat),(∀b o',s.heap.get? b=some o'->h'.get? b=some o')->
   h'.get? s.heap.objs.size=some {cls:=.type "list",dict:=none,data:=.seq its.toArray c',slots:= #[]}->EP X pins σ Q (.ref s.heap.objs.size) {s with heap:=h'}:=fun its r' hz h' c' kp e=>
  ⟨.ref s.heap.objs.size,_,I.laid (t':=s.toks) kp (zC _) (show ObjOk X.K X.prog X.w _ h' _ (.lst ys) from⟨hz,its,c',r',e⟩),rfl,q _ (I.hok.fresh (zC _))⟩
 rcases hq with hq|hq
 ·obtain⟨its,r',pl,hz⟩:=I.list hq;have hlen:=r'.length;obtain⟨o,ho,hc,n,hd⟩:=pl.isList;exact call_list_seq p (.inl rfl) ho hc hd (fun h' c' kp e=>fin its r' hz h' c' kp e) (by simp only[zP]<;>walk_at "o")
 ·obtain⟨its,r',pl,hz⟩:=I.tuple hq;have hlen:=r'.length;obtain⟨o,ho,hc,n,hd⟩:=pl;exact call_list_seq p (.inr rfl) ho hc hd (fun h' c' kp e=>fin its r' hz h' c' kp e) (by simp only[zP]<;>walk_at "o")
theorem u6:CallR X (.type "tuple") (fun xs H Q=>∃p ys,xs=[.ref p]/\((SqL X.K H p ys/\∀l,H l=none->Q (.ref l) (upd H l (.tup ys)))\/(SqT X.K H p ys/\Q (.ref p) H))):=by
 intro pins s σ H xs us Q I r h;obtain⟨p,ys,rfl,h⟩:=h;obtain⟨u,rfl,rx⟩:=vals1 r;cases rx;rcases h with ⟨hq,q⟩|⟨hq,q⟩
 ·obtain⟨its,r',pl,hz⟩:=I.list hq;have hlen:=r'.length;refine call_tuple_list pl.isList (fun h' kp=>?_) (by simp only[zP]<;>walk_at "o")
  have I1:Inv X pins σ H {s with heap:=h'}:=I.kept (t':=s.toks) kp
  have I2:Inv X pins σ (upd H h'.objs.size (.tup ys)) {s with heap:=h'.push {cls:=.type "tuple",data:=.seq its.toArray}}:=
   I1.laid (t':=s.toks) (fun b o e=>zI _ e) (zC _) (show ObjOk X.K X.prog X.w _ _ _ (.tup ys) from⟨hz,its,r',TupN.new _ _⟩)
  exact⟨.ref h'.objs.size,_,I2,rfl,q _ (I1.hok.fresh (zC _))⟩
 ·obtain⟨its,r',pl,hz⟩:=I.tuple hq;exact call_tuple_same pl ⟨.ref p,H,I,rfl,q⟩
def tyV (K:PySem.W.Frag) (T:String) (x:V) (H:Hp):Prop:=match x with
 | .str _=>T="str"
 | .int _=>T="int"
 | .ref p=>(T="list"/\∃xs,SqL K H p xs)\/(T="tuple"/\∃o,K.lookup p=some o/\o.cls= .type "tuple"/\o.dict=none)\/
   (T="dict"/\((∃kvs,H p=some (.dK kvs))\/∃kvs,H p=some (.dT kvs)))\/(T="set"/\∃S n,H p=some (.set S n))
 | _=>False
theorem a7G {pins:List (Addr×Obj)}{σ:St}{H:Hp}{s:Shared}{T:String}{x:V}{v:Value}(I:Inv X pins σ H s)(r:RelV x v)(ty:tyV X.K T x H):
  s.TypeIs v T/\∀a,v= .ref a->∃ob,s.heap.get? a=some ob/\ob.dict=none:=by
 cases x with
 | str z=>
  obtain⟨t,rfl⟩:=r;cases(show T="str" from ty);exact⟨typeIs_str s z t,fun _ e=>nomatch e⟩
 | int i=>
  obtain⟨t,rfl⟩:=r;cases(show T="int" from ty);exact⟨typeIs_int s i t,fun _ e=>nomatch e⟩
 | ref p=>
  cases r;rcases ty with ⟨rfl,xs,hq⟩|⟨rfl,o,hk,hc,hd⟩|⟨rfl,hk⟩|⟨rfl,S,n,hk⟩
  ·obtain⟨its,_,pl,_⟩:=I.list hq;refine⟨pl.isList.typeIs,fun a e=>?_⟩;cases e;obtain⟨o,n,e,c,hd,_⟩:=pl;exact⟨o,e,hd⟩
  ·refine⟨⟨o,I.kIn p o hk,hc⟩,fun a e=>?_⟩;cases e;exact⟨o,I.kIn _ o hk,hd⟩
  ·have z:∃o,s.heap.get? p=some o/\o.ExactDict:=by
    rcases hk with ⟨kvs,hk⟩|⟨kvs,hk⟩
    ·obtain⟨_,_,_,_,o,_,e,ex,_⟩:=I.hok p _ hk;exact⟨o,e,ex⟩
    ·obtain⟨_,_,_,_,o,_,e,ex,_⟩:=I.hok p _ hk;exact⟨o,e,ex⟩
   obtain⟨o,e,ex⟩:=z;refine⟨⟨o,e,ex.1⟩,fun a e2=>?_⟩;cases e2;exact⟨o,e,ex.2.1⟩
  ·obtain⟨o,_,_,_,e,ex,_⟩:=I.hok p _ hk;refine⟨⟨o,e,ex.1⟩,fun a e2=>?_⟩;cases e2;exact⟨o,e,ex.2.1⟩
 | _=>exact False.elim ty
def tBM (K:PySem.W.Frag) (T:String) (r:V->List V->Hp->VK->Prop) (to:TE) (t:TA):TE:=fun σ H Q=>to σ H fun x H1=>tyV K T x H1/\t σ H1 fun xs H2=>r x xs H2 Q
variable {o e:Expr}{es:List Expr}{to:TE}{t:TA}{name:Str}{apos cpos:Pos}{T id:String}{r:V->List V->Hp->VK->Prop}
theorem pe_bm (pa:PlainAttrs T)(slot:Slot T name id)(hty:typeOf (.builtin id)=pure (.type "method_descriptor"))(hm:MtR X id r)(ho:PE X o to)(ha:PA X (e::es) t)
  (hbase:attributeBase o name X.env (eval o X.env)=eval o X.env:=by rfl)
  (hfew:((backTo cpos (starEach (e::es) X.env)).all (fun x=>!x.1)&&(backToKw cpos (keywordEach [] X.env)).all (fun x=>x.1.isSome)
   && decide ((e::es).length+([]:List Keyword).length+(if([]:List Keyword).isEmpty then 0 else 1)<30))=true:=by rfl)
  (hline:(apos.endLine==cpos.line)=true:=by rfl) (hs:starEach (e::es) X.env=(false,eval e X.env)::starEach es X.env:=by rfl) (hplain:(backTo cpos (starEach es X.env)).any (·.1)=false:=by rfl):
  PE X (.Call (.Attribute o name apos) (e::es) [] cpos) (tBM X.K T r to t):=by
 intro pins s σ H Q I h;refine wpAny_Call_method_late hbase hfew hline rfl (thn (ho pins s σ H _ I h) fun v s1 ⟨x,H1,I1,r1,ty,q1⟩=>?_);obtain⟨h1,h2⟩:=a7G I1 r1 ty;refine⟨T,id,pa,slot,hty,h1,h2,?_⟩;have hA:=ha cpos pins s1 σ H1 _ I1 q1;rw[hs] at hA ⊢;refine Calls.callWith_builtin (by show(false||(backTo cpos (starEach es X.env)).any (·.1))=false;rw[hplain]<;>rfl) (Calls.evalArgs_plain ?_)
 exact thn hA fun us s2 h0=>ex5 h0 fun vs H2 I2 r2 q2=>hm pins s2 σ H2 x vs v us Q I2 r1 r2 q2
end
def MtM (X:Cx) (id:String) (r:V->List V->Hp->VK->Prop):Prop:=
 ∀(pins:List (Addr×Obj)) (s:Shared) (σ:St) (H:Hp) (x:V) (xs:List V) (v:Value) (us:List Value) (Q:VK),Inv X pins σ H s->RelV x v->Vals xs us->r x xs H Q->
  wpAny (model X.prog X.w) X.A (call (.builtin id) (v::us)) (EP X pins σ Q) X.xe s
theorem Vals.one:∀{x:V} {us:List Value},Vals [x] us->∃u,us=[u]/\RelV x u
 | _,_,.cons r .nil=>⟨_,rfl,r⟩
theorem Vals.rep {xs:List V}{us:List Value}(h:Vals xs us):∀k:Nat,Vals (List.replicate k xs).flatten (List.replicate k us).flatten
 | 0=>.nil
 | k+1=>by
  rw[jG,jG,xV,xV];exact Vals.append h (Vals.rep h k)
theorem X8 (its:List Value):∀(k:Nat) (acc:List Value),
  List.foldl (fun x1 x2=>x1++x2) acc.toArray (List.replicate k its.toArray)=(acc++(List.replicate k its).flatten).toArray
 | 0,acc=>by simp
 | k+1,acc=>by
  have e:acc.toArray++its.toArray=(acc++its).toArray:=by simp
  have e2:(acc++its)++(List.replicate k its).flatten=acc++(List.replicate (k+1) its).flatten:=by
   rw[jG,xV,qR]
  rw[<-e2,<-X8 its k (acc++its),<-e,jG,List.foldl_cons]
section
variable {X:Cx}{pins:List (Addr×Obj)}{σ:St}{H:Hp}{s:Shared}{l:Addr}{xs ys:List V}
theorem Inv.lset {its its':List Value}{n:Nat}{f:Array Value->Array Value}{t':Nat}(I:Inv X pins σ H s)(hH:H l=some (.lst xs))
  (e:s.heap.get? l=some {cls:=.type "list",data:=.seq its.toArray n}) (hf:f its.toArray=its'.toArray) (hv:Vals ys its') (hz:ys.length<=sizeLine):
  Inv X pins σ (upd H l (.lst ys)) {s with heap:=s.heap.update l (Obj.mapSeq f),toks:=t'}:=by
 have q:=PySem.IsL.update e f;rw[hf] at q;refine I.write (x:=l) (e:=l) (by rw[hH];exact trivial) (.inl rfl) (fun b' u hb hu=>(Heap.get?_update_other s.heap (Obj.mapSeq f) (qN hb)).trans hu) ⟨_,q⟩ ?_
 exact⟨hz,its',_,hv,q⟩
theorem Inv.lnew {its:List Value}{t':Nat}(I:Inv X pins σ H s)(hv:Vals ys its)(hz:ys.length<=sizeLine):
  Inv X pins σ (upd H s.heap.objs.size (.lst ys)) {s with heap:=s.heap.push {cls:=.type "list",data:=.seq its.toArray},toks:=t'}:=
 I.laid (fun _ _ q=>zI _ q) (zC _) ⟨hz,its,0,hv,qK _ rfl⟩
theorem Inv.fresh (I:Inv X pins σ H s):H s.heap.objs.size=none:=I.hok.fresh (zC _)
theorem Inv.lstM (I:Inv X pins σ H s)(hH:H l=some (.lst xs)):xs.length<=sizeLine/\∃(its:List Value) (n:Nat),Vals xs its/\xs.length=its.length/\s.heap.get? l=some {cls:=.type "list",data:=.seq its.toArray n}:=by
 obtain⟨z,its,n,r,e⟩:=I.hok l _ hH;exact⟨z,its,n,r,r.length,e⟩
theorem notLongL {n:Nat}(h:n<=sizeLine):Builtin.List.listTooLong n=false:=by
 unfold Builtin.List.listTooLong;exact qB (by walk_at "o")
end
section
variable {X:Cx}
def rAppend:V->List V->Hp->VK->Prop:=fun x vs H Q=>∃l xs y,x= .ref l/\vs=[y]/\H l=some (.lst xs)/\xs.length<sizeLine/\Q .non (upd H l (.lst (xs++[y])))
theorem U7:MtM X "list.append" rAppend:=by
 intro pins s σ H x vs v us Q I rx rv h;obtain⟨l,xs,y,rfl,rfl,hH,hz,q⟩:=h;cases rx;obtain⟨u,rfl,ru⟩:=rv.one;obtain⟨z,its,n,r,hl,e⟩:=I.lstM hH;refine call_meets F.slot_list_append ⟨_,e,rfl⟩ F.entry_list_append (F.args_list_append_2 _ _) (PySem.list_append l its.toArray n u (by rw[zP];walk_at "o")) ⟨e,?_⟩
 refine⟨.non,_,I.lset (its':=its++[u]) hH e (by simp) (r.append (.cons ru .nil)) ?_,rfl,q⟩
 rw[zO,List.length_singleton];walk_at "o"
theorem a5P {α:Type}(xs:List α)(k:Nat):(List.replicate k xs).flatten.length=k*xs.length:=by
 induction k with
 | zero=>simp
 | succ k ih=>rw[jG,xV,zO,ih,Nat.succ_mul,Nat.add_comm]
end
end L2
namespace Att
open PySem PySem.W PySem.Calls PyProof.Rows
theorem P3 {P:Params}{h:Heap}:∀(ns:List Int) (vs:List Value),WellAll P h vs (ns.map WData.int)->IntsAre vs ns:=by
 intro ns
 induction ns with
 | nil=>
  intro vs w;rw[map_nil] at w;cases w;exact .nil
 | cons n ns ih=>
  intro vs w;rw[zQ] at w;cases w with
  | cons a b=>
   cases a;exact .cons _ _ (ih _ b)
theorem a3e {l:OpenLaw}{n:Nat}(hn:l.most=some n){P:Params}{h:Heap}{args:List WData}{vals:List Value}
  (hpre:l.row.toRowW.claim.pre args=true) (hwl:WellAll P h vals args):
  ∃a vs ns,vals=[Value.ref a]/\args=[WData.list (ns.map WData.int)]/\h.get? a=some {cls:=.type "list",data:=.seq vs.toArray}/\IntsAre vs ns/\ns.length<=n:=by
 have hsh:WShape.hasAll [] args [.list .int]=true:=(pre_splitW hpre).1;have hc:l.pre.holds [] {args:=args}=true:=(pre_splitW hpre).2;obtain⟨d,r,rfl,h1,h2⟩:=hasAllW_cons hsh;obtain rfl:=hasAllW_nil h2;obtain⟨xs,rfl,h3⟩:=hasW_list h1;obtain⟨ns,rfl⟩:=items_int h3;have hlen:ns.length<=n:=by
  unfold OpenLaw.pre at hc;have h4:(WTm.not (.lt (.lit (.int (n:Int))) (.len (.arg 0)))).holds [] {args:=[.list (ns.map .int)]}=true:=by
   have h4:=(holds_andW hc).1;rw[hn] at h4;exact h4
  have h5:=condW_of h4 (w_not (w_lt w_lit (w_len_list (w_arg rfl))));rw[zH] at h5;refine Nat.le_of_not_lt fun q=>?_;have q':(n:Int)<((ns.length:Nat):Int):=by walk_at "o"
  first
   | (rw[qH q'] at h5;exact absurd h5 (by decide))
   | (simp at h5;walk_at "o")
 cases hwl with
 | cons w1 w2=>
  cases w2;cases w1 with
  | list ho hall=>exact⟨_,_,ns,rfl,rfl,ho,P3 ns _ hall,hlen⟩
theorem a3y (l:OpenLaw)(args:List WData):l.row.toRowW.claim.post args (.bool true) args=true:=
 postW_of (r:=l.row.toRowW) (X:=(true==true))
  (show WShape.has [] (.bool true) .bool=true by first|rfl|decide|simp[WShape.has,WShape.arms,WShape.armsAll])
  (show(WTm.eq .res (.lit (.bool true))).value [] {args:=args,res:=some (.bool true),after:=args}=some (.bool (true==true)) from w_eq_bool (w_res rfl) w_lit) rfl
theorem attach_call {l:OpenLaw}{n:Nat}{q:Program}{loose:List Str}{XP:(Str->Option Value)->Heap->Prop}{YP:World->Heap->Prop}{d:DefRec}
  (hn:l.most=some n) (hdf:d.params.defaults=[])
  (call:∀(w:World) (s₀ s₁:Shared) (mg mb:Str->Option Value) (fa:Addr) (o:Obj) (pm cd doc:Value) (a:Addr) (vs:List Value) (ns:List Int),
   Ground q loose [] XP w s₀ mg mb s₁.heap->YP w s₁.heap->
   s₁.heap.get? fa=some o->o.data= .func (docDef d.name d.params d.body d.scope pm cd doc)->s₁.heap.CodeRec cd d.name->mg d.name=some (.ref fa)->
   s₁.heap.get? a=some {cls:=.type "list",data:=.seq vs.toArray}->IntsAre vs ns->ns.length<=n->s₁.gens= #[]->
   codeAny (model l.prog w) callerA (.call (.ref fa) ⟨[.ref a],[]⟩) (fun r s'=>r= .ok (.ret (.bool true))/\OldK s₁.heap s'.heap/\s'.os=s₁.os/\AllBare s'.gens) s₁):
  WalkO q loose XP YP l.row.toRowW d [] (fun f vs=>PySem.call f vs):=by
 intro w s₀ s₁ mg mb G Y fa o pm cd doc dV kV ho hd hcd hD hmg hg args vals as hpre hlay hrd hwl hlo;obtain rfl:dV= .none:=Dflts.none hD hdf;obtain rfl:kV= .none:=Dflts.noKw hD;obtain⟨a,vs,ns,rfl,rfl,hobj,hints,hlen⟩:=a3e hn hpre hwl;refine enter_call (codeAny_mono (call w s₀ s₁ mg mb fa o pm cd doc a vs ns G Y ho (fd_plain hd) hcd hmg hobj hints hlen hg) fun r s' hq=>?_);obtain⟨rfl,h2,h3,h4⟩:=hq;exact⟨.inl ⟨.bool true,.bool true,[],rfl,fun _=>rfl,.bool true,a3y l _,fun _=>⟨List.Pairwise.nil,fun _ hm=>(nomatch hm)⟩⟩,h2,h3,h4⟩
def ledger (h:Heap) (L d:Addr):List (Addr×Obj):=(List.range h.objs.size).filterMap fun a=>if a=L\/a=d then none else(h.get? a).map fun o=>(a,o)
end Att
namespace L2
open PySem PySem.Spec PyProof.Rows
theorem W2:∀{vs:List Value} {ns:List Int},IntsAre vs ns->Vals (ns.map V.int) vs
 | _,_,.nil=>.nil
 | _,_,.cons n t h=>.cons ⟨t,rfl⟩ (W2 h)
def Only (H:Hp):Prop:=∀b,H b=none\/∃o xs,H b=some (.frz o (.lst xs))
theorem a5f {P:Program}{w:World}{K:PySem.W.Frag}{mg mb:Str->Option Value}{CX:CXT}{k:Nat}{fa a:Addr}{fd:FuncData}{x:Str}{sp:Sp}{s₁:Shared}{vs:List Value}{ns:List Int}
  (KX:K.In s₁.heap) (hns:s₁.heap.Ns mainGlobals mg) (hb:s₁.heap.Ns builtinsNs mb) (hbb:∀x:Str,x≠"__name__"->mb x=bootBuiltins x) (hlim:s₁.heap.NoLimit) (hg:s₁.gens= #[])
  (ha:s₁.heap.get? a=some {cls:=.type "list",data:=.seq vs.toArray}) (hi:IntsAre vs ns) (hl:ns.length<=sizeLine) (hr:Room k callerA)
  (F:∀base:Heap,K.In base->base.Ns mainGlobals mg->FnOk P w K mg base CX k fa fd [x] sp) (hbind:∀(s:Shared) (u:Value),BindsTo s fd ⟨[u],[]⟩ [(x,u)])
  (hsp:∀H:Hp,Only H->SqL K H a (ns.map V.int)->sp [.ref a] H (fun v _=>v= .bl true) fun _ _ _=>False)
  (hCX:∀H e s',CX [] H s₁ (fun _ _ _=>False) e s'->False):
  codeAny (model P w) callerA (.call (.ref fa) ⟨[.ref a],[]⟩) (fun r s'=>r= .ok (.ret (.bool true))/\OldK s₁.heap s'.heap/\s'.os=s₁.os/\AllBare s'.gens) s₁:=by
 have rv:=W2 hi;have lenV:=hi.length;have core:∀H:Hp,Only H->SqL K H a (ns.map V.int)->HOk K P w H s₁.heap->(∀b,H b≠none->b=a)->(H a≠none->K.lookup a=none)->
   codeAny (model P w) callerA (.call (.ref fa) ⟨[.ref a],[]⟩) (fun r s'=>r= .ok (.ret (.bool true))/\OldK s₁.heap s'.heap/\s'.os=s₁.os/\AllBare s'.gens) s₁:=by
  intro H hO hS hok hA hK;have base_of:∀{b:Addr} {o:Obj},s₁.heap.get? b=some o->H b=none->(hidT s₁.heap H).get? b=some o:=fun e n=>a4D e n;have noA:∀{b:Addr} {o:Obj} {es:Array DictEntry} {ep:Nat},s₁.heap.get? b=some o->o.data= .dict es ep->H b=none:=fun{b o es ep} e d=>by
   cases q:H b with
   | none=>rfl
   | some u=>
    have e':b=a:=hA b (by rw[q];simp)
    subst e';rw[ha] at e;cases e;have d':Data.seq vs.toArray _=Data.dict es ep:=d;cases d'
  have nsK:∀{b:Addr} {m:Str->Option Value},s₁.heap.Ns b m->(hidT s₁.heap H).Ns b m:=fun{b m} ⟨o,es,ep,e,d,r⟩=>⟨o,es,ep,base_of e (noA e d),d,r⟩
  have hKb:K.In (hidT s₁.heap H):=fun b o e=>base_of (KX b o e) (by
   cases q:H b with
   | none=>rfl
   | some u=>
    have e':b=a:=hA b (by rw[q];simp)
    subst e'
    rw[hK (by rw[q];simp)] at e;cases e)
  have hM:Mod K mg (hidT s₁.heap H):=⟨hKb,nsK hns,⟨mb,nsK hb,hbb⟩,let ⟨mc,h1,h2⟩:=hlim;⟨mc,nsK h1,h2⟩⟩;have e0:Env0 P w K mg (hidT s₁.heap H) callerA [] s₁ H:=⟨rfl,hM,fun b o e=>a5Q e,Nat.le_of_eq (a3F _ _),trivial,fun b hb=>absurd (show b∈([]:List Addr) from hb) (by simp),hok,.of_eq hg⟩
  refine codeAny_mono ((F _ hKb (nsK hns)).run callerA [] s₁ H ⟨[.ref a],[]⟩ [.ref a] [.ref a] _ _ hr e0 (hbind s₁ (.ref a)) (.cons rfl .nil) (hsp H hO hS)) fun r s' h=>?_;cases r with
  | error e=>exact(hCX H e s' h).elim
  | ok fl=>
   cases fl with
   | next=>exact False.elim h
   | brk=>exact False.elim h
   | cont=>exact False.elim h
   | ret u=>
    obtain⟨v,H',os,bare,un,hok',r',q⟩:=h;have q':v= .bl true:=q;subst q';obtain rfl:u=Value.bool true:=r';refine⟨rfl,OldK.of_keep fun b o e=>?_,os,bare⟩;cases q:H b with
    | none=>exact un.keep b o e q (by intro z;exact absurd (show b∈([]:List Addr) from z) (by simp)) (by simp)
    | some u=>
     rcases hO b with z|⟨ob,xs,z⟩
     ·rw[q] at z;cases z
     ·have z2:=un.frzs b ob _ z;obtain⟨e1,_⟩:=hok b _ z;obtain⟨e2,_⟩:=hok' b _ z2;rw[e] at e1;cases e1;exact e2
 cases hk:K.lookup a with
 | some o=>
  have e:=KX a o hk;rw[ha] at e;cases e;refine core (fun _=>none) (fun _=>.inl rfl) (.inr ⟨_,vs.toArray,_,hk,rfl,rfl,rfl,by rw[zP,lenV];exact hl,by simpa using rv⟩) (fun b u z=>by have z':(none:Option HO)=some u:=z;cases z') (fun b z=>absurd rfl z) fun z=>absurd rfl z
 | none=>
  refine core (fun b=>if b=a then some (.frz {cls:=.type "list",data:=.seq vs.toArray} (.lst (ns.map V.int))) else none) (fun b=>?_) (.inl (.inr ⟨{cls:=.type "list",data:=.seq vs.toArray},if_pos rfl⟩)) (fun b u z=>?_) (fun b z=>?_) fun _=>hk
  ·by_cases hb:b=a
   ·exact .inr ⟨_,_,if_pos hb⟩
   ·exact .inl (if_neg hb)
  ·by_cases hb:b=a
   ·have z':=(if_pos hb).symm.trans z;cases z';subst hb;exact⟨ha,by rw[zH];exact hl,vs,_,rv,ha⟩
   ·have z':=(if_neg hb).symm.trans z;cases z'
  ·by_cases hb:b=a
   ·exact hb
   ·exact absurd (if_neg hb) z
abbrev KOf {K:PySem.W.Frag} {h:Heap} (_:K.In h):PySem.W.Frag:=K
theorem a5S {l:PySem.W.OpenLaw}{n k:Nat}{q:Program}{loose:List Str}{XP:(Str->Option Value)->Heap->Prop}{YP:World->Heap->Prop}{d:DefRec}{K:Params->PySem.W.Frag}{CX:World->CXT}{sp:World->Sp}{x:Str}
  (hn:l.most=some n) (hn2:n<=sizeLine) (hdf:d.params.defaults=[]) (hr:Room k callerA)
  (hY:∀(w:World) (h:Heap),YP w h->(K w.params).In h)
  (F:∀(w:World) (mg:Str->Option Value) (fa:Addr) (h:Heap),(K w.params).In h->h.Ns mainGlobals mg->mg d.name=some (.ref fa)->
   ∃fd:FuncData,(∀(s:Shared) (u:Value),BindsTo s fd ⟨[u],[]⟩ [(x,u)])/\
    ∀base:Heap,(K w.params).In base->base.Ns mainGlobals mg->FnOk l.prog w (K w.params) mg base (CX w) k fa fd [x] (sp w))
  (hsp:∀(w:World) (H:Hp) (a:Addr) (ns:List Int),ns.length<=n->Only H->SqL (K w.params) H a (ns.map V.int)->sp w [.ref a] H (fun v _=>v= .bl true) fun _ _ _=>False)
  (hCX:∀(w:World) (H:Hp) (s:Shared) (e:Value) (s':Shared),CX w [] H s (fun _ _ _=>False) e s'->False):
  PySem.W.WalkO q loose XP YP l.row.toRowW d [] (fun f vs=>PySem.call f vs):=by
 refine Att.attach_call hn hdf fun w s₀ s₁ mg mb fa o pm cd doc a vs ns G Y ho hd hcd hmg hobj hints hlen hg=>?_;have KX:=hY w _ Y;obtain⟨fd,hb,hF⟩:=F w mg fa _ KX G.T.g hmg;exact a5f KX G.T.g G.T.b G.T.builtins G.T.nolimit hg hobj hints (zJ hlen hn2) hr hF hb (fun H hO hS=>hsp w H a ns hlen hO hS) fun H e s'=>hCX w H s₁ e s'
def defArgs (s:Stmt):Arguments:=match s with
 | .FunctionDef _ a _ _ _ _ _ _ _ _=>a
 | _=>{posonlyargs:=[],args:=[],vararg:=none,kwonlyargs:=[],kw_defaults:=[],kwarg:=none,defaults:=[]}
def defBody (s:Stmt):List Stmt:=match s with
 | .FunctionDef _ _ b _ _ _ _ _ _ _=>b
 | _=>[]
def defScope (s:Stmt):Scope:=match s with
 | .FunctionDef _ _ _ _ _ _ sc _ _ _=>sc
 | _=>{kind:=.function,names:=[],isGenerator:=false,isCoroutine:=false}
abbrev CX0:CXT:=fun _ _ _ _ _ _=>False
abbrev E0:XK:=fun _ _ _=>False
theorem pass0 {X:Cx}:Passes CX0 X E0:=fun _ _ _ _ _ _ _ h=>h.elim
structure Fun (K:PySem.W.Frag) (x qual:Str) (st:Stmt) (f:Addr) (fd:FuncData):Prop where
 ex:∃(oc:Value) (od:Option Addr) (kV doc pm:Value) (an:Option Addr) (cdv ct:Value) (osl:Array (Option Value)),
  fd=PySem.W.fnOf x qual (defArgs st) (defBody st) (defScope st) .none kV doc pm an cdv ct/\K.lookup f=some ⟨oc,od,.func fd,osl⟩/\PySem.W.codeIn K cdv qual=true
 kp:PySem.W.keepIn K (.ref f)=true
section
variable {P:Program}{w:World}{K:PySem.W.Frag}{mg:Str->Option Value}{base:Heap}
theorem Fun.ok {x qual:Str}{st:Stmt}{f:Addr}{fd:FuncData}{N ps:List Str}{k:Nat}{sp:Sp}(F:Fun K x qual st f fd)(S:FnScope N ps (defScope st))(len:∀vs H Q E,sp vs H Q E->vs.length=ps.length)
  (hbody:∀(cdv:Value) (A:Around) (outer:List Env) (s:Shared) (H:Hp) (vs:List V) (Q:VK) (E:XK),Room k (A.deeper (envOfC qual (defScope st) s.heap.objs.size f cdv))->sp vs H Q E->
   ∃t,PSs (cxOf CX0 P w K mg base N qual (defScope st) f cdv A outer s H E).nox (defBody st) t/\t {nx:=fun _ H'=>Q .non H',rt:=Q} (start N vs) H):FnOk P w K mg base CX0 (k+1) f fd ps sp:=by
 obtain⟨oc,od,kV,doc,pm,an,cdv,ct,osl,rfl,lk,hcd⟩:=F.ex;refine fn_of lk hcd S len fun A outer s H vs Q E hr hsp=>?_;obtain⟨t,h,q⟩:=hbody cdv A outer s H vs Q E hr hsp;exact⟨t,h.nox,q⟩
theorem Fun.binds {x qual:Str}{st:Stmt}{f:Addr}{fd:FuncData}{ps:List Str}(F:Fun K x qual st f fd)
  (h:∀(kV doc pm:Value) (an:Option Addr) (cdv ct:Value) (us:List Value),us.length=ps.length->bindArgs (PySem.W.fnOf x qual (defArgs st) (defBody st) (defScope st) .none kV doc pm an cdv ct) ⟨us,[]⟩=pure (ps.zip us)):Binds K fd ps []:=by
 obtain⟨oc,od,kV,doc,pm,an,cdv,ct,osl,rfl,lk,hcd⟩:=F.ex;exact .all (h kV doc pm an cdv ct)
theorem a4m {x qual:Str}{st:Stmt}{f:Addr}{oc:Value}{od an:Option Addr}{osl:Array (Option Value)}{kV doc pm cdv ct:Value}(l:K.lookup f=some ⟨oc,od,.func (PySem.W.fnOf x qual (defArgs st) (defBody st) (defScope st) .none kV doc pm an cdv ct),osl⟩)
  (c:PySem.W.codeIn K cdv qual=true) (k:PySem.W.keepIn K (.ref f)=true):Fun K x qual st f (PySem.W.fnOf x qual (defArgs st) (defBody st) (defScope st) .none kV doc pm an cdv ct):=⟨⟨oc,od,kV,doc,pm,an,cdv,ct,osl,rfl,l,c⟩,k⟩
end
theorem a48 {A:Around}{k:Nat}(hr:Room k A):A.units+1<cLine:=xQ (Nat.add_le_add_left (by decide:1<=64) _) hr.units
def Same (H H':Hp):Prop:=∀b o,H b=some o->H' b=some o
theorem Same.refl (H:Hp):Same H H:=fun _ _ h=>h
theorem Same.trans {H H1 H2:Hp}(a:Same H H1)(b:Same H1 H2):Same H H2:=fun c o h=>b c o (a c o h)
section
variable {prog:Program}{w:World}{K:Type} [DecidableEq K] {knd:KeyKind prog w K}{A:Around}{E:Value->Shared->Prop}{s:Shared}
theorem S8 {kvs:List (K×Value)}{k:K}{v:Value}(h:(kvs.any fun kv=>decide (kv.1=k))=true):(stored kvs k v).length=kvs.length:=by
 unfold stored;rw[if_pos h,zH]
theorem T1 {kvs:List (K×Value)}{k:K}{v:Value}(h:¬(kvs.any fun kv=>decide (kv.1=k))=true):(stored kvs k v).length=kvs.length+1:=by
 unfold stored;rw[if_neg h,zO];rfl
theorem a1q {d:Addr}{kvs:List (K×Value)}{k:K}{key v:Value}{Q:Unit->Shared->Prop}(hkey:knd.is k key=true)(hm:s.heap.DictAt knd d kvs kvs.length)(hsz:kvs.length<=sizeLine)
  (hQ:∀h',h'.DictAt knd d (stored kvs k v) (stored kvs k v).length->Heap.SameBut d s.heap h'->Q () {s with heap:=h',toks:=s.toks+1}):wpAny (model prog w) A (dictSet d key v) Q E s:=by
 obtain⟨o,es,ho,hc,hd,hk,hp,hn⟩:=hm;have pl:=hp.length;have hes:es.size<=sizeLine:=by rw[zK] at pl;walk_at "o"
 unfold dictSet
 try with_reducible refine qO ?_
 refine zA (knd.pyHash hkey ?_);unfold dictSetHashed
 try with_reducible refine qO ?_
 refine zA (wpAny_dictFind_of (s:={s with toks:=s.toks+1}) hkey ho hd hk ?_)
 have hidx:(es.findIdx? fun e=>knd.is k e.key)=kvs.findIdx? fun kv=>decide (kv.1=k):=by
  rw[<-hp.findIdx k];obtain⟨l⟩:=es;simp
 cases hi:es.findIdx? fun e=>knd.is k e.key with
 | some i=>
  have old:=any_of_findIdx_some (hidx▸hi);have el:=S8 (v:=v) old;refine zA (jN (zA (wpAny_updateDict (s:={s with toks:=s.toks+1}) ho hd (wpAny_point (hQ _ ⟨_,_,xI _ ho (Obj.isFreed_of_dict (Obj.data_mapDict hd _)),hc.mapDict _,by rw[el];exact Obj.data_mapDict hd _,hk.modify _ _,?_,?_⟩ (qX ..))))))
  ·rw[stored,if_pos old];have hl:(es.toList.findIdx? fun e=>knd.is k e.key)=some i:=by rw[<-hi];obtain⟨l⟩:=es;simp
   have:=hp.modify hn hl v
   obtain⟨l⟩:=es;simpa using this
  ·rw[stored,if_pos old,keys_map_store];exact hn
 | none=>
  have hnot:k∉kvs.map (·.1):=not_mem_of_findIdx_none (hidx▸hi);have hany:¬(kvs.any fun kv=>decide (kv.1=k))=true:=by
   rw[List.any_eq_true];rintro⟨kv,hkv,he⟩;exact hnot (jJ.mpr ⟨kv,hkv,of_decide_eq_true he⟩)
  have el:=T1 (v:=v) hany;refine zA (jN (wpAny_updateDictKeys (hz:=hes) (s:={s with toks:=s.toks+1}) ho hd (hQ _ ⟨_,_,xI _ ho (Obj.isFreed_of_dict (Obj.data_mapDictKeys hd _)),hc.mapDictKeys _,by rw[el];exact Obj.data_mapDictKeys hd _,hk.push hkey _,?_,?_⟩ (qX ..))))
  ·rw[stored,if_neg hany]
   have:=hp.append hkey (knd.hash k) v
   obtain⟨l⟩:=es;simpa using this
  ·rw[stored,if_neg hany,xE,List.nodup_append];exact⟨hn,by simp,fun a ha b hb e=>by simp only[zQ,map_nil,zV] at hb;subst hb;exact hnot (e▸ha)⟩
theorem a1h {d:Addr}{kvs:List (K×Value)}{k:K}{key v:Value}{Q:Unit->Shared->Prop}(hkey:knd.is k key=true)(hm:s.heap.DictAt knd d kvs kvs.length)(hsz:kvs.length<=sizeLine)
  (hQ:∀h',h'.DictAt knd d (stored kvs k v) (stored kvs k v).length->Heap.SameBut d s.heap h'->Q () {s with heap:=h',toks:=s.toks+1}):wpAny (model prog w) A (setItem (.ref d) key v) Q E s:=by
 have ty:=hm.dictOf.typeIs;unfold setItem
 try with_reducible refine qO ?_
 refine zA (wpAny_sequenceKey ty (by decide) ?_)
 refine zA (jI (name:=Str.ofString "__setitem__") ty slot_dict_setitem (jF slot_dict_setitem ty entry_dict_setitem ?_ (args_dict_setitem _ _ _)));show wpAny _ _ (Builtin.Dict.notOrdered "__setitem__" ⟨[.ref d,key,v],[]⟩ >>=_) _ _ s;refine zA (wpAny_notOrdered_dict ty ?_);show wpAny _ _ (dictSet d key v >>=_) _ _ s;exact zA (a1q hkey hm hsz fun h' hm' hs'=>zD ⟨.none,rfl,zD (hQ h' hm' hs')⟩)
end
section
variable {prog:Program}{w:World}{K:Type} [DecidableEq K] {knd:HeapKind prog w K}{A:Around}{E:Value->Shared->Prop}{s:Shared}
def DictLnH (knd:HeapKind prog w K) (h:Heap) (d:Addr) (xs:List (K×Addr×Value)):Prop:=∃o es,h.get? d=some o/\o.ExactDict/\o.data= .dict es xs.length/\es.toList=xs.map (entryOfKey knd)/\(∀x∈xs,knd.is h x.1 x.2.1)/\(xs.map (·.1)).Nodup
theorem DictLnH.of {h:Heap}{d:Addr}{xs:List (K×Addr×Value)}(x:DictLnH knd h d xs):h.DictOfH knd d xs:=let ⟨o,es,a,b,c,e⟩:=x;⟨o,es,_,a,b,c,e⟩
theorem a3g {d a:Addr}{xs:List (K×Addr×Value)}{k:K}{v:Value}{Q:Unit->Shared->Prop}(hu:knd.room A)(hkey:knd.is s.heap k a)(hm:DictLnH knd s.heap d xs)(hsz:xs.length<=sizeLine)
  (hQ:∀h',DictLnH knd h' d (storedH xs k a v)->Heap.SameBut d s.heap h'->Q () {s with heap:=h',toks:=s.toks+knd.draws k}):wpAny (model prog w) A (dictSet d (.ref a) v) Q E s:=by
 obtain⟨o,es,ho,hc,hd,he,his,hn⟩:=hm;have sz:=size_of_entries he;unfold dictSet
 try with_reducible refine qO ?_
 refine zA (knd.pyHash hu hkey ?_);unfold dictSetHashed
 try with_reducible refine qO ?_
 refine zA (wpAny_dictFind_heap (s:={s with toks:=s.toks+knd.draws k}) hu hkey ho hd he his hn ?_ ?_)
 ·intro hno;have hnot:k∉xs.map (·.1):=not_mem_keys_of_get hno;have en:=storedH_new (atKey_none_of_get hno) a v;refine zA (jN (wpAny_updateDictKeys (hz:=by walk_at "o") (s:={s with toks:=s.toks+knd.draws k}) ho hd (hQ _ ⟨_,_,xI _ ho (Obj.isFreed_of_dict (Obj.data_mapDictKeys hd _)),hc.mapDictKeys _,by rw[en,zO];exact Obj.data_mapDictKeys hd _,?_,?_,?_⟩ (qX ..))))
  ·rw[en];simp[he,entryOfKey]
  ·rw[en];intro x hx;rcases jM.mp hx with hx|hx
   ·exact knd.keeps (his x hx) ho hd (qX ..)
   ·rw[zV.mp hx];exact knd.keeps hkey ho hd (qX ..)
  ·rw[en,xE,List.nodup_append];exact⟨hn,by simp,fun x hx y hy e=>by simp only[zQ,map_nil,zV] at hy;subst hy;exact hnot (e▸hx)⟩
 ·intro j p hj;have eo:=storedH_old (atKey_of_get hn hj) a v;refine zA (jN (zA (wpAny_updateDict (s:={s with toks:=s.toks+knd.draws k}) ho hd (wpAny_point (hQ _ ⟨_,_,xI _ ho (Obj.isFreed_of_dict (Obj.data_mapDict hd _)),hc.mapDict _,by rw[eo,zH];exact Obj.data_mapDict hd _,?_,?_,?_⟩ (qX ..))))))
  ·rw[eo]
   have:=modify_map_putAt (entryOfKey knd) (fun e:DictEntry=>{e with val:=v}) k v (fun _ _=>rfl) hn hj
   rw[<-he] at this;obtain⟨l⟩:=es;simpa using this
  ·rw[eo];intro x hx;obtain⟨y,hy,rfl⟩:=jJ.mp hx;unfold putAt
   split<;>exact knd.keeps (his y hy) ho hd (qX ..)
  ·rw[eo,keys_map_putAt];exact hn
theorem a1E {d a:Addr}{xs:List (K×Addr×Value)}{k:K}{v:Value}{Q:Unit->Shared->Prop}(hu:knd.room A.in1)(hkey:knd.is s.heap k a)(hm:DictLnH knd s.heap d xs)(hsz:xs.length<=sizeLine)
  (hQ:∀h',DictLnH knd h' d (storedH xs k a v)->Heap.SameBut d s.heap h'->Q () {s with heap:=h',toks:=s.toks+knd.draws k}):wpAny (model prog w) A (setItem (.ref d) (.ref a) v) Q E s:=by
 have ty:=hm.of.typeIs;unfold setItem
 try with_reducible refine qO ?_
 refine zA (wpAny_sequenceKey ty (by decide) ?_)
 refine zA (jI (name:=Str.ofString "__setitem__") ty slot_dict_setitem (jF slot_dict_setitem ty entry_dict_setitem ?_ (args_dict_setitem _ _ _)));show wpAny _ _ (Builtin.Dict.notOrdered "__setitem__" ⟨[.ref d,.ref a,v],[]⟩ >>=_) _ _ s;refine zA (wpAny_notOrdered_dict ty ?_);show wpAny _ _ (dictSet d (.ref a) v >>=_) _ _ s;exact zA (a3g hu hkey hm hsz fun h' hm' hs'=>zD ⟨.none,rfl,zD (hQ h' hm' hs')⟩)
end
section
variable {κ:Type} [DecidableEq κ]
def valV (kvs:List (κ×V)) (k:κ):Option V:=(kvs.find? fun kv=>decide (kv.1=k)).map (·.2)
def putK (kvs:List (κ×V)) (k:κ) (v:V):List (κ×V):=
 if(kvs.any fun kv=>decide (kv.1=k))=true then kvs.map (fun kv=>if kv.1=k then(kv.1,v) else kv) else kvs++[(k,v)]
theorem K3 {p:κ×V}{r:List (κ×V)}{k:κ}(e:p.1=k):valV (p::r) k=some p.2:=by simp[valV,find?_cons,e]
theorem F3 {p:κ×V}{r:List (κ×V)}{k:κ}(e:¬p.1=k):valV (p::r) k=valV r k:=by simp[valV,find?_cons,e]
theorem a01 (k:κ):∀kvs:List (κ×V),(kvs.any fun kv=>decide (kv.1=k))=(valV kvs k).isSome
 | []=>rfl
 | p::r=>by
  rw[any_cons]
  by_cases e:p.1=k
  ·simp only[K3 e,qH e,Bool.true_or,Option.isSome_some]
  ·rw[F3 e,qB e,Bool.false_or];exact a01 k r
theorem P0 (kvs:List (κ×V))(k:κ)(v:V):(putK kvs k v).length<=kvs.length+1:=by
 unfold putK
 split
 ·rw[zH];walk_at "o"
 ·rw[zO,qC,length_nil];walk_at "o"
theorem RelO.isSome_eq {o:Option V}{u:Option Value}(r:RelO o u):o.isSome=u.isSome:=by
 cases o with
 | none=>cases u with
  | none=>rfl
  | some _=>exact(show False from r).elim
 | some _=>cases u with
  | none=>exact(show False from r).elim
  | some _=>rfl
theorem RelO.getD {o:Option V}{u:Option Value}{d:V}{d':Value}(r:RelO o u)(rd:RelV d d'):RelV (o.getD d) (u.getD d'):=by
 cases o with
 | none=>cases u with
  | none=>exact rd
  | some _=>exact(show False from r).elim
 | some _=>cases u with
  | none=>exact(show False from r).elim
  | some _=>exact r
theorem KV.val {kvs:List (κ×V)}{vs:List (κ×Value)}(r:KV kvs vs)(k:κ):RelO (valV kvs k) (valueAt vs k):=by
 unfold KV at r
 induction r with
 | nil=>exact True.intro
 | @cons p q ps qs h t ih=>
  obtain⟨h1,h2⟩:=h
  by_cases e:p.1=k
  ·have e':q.1=k:=h1.symm.trans e;have b:valueAt (q::qs) k=some q.2:=by simp[valueAt,find?_cons,e']
   rw[K3 e,b];exact h2
  ·have e':¬q.1=k:=fun z=>e (h1.trans z);have b:valueAt (q::qs) k=valueAt qs k:=by simp[valueAt,find?_cons,e']
   rw[F3 e,b];exact ih
theorem KV.any {kvs:List (κ×V)}{vs:List (κ×Value)}(r:KV kvs vs)(k:κ):(kvs.any fun kv=>decide (kv.1=k))=vs.any fun kv=>decide (kv.1=k):=by
 unfold KV at r
 induction r with
 | nil=>rfl
 | cons h t ih=>rw[any_cons,any_cons,ih,h.1]
theorem KV.repl {kvs:List (κ×V)}{vs:List (κ×Value)}(r:KV kvs vs)(k:κ){y:V}{u:Value}(ry:RelV y u):
  KV (kvs.map fun kv=>if kv.1=k then(kv.1,y) else kv) (vs.map fun kv=>if kv.1=k then(kv.1,u) else kv):=by
 unfold KV at r ⊢
 induction r with
 | nil=>exact .nil
 | @cons p q ps qs h t ih=>
  rw[zQ,zQ];refine .cons ?_ ih;obtain⟨h1,h2⟩:=h
  by_cases e:p.1=k
  ·rw[if_pos e,if_pos (h1.symm.trans e)];exact⟨h1,ry⟩
  ·rw[if_neg e,if_neg (fun z=>e (h1.trans z))];exact⟨h1,h2⟩
theorem KV.put {kvs:List (κ×V)}{vs:List (κ×Value)}(r:KV kvs vs)(k:κ){y:V}{u:Value}(ry:RelV y u):KV (putK kvs k y) (stored vs k u):=by
 unfold putK stored;rw[r.any k]
 by_cases e:(vs.any fun kv=>decide (kv.1=k))=true
 ·rw[if_pos e,if_pos e];exact r.repl k ry
 ·rw[if_neg e,if_neg e];exact Paired.snoc r ⟨rfl,ry⟩
theorem KV.length {kvs:List (κ×V)}{vs:List (κ×Value)}(r:KV kvs vs):kvs.length=vs.length:=xM r
end
theorem a1W {P:Program}{w:World}{k:Key}{u:Value}(r:RelV (kV k) u):(mixKind P w).is k u=true:=by
 cases k with
 | inl i=>obtain⟨t,e⟩:=(show ∃t,u=Value.int i t from r);subst e;exact a0N P w i t
 | inr x=>obtain⟨t,e⟩:=(show ∃t,u=Value.str x t from r);subst e;exact a0G P w x t
theorem G6 {P:Program}{w:World}:∀{ks:List Key} {us:List Value},Vals (ks.map kV) us->ItemsAre (mixKind P w) ks us
 | [],_,r=>by rw[map_nil] at r;cases r;exact .nil
 | k::ks,_,r=>by
  rw[zQ] at r;cases r with
  | cons h t=>exact .cons (a1W h) (G6 t)
abbrev KT (K:PySem.W.Frag) (H:Hp):List (List Key×V)->List (List Key×Addr×Value)->Prop:=Paired fun p q=>p.1=q.1/\SqT K H q.2.1 (p.1.map kV)/\RelV p.2 q.2.2
theorem KT.val {K:PySem.W.Frag}{H:Hp}{kvs:List (List Key×V)}{xs:List (List Key×Addr×Value)}(r:KT K H kvs xs)(k:List Key):RelO (valV kvs k) ((atKey xs k).map (·.2)):=by
 induction r with
 | nil=>exact True.intro
 | @cons p q ps qs h t ih=>
  obtain⟨h1,_,h2⟩:=h
  by_cases e:p.1=k
  ·have e':q.1=k:=h1.symm.trans e;have b:atKey (q::qs) k=some q.2:=by simp[atKey,find?_cons,e']
   rw[K3 e,b];exact h2
  ·have e':¬q.1=k:=fun z=>e (h1.trans z);have b:atKey (q::qs) k=atKey qs k:=by simp[atKey,find?_cons,e']
   rw[F3 e,b];exact ih
theorem KT.repl {K:PySem.W.Frag}{H:Hp}{kvs:List (List Key×V)}{xs:List (List Key×Addr×Value)}(r:KT K H kvs xs)(k:List Key){y:V}{u:Value}(ry:RelV y u):
  KT K H (kvs.map fun kv=>if kv.1=k then(kv.1,y) else kv) (xs.map (putAt k u)):=by
 induction r with
 | nil=>exact .nil
 | @cons p q ps qs h t ih=>
  rw[zQ,zQ];refine .cons ?_ ih;obtain⟨h1,h2,h3⟩:=h;unfold putAt
  by_cases e:p.1=k
  ·rw[if_pos e,if_pos (h1.symm.trans e)];exact⟨h1,h2,ry⟩
  ·rw[if_neg e,if_neg (fun z=>e (h1.trans z))];exact⟨h1,h2,h3⟩
theorem KT.put {K:PySem.W.Frag}{H:Hp}{kvs:List (List Key×V)}{xs:List (List Key×Addr×Value)}(r:KT K H kvs xs)(k:List Key){b:Addr}{y:V}{u:Value}(hb:SqT K H b (k.map kV))(ry:RelV y u):
  KT K H (putK kvs k y) (storedH xs k b u):=by
 have e:(kvs.any fun kv=>decide (kv.1=k))=(atKey xs k).isSome:=by
  rw[a01,(r.val k).isSome_eq,isSome_map]
 unfold putK storedH;rw[e]
 by_cases q:(atKey xs k).isSome=true
 ·rw[if_pos q,if_pos q];exact r.repl k ry
 ·rw[if_neg q,if_neg q];exact Paired.snoc r ⟨rfl,hb,ry⟩
theorem KT.keeps {K:PySem.W.Frag}{H H':Hp}{kvs:List (List Key×V)}{xs:List (List Key×Addr×Value)}(r:KT K H kvs xs)(ht:∀b ys,Rd H b (.tup ys)->Rd H' b (.tup ys)):KT K H' kvs xs:=
 Paired.mapP r fun _ _ z=>⟨z.1,z.2.1.imp (ht _ _) id,z.2.2⟩
section
variable {K:PySem.W.Frag}{P:Program}{w:World}{H:Hp}{h:Heap}{a:Addr}
theorem a36 {u:HO}(ok:HOk K P w H h)(e:Rd H a u):ObjOk K P w H h a u:=e.ok ok
theorem dk_rd {kvs:List (Key×V)}(ok:HOk K P w H h)(e:Rd H a (.dK kvs)):kvs.length<=sizeLine/\(a==sysModules)=false/\∃vs,KV kvs vs/\h.DictOf (mixKind P w) a vs:=
 let ⟨z,y,vs,r,d⟩:=(show ObjOk K P w H h a (.dK kvs) from a36 ok e);⟨z,y,vs,r,d.dictOf⟩
theorem dk_at {kvs:List (Key×V)}(ok:HOk K P w H h)(e:H a=some (.dK kvs)):kvs.length<=sizeLine/\(a==sysModules)=false/\∃vs,KV kvs vs/\h.DictAt (mixKind P w) a vs kvs.length:=a36 ok (.inl e)
theorem a6K {kvs:List (Key×V)}(ok:HOk K P w H h)(e:H a=some (.dK kvs)):kvs.length<=sizeLine/\(a==sysModules)=false/\∃vs,KV kvs vs/\h.DictOf (mixKind P w) a vs:=dk_rd ok (.inl e)
theorem a19 {ks:List Key}(kin:K.In h)(ok:HOk K P w H h)(e:SqT K H a (ks.map kV)):(tupleKind (mixKind P w)).is h ks a:=by
 rcases e with e|⟨o,its,n,hk,hc,_,hs,_,r⟩
 ·obtain⟨_,its,r,o,h1,h2,⟨n,h3⟩,_⟩:=(show ObjOk K P w H h a (.tup (ks.map kV)) from e.ok ok);exact⟨o,its.toArray,n,h1,h2,h3,by simpa using G6 r⟩
 ·exact⟨o,its,n,kin a o hk,hc,hs,G6 r⟩
theorem a4X {kvs:List (List Key×V)}(kin:K.In h)(ok:HOk K P w H h)(e:Rd H a (.dT kvs)):kvs.length<=sizeLine/\(a==sysModules)=false/\
  ∃xs,KT K H kvs xs/\DictLnH (tupleKind (mixKind P w)) h a xs:=by
 obtain⟨z,y,xs,r,o,es,h1,h2,h3,h4,h5⟩:=(show ObjOk K P w H h a (.dT kvs) from a36 ok e);refine⟨z,y,xs,r,o,es,h1,h2,by rw[<-xM r];exact h3,h4,fun x hx=>?_,h5⟩
 have all:∀{l:List (List Key×V)} {m:List (List Key×Addr×Value)},KT K H l m->∀x∈m,(tupleKind (mixKind P w)).is h x.1 x.2.1:=by
  intro l m q
  induction q with
  | nil=>intro x hx;exact nomatch hx
  | @cons p q ps qs hq t ih=>
   intro x hx;rcases qG.mp hx with e|hx
   ·subst e;exact a19 kin ok (by rw[<-hq.1];exact hq.2.1)
   ·exact ih x hx
 exact all r x hx
theorem dt_rd {kvs:List (List Key×V)}(kin:K.In h)(ok:HOk K P w H h)(e:Rd H a (.dT kvs)):kvs.length<=sizeLine/\(a==sysModules)=false/\
  ∃xs,KT K H kvs xs/\h.DictOfH (tupleKind (mixKind P w)) a xs:=let ⟨z,y,xs,r,d⟩:=a4X kin ok e;⟨z,y,xs,r,d.of⟩
theorem a64 {kvs:List (List Key×V)}(kin:K.In h)(ok:HOk K P w H h)(e:H a=some (.dT kvs)):kvs.length<=sizeLine/\(a==sysModules)=false/\
  ∃xs,KT K H kvs xs/\h.DictOfH (tupleKind (mixKind P w)) a xs:=dt_rd kin ok (.inl e)
end
def DPut (K:PySem.W.Frag) (H:Hp) (a:Addr) (y v:V) (H':Hp):Prop:=
 (∃kvs k,H a=some (.dK kvs)/\y=kV k/\kvs.length<sizeLine/\H'=upd H a (.dK (putK kvs k v)))\/
 ∃kvs k b,H a=some (.dT kvs)/\y= .ref b/\SqT K H b (k.map kV)/\kvs.length<sizeLine/\H'=upd H a (.dT (putK kvs k v))
theorem DPut.t {K:PySem.W.Frag}{H:Hp}{a b:Addr}{kvs:List (List Key×V)}{k:List Key}{v:V}(e:H a=some (.dT kvs))(eb:SqT K H b (k.map kV))(hl:kvs.length<sizeLine):
  DPut K H a (.ref b) v (upd H a (.dT (putK kvs k v))):=.inr ⟨kvs,k,b,e,rfl,eb,hl,rfl⟩
section
variable {X:Cx}{pins:List (Addr×Obj)}{σ:St}{H:Hp}{s:Shared}{a:Addr}{y v:V}{u r:Value}{o:Option V}{A:Around}{E:Value->Shared->Prop}
theorem Inv.big (I:Inv X pins σ H s):sysModules<s.heap.objs.size:=by
 have h:mainGlobals<s.heap.objs.size:=(I.mod.glob.keeps I.bk).lt;exact Nat.lt_trans (by decide) h
theorem a2J {h':Heap}{t':Nat}{ob:HO}(I:Inv X pins σ H s)(mu:Mut (H a))(hs:Heap.SameBut a s.heap h')(he:∃q,h'.get? a=some q)(new:ObjOk X.K X.prog X.w (upd H a ob) h' a ob):
  Inv X pins σ (upd H a ob) {s with heap:=h',toks:=t'}:=
 I.write (x:=a) (e:=a) mu (.inl rfl) (fun b q hb z=>(hs.2 b hb).trans z) he new
theorem a8t {K:PySem.W.Frag}{P:Program}{w:World}{H':Hp}{h':Heap}{kvs:List (Key×V)}{vs:List (Key×Value)}(z:kvs.length<=sizeLine)(hd:(a==sysModules)=false)(rel:KV kvs vs)(dd:h'.DictAt (mixKind P w) a vs vs.length):
  ObjOk K P w H' h' a (.dK kvs):=⟨z,hd,vs,rel,by rw[rel.length];exact dd⟩
theorem a3C {H':Hp}{Q:Unit->Shared->Prop}(hu:A.units+1<cLine)(I:Inv X pins σ H s)(g:DPut X.K H a y v H')(ry:RelV y u)(rv:RelV v r)(h:∀s',Inv X pins σ H' s'->Q () s'):
  wpAny (model X.prog X.w) A (setItem (.ref a) u r) Q E s:=by
 rcases g with ⟨kvs,k,e,ey,l,eH⟩|⟨kvs,k,b,e,ey,eb,l,eH⟩
 ·subst ey eH;obtain⟨z,hd,vs,rel,dd⟩:=dk_at I.hok e;rw[rel.length] at dd;have hz:vs.length<=sizeLine:=by rw[<-rel.length];exact z
  have hl:(putK kvs k v).length<=sizeLine:=by have:=P0 kvs k v;walk_at "o"
  refine a1h (a1W ry) dd hz fun h' dd' hs=>h _ ?_;have he:∃q,h'.get? a=some q:=let ⟨q,_,hq,_⟩:=dd';⟨q,hq⟩;exact a2J I (by rw[e];exact True.intro) hs he (a8t hl hd (rel.put k rv) dd')
 ·subst ey eH;cases(show u=Value.ref b from ry);obtain⟨z,hd,xs,rel,dd⟩:=a4X I.kIn I.hok (.inl e);have hz:xs.length<=sizeLine:=by rw[<-xM rel];exact z
  have hl:(putK kvs k v).length<=sizeLine:=by have:=P0 kvs k v;walk_at "o"
  refine a1E (tupleKind_room_in1 hu) (a19 I.kIn I.hok eb) dd hz fun h' dd' hs=>h _ ?_;obtain⟨q,es,hq,h2,h3,h4,_,h5⟩:=dd';refine a2J I (by rw[e];exact True.intro) hs ⟨q,hq⟩ ⟨hl,hd,_,(rel.put k eb rv).keeps fun c ys ec=>?_,q,es,hq,h2,by rw[xM (rel.put k eb rv)];exact h3,h4,h5⟩
  exact ec.upd fun z=>by subst z;rcases ec with q|⟨_,q⟩<;>rw[e] at q<;>cases q
end
def sDPut (K:PySem.W.Frag) (td ty tv:TE):TS:=fun D σ H=>tv σ H fun v H1=>td σ H1 fun x H2=>ty σ H2 fun y H3=>∃a H4,x= .ref a/\DPut K H3 a y v H4/\D.nx σ H4
section
variable {X:Cx}{o i value:Expr}{pos pos':Pos}{td ty tv:TE}
theorem a57 (hu:X.A.units+1<cLine)(ho:PE X o td)(hi:PE X i ty)(hv:PE X value tv)(hs:swapsWith value (some (.Subscript o i pos')) pos.line X.env=pure false):
  PS X (.Assign [.Subscript o i pos'] value pos) (sDPut X.K td ty tv):=by
 intro pins s σ H D I h;refine wpAny_Assign_Subscript (thn (hv pins s σ H _ I h) fun r s1 ⟨v,H1,I1,rv,q1⟩=>thn (ho pins s1 σ H1 _ I1 q1) fun u s2 ⟨x,H2,I2,rx,q2⟩=>thn (hi pins s2 σ H2 _ I2 q2) fun iv s3 ⟨y,H3,I3,ry,a,H4,ex,g,q3⟩=>?_) hs;subst ex;obtain rfl:u=Value.ref a:=rx;exact a3C hu I3 g ry rv fun s4 I4=>⟨σ,H4,I4,q3⟩
end
theorem a5D {K:PySem.W.Frag}{P:Program}{w:World}{H:Hp}(h:Heap)(hb:sysModules<h.objs.size):ObjOk K P w H (h.push {cls:=.type "dict",data:=.dict #[]}) h.objs.size (.dT []):=
 ⟨qW _,beq_eq_false_iff_ne.mpr (qN (zW hb)),[],.nil,_, #[],qK _ rfl,⟨rfl,rfl,rfl⟩,rfl,rfl,nodup_nil⟩
def tDNewT:TE:=fun _ H Q=>∀p,H p=none->Q (.ref p) (upd H p (.dT []))
section
variable {X:Cx}{pos:Pos}
theorem a5a:PE X (.Dict [] [] pos) tDNewT:=fun pins s σ H Q I h=>
 wpAny_Dict_empty ⟨.ref s.heap.objs.size,_,I.laid (a:=s.heap.objs.size) (o:=.dT []) (t':=s.toks) (fun _ _ q=>zI _ q) (zC _) (a5D s.heap I.big),rfl,h _ (I.hok.fresh (zC _))⟩
end
end L2
set_option maxHeartbeats 1000000
namespace Z
open PySem PySem.Spec PyProof.Rows L2
theorem obs {α β:Type}{o:Option α}{k:α->Option β}{y:β}(h:o.bind k=some y):∃a,o=some a/\k a=some y:=Option.bind_eq_some_iff.mp h
theorem oms {α β:Type}{o:Option α}{k:α->β}{y:β}(h:o.map k=some y):∃a,o=some a/\k a=y:=Option.map_eq_some_iff.mp h
set_option genInjectivity true in
inductive D where
 | non|bl (b:Bool)|int (i:Int)|str (x:Str)|tup (xs:List D)|lst (xs:List D)|dT (ks:List (List Key)) (xs:List D)|dK (ks:List Key) (xs:List D)|exn (C:Addr)|fn (f:Addr)
set_option genInjectivity true in
inductive W where
 | v (d:D)|o (d:D)|l (d:D)|r (i:Nat)
abbrev Ev:=List (Option W)
abbrev Av:=Addr->Prop
def ExcAt (a C:Addr) (h:Heap):Prop:=∃o vs,h.get? a=some o/\o.cls= .ref C/\o.data= .fields vs
def Mu:HO->Prop
 | .lst _=>True
 | .dT _=>True
 | .dK _=>True
 | _=>False
abbrev Emp:Hp:=fun _=>none
mutual
def Den (K:PySem.W.Frag) (A:Av) (H:Hp):D->V->Prop
 | .non,v=>v= .non
 | .bl b,v=>v= .bl b
 | .int i,v=>v= .int i
 | .str x,v=>v= .str x
 | .tup xs,v=>∃a vs,v= .ref a/\SqT K H a vs/\DenL K A H xs vs
 | .lst xs,v=>∃a vs,v= .ref a/\((H a=some (.lst vs)/\¬A a)\/(∃o,H a=some (.frz o (.lst vs)))\/SqL K Emp a vs)/\DenL K A H xs vs
 | .dT ks xs,v=>∃a vs,v= .ref a/\(H a=some (.dT (ks.zip vs))/\¬A a)/\ks.length=xs.length/\DenL K A H xs vs
 | .dK ks xs,v=>∃a vs,v= .ref a/\(H a=some (.dK (ks.zip vs))/\¬A a)/\ks.length=xs.length/\DenL K A H xs vs
 | .exn C,v=>∃a,v= .ref a/\H a=some (.ext (ExcAt a C))
 | .fn f,v=>v= .ref f
def DenL (K:PySem.W.Frag) (A:Av) (H:Hp):List D->List V->Prop
 | [],vs=>vs=[]
 | d::ds,vs=>∃v r,vs=v::r/\Den K A H d v/\DenL K A H ds r
end
section
variable {K:PySem.W.Frag}{A A' M:Av}{H H':Hp}
structure Go (A A' M:Av) (H H':Hp):Prop where
 k:∀b o,H b=some o->¬M b->H' b=some o
 m:∀b,M b->A b/\∃u,H b=some u/\Mu u
 n:∀b,A' b->A b\/H b=none
theorem Go.not (g:Go A A' M H H'){b:Addr}{u:HO}(e:H b=some u)(n:¬Mu u):H' b=some u:=g.k b u e fun z=>by
 obtain⟨_,u',e',m⟩:=g.m b z;rw[e] at e';cases e';exact n m
theorem Go.lone (g:Go A A' M H H'){b:Addr}{u:HO}(h:H b=some u/\¬A b):H' b=some u/\¬A' b:=
 ⟨g.k b u h.1 fun z=>h.2 (g.m b z).1,fun z=>(g.n b z).elim h.2 fun z=>by rw[h.1] at z;cases z⟩
mutual
theorem j8 (g:Go A A' M H H'):∀(d:D) (v:V),Den K A H d v->Den K A' H' d v
 | .non,v,h=>by rw[Den] at h ⊢;exact h
 | .bl b,v,h=>by rw[Den] at h ⊢;exact h
 | .int i,v,h=>by rw[Den] at h ⊢;exact h
 | .str x,v,h=>by rw[Den] at h ⊢;exact h
 | .tup xs,v,h=>by
  rw[Den] at h ⊢;obtain⟨a,vs,e,q,l⟩:=h;refine⟨a,vs,e,?_,m7 g xs vs l⟩;rcases q with (q|⟨o,q⟩)|q
  ·exact .inl (.inl (g.not q id))
  ·exact .inl (.inr ⟨o,g.not q id⟩)
  ·exact .inr q
 | .lst xs,v,h=>by
  rw[Den] at h ⊢;obtain⟨a,vs,e,q,l⟩:=h;refine⟨a,vs,e,?_,m7 g xs vs l⟩;rcases q with q|⟨o,q⟩|q
  ·exact .inl (g.lone q)
  ·exact .inr (.inl ⟨o,g.not q id⟩)
  ·exact .inr (.inr q)
 | .dT ks xs,v,h=>by
  rw[Den] at h ⊢;obtain⟨a,vs,e,q,hl,l⟩:=h;exact⟨a,vs,e,g.lone q,hl,m7 g xs vs l⟩
 | .dK ks xs,v,h=>by
  rw[Den] at h ⊢;obtain⟨a,vs,e,q,hl,l⟩:=h;exact⟨a,vs,e,g.lone q,hl,m7 g xs vs l⟩
 | .exn C,v,h=>by
  rw[Den] at h ⊢;obtain⟨a,e,q⟩:=h;exact⟨a,e,g.not q id⟩
 | .fn _,v,h=>by rw[Den] at h ⊢;exact h
theorem m7 (g:Go A A' M H H'):∀(ds:List D) (vs:List V),DenL K A H ds vs->DenL K A' H' ds vs
 | [],vs,h=>by rw[DenL] at h ⊢;exact h
 | d::ds,vs,h=>by
  rw[DenL] at h ⊢;obtain⟨v,r,e,q,l⟩:=h;exact⟨v,r,e,j8 g d v q,m7 g ds r l⟩
end
theorem a0d (s:Same H H'):Go A A (fun _=>False) H H':=⟨fun b o e _=>s b o e,fun _ z=>z.elim,fun _ z=>.inl z⟩
theorem n5 (h:∀b,A' b->A b):Go A A' (fun _=>False) H H:=⟨fun _ _ e _=>e,fun _ z=>z.elim,fun b z=>.inl (h b z)⟩
theorem a4p (s:Same H H'){d:D}{v:V}(h:Den K A H d v):Den K A H' d v:=j8 (a0d s) d v h
theorem a3c (s:Same H H'){d:List D}{v:List V}(h:DenL K A H d v):DenL K A H' d v:=m7 (a0d s) d v h
theorem b9 {d:D}{ds:List D}{v:V}{vs:List V}(h:Den K A H d v)(t:DenL K A H ds vs):DenL K A H (d::ds) (v::vs):=by rw[DenL];exact⟨v,vs,rfl,h,t⟩
theorem c9:DenL K A H [] []:=by rw[DenL]
theorem o7:∀{ds es:List D} {vs ws:List V},DenL K A H ds vs->DenL K A H es ws->DenL K A H (ds++es) (vs++ws)
 | [],_,_,_,h,t=>by rw[DenL] at h;subst h;exact t
 | d::ds,_,_,_,h,t=>by
  rw[DenL] at h;obtain⟨v,r,rfl,q,l⟩:=h;exact b9 q (o7 l t)
theorem a8:∀{ds:List D} {vs:List V},DenL K A H ds vs->ds.length=vs.length
 | [],_,h=>by rw[DenL] at h;subst h;rfl
 | d::ds,_,h=>by
  rw[DenL] at h;obtain⟨v,r,rfl,q,l⟩:=h;rw[qC,qC,a8 l]
theorem r6:∀{ds:List D} {vs:List V} {i:Nat} {d:D},DenL K A H ds vs->ds[i]? =some d->∃v,vs[i]? =some v/\Den K A H d v
 | [],_,_,_,_,e=>by simp at e
 | d::ds,_,0,_,h,e=>by
  rw[DenL] at h;obtain⟨v,r,rfl,q,l⟩:=h;simp at e;subst e;exact⟨v,rfl,q⟩
 | d::ds,_,i+1,x,h,e=>by
  rw[DenL] at h;obtain⟨v,r,rfl,q,l⟩:=h;obtain⟨u,h1,h2⟩:=r6 (i:=i) (d:=x) l (by simpa using e)
  exact⟨u,by simpa using h1,h2⟩
theorem a02 {d:D}{v:V}(hd:Den K A H d v):∀{ds:List D} {vs:List V} (i:Nat),DenL K A H ds vs->DenL K A H (ds.set i d) (vs.set i v)
 | [],_,_,h=>by rw[DenL] at h;subst h;exact c9
 | _::_,_,0,h=>by
  rw[DenL] at h;obtain⟨v,r,rfl,q,l⟩:=h;exact b9 hd l
 | _::_,_,i+1,h=>by
  rw[DenL] at h;obtain⟨v,r,rfl,q,l⟩:=h;exact b9 q (a02 hd i l)
theorem X6:∀{ds:List D} {vs:List V} (n:Nat),DenL K A H ds vs->DenL K A H (ds.take n) (vs.take n)
 | [],_,n,h=>by rw[DenL] at h;subst h;simp;exact c9
 | d::ds,_,0,h=>by simp;exact c9
 | d::ds,_,n+1,h=>by
  rw[DenL] at h;obtain⟨v,r,rfl,q,l⟩:=h;exact b9 q (X6 n l)
theorem U5:∀{ds:List D} {vs:List V} (n:Nat),DenL K A H ds vs->DenL K A H (ds.drop n) (vs.drop n)
 | [],_,n,h=>by rw[DenL] at h;subst h;simp;exact c9
 | d::ds,_,0,h=>h
 | d::ds,_,n+1,h=>by
  rw[DenL] at h;obtain⟨v,r,rfl,q,l⟩:=h;exact U5 n l
theorem C5 {i:Int}{v:V}:Den K A H (.int i) v↔v= .int i:=by rw[Den]
theorem Q4 {i:Bool}{v:V}:Den K A H (.bl i) v↔v= .bl i:=by rw[Den]
theorem a58 {v:V}:Den K A H .non v↔v= .non:=by rw[Den]
theorem Z3 {i:Str}{v:V}:Den K A H (.str i) v↔v= .str i:=by rw[Den]
theorem denL1 {d:D}{vs:List V}(l:DenL K A H [d] vs):∃v,vs=[v]/\Den K A H d v:=by
 rw[DenL] at l;obtain⟨v,r,rfl,h,l⟩:=l;rw[DenL] at l;subst l;exact⟨v,rfl,h⟩
theorem denL2 {d e:D}{vs:List V}(l:DenL K A H [d,e] vs):∃v u,vs=[v,u]/\Den K A H d v/\Den K A H e u:=by
 rw[DenL] at l;obtain⟨v,r,rfl,h,l⟩:=l;obtain⟨u,rfl,h'⟩:=denL1 l;exact⟨v,u,rfl,h,h'⟩
end
mutual
def lf:D->Bool
 | .tup xs=>lfL xs
 | .lst _=>false
 | .dT _ _=>false
 | .dK _ _=>false
 | _=>true
def lfL:List D->Bool
 | []=>true
 | d::ds=>lf d&&lfL ds
end
section
variable {K:PySem.W.Frag}{A A':Av}{H H':Hp}
mutual
theorem a1r (g:∀b o,H b=some o->¬Mu o->H' b=some o):∀(d:D) (v:V),lf d=true->Den K A H d v->Den K A' H' d v
 | .non,v,_,h=>by rw[Den] at h ⊢;exact h
 | .bl b,v,_,h=>by rw[Den] at h ⊢;exact h
 | .int i,v,_,h=>by rw[Den] at h ⊢;exact h
 | .str x,v,_,h=>by rw[Den] at h ⊢;exact h
 | .tup xs,v,f,h=>by
  rw[Den] at h ⊢;obtain⟨a,vs,e,q,l⟩:=h;refine⟨a,vs,e,?_,L6 g xs vs (by rw[lf] at f;exact f) l⟩
  rcases q with (q|⟨o,q⟩)|q
  ·exact .inl (.inl (g _ _ q id))
  ·exact .inl (.inr ⟨o,g _ _ q id⟩)
  ·exact .inr q
 | .lst xs,v,f,h=>by rw[lf] at f;cases f
 | .dT _ xs,v,f,h=>by rw[lf] at f;cases f
 | .dK _ xs,v,f,h=>by rw[lf] at f;cases f
 | .exn _,v,_,h=>by rw[Den] at h ⊢;obtain⟨a,e,q⟩:=h;exact⟨a,e,g _ _ q id⟩
 | .fn _,v,_,h=>by rw[Den] at h ⊢;exact h
theorem L6 (g:∀b o,H b=some o->¬Mu o->H' b=some o):∀(d:List D) (v:List V),lfL d=true->DenL K A H d v->DenL K A' H' d v
 | [],v,_,h=>by rw[DenL] at h ⊢;exact h
 | d::ds,v,f,h=>by
  rw[lfL,jQ] at f;rw[DenL] at h ⊢;obtain⟨u,r,e,q,l⟩:=h;exact⟨u,r,e,a1r g d u f.1 q,L6 g ds r f.2 l⟩
end
end
def Obj (K:PySem.W.Frag) (A:Av) (H:Hp) (a:Addr):D->Prop
 | .lst xs=>∃vs,H a=some (.lst vs)/\DenL K A H xs vs
 | .dT ks xs=>∃vs,H a=some (.dT (ks.zip vs))/\ks.length=xs.length/\DenL K A H xs vs
 | .dK ks xs=>∃vs,H a=some (.dK (ks.zip vs))/\ks.length=xs.length/\DenL K A H xs vs
 | _=>False
def DenR (K:PySem.W.Frag) (A:Av) (H:Hp):D->V->Prop
 | .lst xs,v=>∃a vs,v= .ref a/\SqL K H a vs/\DenL K A H xs vs
 | .dT ks xs,v=>∃a vs,v= .ref a/\H a=some (.dT (ks.zip vs))/\ks.length=xs.length/\DenL K A H xs vs
 | .dK ks xs,v=>∃a vs,v= .ref a/\H a=some (.dK (ks.zip vs))/\ks.length=xs.length/\DenL K A H xs vs
 | d,v=>Den K A H d v
section
variable {K:PySem.W.Frag}{A A' M:Av}{H H':Hp}{d:D}{v:V}{a:Addr}
theorem n6 (g:Go A A' M H H')(hk:H' a=H a)(h:Obj K A H a d):Obj K A' H' a d:=by
 cases d with
 | lst xs=>obtain⟨vs,e,l⟩:=h;exact⟨vs,hk.trans e,m7 g _ _ l⟩
 | dT ks xs=>obtain⟨vs,e,hl,l⟩:=h;exact⟨vs,hk.trans e,hl,m7 g _ _ l⟩
 | dK ks xs=>obtain⟨vs,e,hl,l⟩:=h;exact⟨vs,hk.trans e,hl,m7 g _ _ l⟩
 | _=>exact h
theorem z3 (h:Obj K A H a d):∃u,H a=some u/\Mu u:=by
 cases d with
 | lst xs=>obtain⟨vs,e,l⟩:=h;exact⟨_,e,trivial⟩
 | dT ks xs=>obtain⟨vs,e,hl,l⟩:=h;exact⟨_,e,trivial⟩
 | dK ks xs=>obtain⟨vs,e,hl,l⟩:=h;exact⟨_,e,trivial⟩
 | _=>exact h.elim
theorem L1 (h:Obj K A H a d)(n:¬A a):Den K A H d (.ref a):=by
 cases d with
 | lst xs=>obtain⟨vs,e,l⟩:=h;rw[Den];exact⟨a,vs,rfl,.inl ⟨e,n⟩,l⟩
 | dT ks xs=>obtain⟨vs,e,hl,l⟩:=h;rw[Den];exact⟨a,vs,rfl,⟨e,n⟩,hl,l⟩
 | dK ks xs=>obtain⟨vs,e,hl,l⟩:=h;rw[Den];exact⟨a,vs,rfl,⟨e,n⟩,hl,l⟩
 | _=>exact h.elim
theorem obj_r (h:Obj K A H a d):DenR K A H d (.ref a):=by
 cases d with
 | lst xs=>obtain⟨vs,e,l⟩:=h;exact⟨a,vs,rfl,.inl (.inl e),l⟩
 | dT ks xs=>obtain⟨vs,e,hl,l⟩:=h;exact⟨a,vs,rfl,e,hl,l⟩
 | dK ks xs=>obtain⟨vs,e,hl,l⟩:=h;exact⟨a,vs,rfl,e,hl,l⟩
 | _=>exact h.elim
theorem A9 (h:Den K A H d v):DenR K A H d v:=by
 cases d with
 | lst xs=>
  rw[Den] at h;obtain⟨a,vs,e,q,l⟩:=h;refine⟨a,vs,e,?_,l⟩;rcases q with q|⟨o,q⟩|(q|⟨o,q⟩)|q
  ·exact .inl (.inl q.1)
  ·exact .inl (.inr ⟨o,q⟩)
  ·cases q
  ·cases q
  ·exact .inr q
 | dT ks xs=>rw[Den] at h;obtain⟨a,vs,e,q,l⟩:=h;exact⟨a,vs,e,q.1,l⟩
 | dK ks xs=>rw[Den] at h;obtain⟨a,vs,e,q,l⟩:=h;exact⟨a,vs,e,q.1,l⟩
 | _=>exact h
end
def W.own:W->Option D
 | .o d=>some d
 | .l d=>some d
 | _=>none
def Ow (ρ:Ev) (σ:L2.St):Av:=fun b=>∃(i:Nat) (w:W) (d:D),ρ[i]? =some (some w)/\w.own=some d/\σ[i]? =some (some (V.ref b))
abbrev AvO (O:Av) (ρ:Ev) (σ:L2.St):Av:=fun b=>O b\/Ow ρ σ b
def SlotOk (K:PySem.W.Frag) (A:Av) (H:Hp):W->V->Prop
 | .v d,v=>Den K A H d v
 | .o d,v=>∃a,v= .ref a/\Obj K A H a d
 | .l d,v=>∃a,v= .ref a/\Obj K A H a d
 | .r _,_=>False
def hz (X:Cx) (L:List (Option Nat×Addr)):Hp:=fun b=>if(none,b)∈L then none else X.H₀ b
structure Rep (X:Cx) (P:List (D×V)) (O:Av) (L:List (Option Nat×Addr)) (ρ:Ev) (σ:L2.St) (H:Hp):Prop where
 same:∀b o,X.H₀ b=some o->(∀i,(i,b)∉L)->H b=some o
 amb:∀b,O b->(∃o,X.H₀ b=some o)/\∀i,(i,b)∉L
 len:ρ.length=σ.length
 slot:∀(i:Nat) (w:W),ρ[i]? =some (some w)->∃v,σ[i]? =some (some v)/\SlotOk X.K (AvO O ρ σ) H w v
 inj:∀(i j:Nat) (w w':W) (d d':D) (b:Addr),ρ[i]? =some (some w)->w.own=some d->σ[i]? =some (some (.ref b))->ρ[j]? =some (some w')->w'.own=some d'->σ[j]? =some (some (.ref b))->i=j
 new:∀(i:Nat) (d:D) (b:Addr),ρ[i]? =some (some (.o d))->σ[i]? =some (some (.ref b))->hz X L b=none
 lnt:∀(i:Nat) (d:D),ρ[i]? =some (some (.l d))->∃b,σ[i]? =some (some (.ref b))/\(some i,b)∈L
 lnd:∀(i:Nat) (b:Addr),(some i,b)∈L->∃d,ρ[i]? =some (some (.l d))/\σ[i]? =some (some (.ref b))
 prot:∀p∈P,Den X.K (AvO O ρ σ) H p.1 p.2
 gvl:∀b,(none,b)∈L->∃(i:Nat) (a:Addr),(some i,a)∈L
section
variable {X:Cx}{P:List (D×V)}{O:Av}{L:List (Option Nat×Addr)}{ρ:Ev}{σ:L2.St}{H H':Hp}
theorem a1O {K:PySem.W.Frag}{A:Av}{H:Hp}{w:W}{d:D}{v:V}(h:SlotOk K A H w v)(e:w.own=some d):∃a,v= .ref a/\Obj K A H a d:=by
 cases w<;>simp only[W.own] at e<;>first|(cases e;exact h)|cases e
theorem Rep.obj (r:Rep X P O L ρ σ H){i:Nat}{w:W}{d:D}(e:ρ[i]? =some (some w))(ew:w.own=some d):∃a,σ[i]? =some (some (.ref a))/\Obj X.K (AvO O ρ σ) H a d:=by
 obtain⟨v,h1,h2⟩:=r.slot i w e;obtain⟨a,rfl,h3⟩:=a1O h2 ew;exact⟨a,h1,h3⟩
theorem Rep.owMu (r:Rep X P O L ρ σ H){b:Addr}(z:Ow ρ σ b):∃u,H b=some u/\Mu u:=by
 obtain⟨i,w,d,e1,e2,e3⟩:=z;obtain⟨a,h1,h2⟩:=r.obj e1 e2;rw[e3] at h1;cases h1;exact z3 h2
theorem Rep.ambN (r:Rep X P O L ρ σ H){b:Addr}(z:O b):¬Ow ρ σ b:=fun⟨i,w,d,e1,e2,e3⟩=>by
 obtain⟨⟨o,h0⟩,hl⟩:=r.amb b z;cases w with
 | o d'=>have:=r.new i d' b e1 e3;unfold hz at this;rw[if_neg (hl none),h0] at this;cases this
 | l d'=>obtain⟨c,h1,h2⟩:=r.lnt i d' e1;rw[e3] at h1;cases h1;exact hl (some i) h2
 | _=>cases e2
theorem Rep.there (r:Rep X P O L ρ σ H){b:Addr}(z:AvO O ρ σ b):∃o,H b=some o:=by
 rcases z with z|z
 ·obtain⟨⟨o,h0⟩,hl⟩:=r.amb b z;exact⟨o,r.same b o h0 hl⟩
 ·obtain⟨u,e,_⟩:=r.owMu z;exact⟨u,e⟩
theorem Rep.fresh (r:Rep X P O L ρ σ H){b:Addr}(n:H b=none):¬AvO O ρ σ b:=fun z=>by obtain⟨o,e⟩:=r.there z;rw[n] at e;cases e
theorem Rep.fresh0 (r:Rep X P O L ρ σ H){b:Addr}(n:H b=none):hz X L b=none:=by
 unfold hz
 split
 ·rfl
 ·rename_i hg;cases q:X.H₀ b with
  | none=>rfl
  | some o=>
   have:H b=some o:=r.same b o q fun i e=>by
    cases i with
    | none=>exact hg e
    | some i=>
     obtain⟨d,h1,h2⟩:=r.lnd i b e;obtain⟨a,h3,h4⟩:=r.obj h1 rfl;rw[h2] at h3;cases h3;obtain⟨u,e,_⟩:=z3 h4;rw[n] at e;cases e
   rw[n] at this;cases this
theorem B3 {K:PySem.W.Frag}{A A' M:Av}{H H':Hp}(g:Go A A' M H H'){w:W}{v:V}(hk:∀a d,w.own=some d->v= .ref a->H' a=H a)(h:SlotOk K A H w v):SlotOk K A' H' w v:=by
 cases w with
 | v d=>exact j8 g _ _ h
 | o d=>obtain⟨a,e,q⟩:=h;exact⟨a,e,n6 g (hk a d rfl e) q⟩
 | l d=>obtain⟨a,e,q⟩:=h;exact⟨a,e,n6 g (hk a d rfl e) q⟩
 | r i=>exact h
theorem Rep.grow (r:Rep X P O L ρ σ H)(s:Same H H'):Rep X P O L ρ σ H' where
 same:=fun b o e hl=>s b o (r.same b o e hl)
 amb:=r.amb
 len:=r.len
 slot:=fun i w e=>by
  obtain⟨v,h1,h2⟩:=r.slot i w e;refine⟨v,h1,B3 (a0d s) (fun a d ew ev=>?_) h2⟩;subst ev;obtain⟨b,h3,h4⟩:=r.obj e ew;rw[h1] at h3;cases h3;obtain⟨u,eu,_⟩:=z3 h4;rw[eu,s _ _ eu]
 inj:=r.inj
 new:=r.new
 lnt:=r.lnt
 lnd:=r.lnd
 prot:=fun p hp=>a4p s (r.prot p hp)
 gvl:=r.gvl
theorem Rep.more {p:D×V}(r:Rep X P O L ρ σ H)(h:Den X.K (AvO O ρ σ) H p.1 p.2):Rep X (p::P) O L ρ σ H:=
 ⟨r.same,r.amb,r.len,r.slot,r.inj,r.new,r.lnt,r.lnd,fun q hq=>(qG.mp hq).elim (fun e=>by rw[e];exact h) (r.prot q),r.gvl⟩
theorem Rep.less {p:D×V}(r:Rep X (p::P) O L ρ σ H):Rep X P O L ρ σ H:=
 ⟨r.same,r.amb,r.len,r.slot,r.inj,r.new,r.lnt,r.lnd,fun q hq=>r.prot q (zN _ hq),r.gvl⟩
theorem Rep.head {p:D×V}(r:Rep X (p::P) O L ρ σ H):Den X.K (AvO O ρ σ) H p.1 p.2:=r.prot p zR
theorem j9 {α:Type}{l:List α}{i j:Nat}{x y:α}(e:(l.set i x)[j]? =some y):(j=i/\y=x/\i<l.length)\/(j≠i/\l[j]? =some y):=by
 by_cases q:i=j
 ·subst q;rw[List.getElem?_set,if_pos rfl] at e;split at e
  ·cases e;rename_i h;exact .inl ⟨rfl,rfl,h⟩
  ·cases e
 ·rw[zL q] at e;exact .inr ⟨qN q,e⟩
theorem l8 {α:Type}{l:List α}{i:Nat}{x:α}(h:i<l.length):(l.set i x)[i]? =some x:=by rw[List.getElem?_set,if_pos rfl,if_pos h]
def freeSlot (ρ:Ev) (i:Nat):Bool:=match ρ[i]? with
 | some (some (.l _))=>false
 | _=>true
theorem Rep.put (r:Rep X P O L ρ σ H){i:Nat}{d:D}{v:V}(hf:freeSlot ρ i=true)(h:Den X.K (AvO O ρ σ) H d v):Rep X P O L (ρ.set i (some (.v d))) (σ.set i (some v)) H:=by
 have sub:∀b,AvO O (ρ.set i (some (.v d))) (σ.set i (some v)) b->AvO O ρ σ b:=fun b z=>by
  rcases z with z|⟨j,w,c,e1,e2,e3⟩
  ·exact .inl z
  ·rcases j9 e1 with ⟨rfl,z,_⟩|⟨n,e1⟩
   ·cases z;cases e2
   ·rw[zL (qN n)] at e3;exact .inr ⟨j,w,c,e1,e2,e3⟩
 have g:=n5 (H:=H) sub;have st:∀{j:Nat} {w:W} {c:D},(ρ.set i (some (.v d)))[j]? =some (some w)->w.own=some c->j≠i/\ρ[j]? =some (some w):=fun{j w c} e1 e2=>by
  rcases j9 e1 with ⟨rfl,z,_⟩|z
  ·cases z;cases e2
  ·exact z
 refine⟨r.same,r.amb,by rw[length_set,length_set];exact r.len,fun j w e=>?_,fun j k w w' c c' b e1 e2 e3 e4 e5 e6=>?_,fun j c b e1 e2=>?_,fun j c e=>?_,fun j b e=>?_,fun p hp=>j8 g _ _ (r.prot p hp),r.gvl⟩
 ·rcases j9 e with ⟨rfl,z,hl⟩|⟨n,e⟩
  ·cases z;exact⟨v,l8 (by rw[<-r.len];exact hl),j8 g _ _ h⟩
  ·obtain⟨u,h1,h2⟩:=r.slot j w e;exact⟨u,by rw[zL (qN n)];exact h1,B3 g (fun _ _ _ _=>rfl) h2⟩
 ·obtain⟨n1,e1⟩:=st e1 e2;obtain⟨n2,e4⟩:=st e4 e5;rw[zL (qN n1)] at e3;rw[zL (qN n2)] at e6;exact r.inj j k w w' c c' b e1 e2 e3 e4 e5 e6
 ·obtain⟨n1,e1⟩:=st (c:=c) e1 rfl;rw[zL (qN n1)] at e2;exact r.new j c b e1 e2
 ·obtain⟨n1,e1⟩:=st (c:=c) e rfl;rw[zL (qN n1)];exact r.lnt j c e1
 ·obtain⟨c,h1,h2⟩:=r.lnd j b e;have n:i≠j:=fun z=>by subst z;unfold freeSlot at hf;rw[h1] at hf;cases hf
  exact⟨c,by rw[zL n];exact h1,by rw[zL n];exact h2⟩
theorem Rep.putO (r:Rep X P O L ρ σ H)(s:Same H H'){i:Nat}{d:D}{a:Addr}(hf:freeSlot ρ i=true)(hn:H a=none)(h:Obj X.K (fun b=>AvO O ρ σ b\/b=a) H' a d):Rep X P O L (ρ.set i (some (.o d))) (σ.set i (some (.ref a))) H':=by
 have nA:=r.fresh hn;have sub:∀b,AvO O (ρ.set i (some (.o d))) (σ.set i (some (.ref a))) b->AvO O ρ σ b\/b=a:=fun b z=>by
  rcases z with z|⟨j,w,c,e1,e2,e3⟩
  ·exact .inl (.inl z)
  ·rcases j9 e1 with ⟨rfl,z,hl⟩|⟨n,e1⟩
   ·rw[l8 (by rw[<-r.len];exact hl)] at e3;cases e3;exact .inr rfl
   ·rw[zL (qN n)] at e3;exact .inl (.inr ⟨j,w,c,e1,e2,e3⟩)
 have g:Go (AvO O ρ σ) (AvO O (ρ.set i (some (.o d))) (σ.set i (some (.ref a)))) (fun _=>False) H H':=⟨fun b o e _=>s b o e,fun _ z=>z.elim,fun b z=>(sub b z).imp id fun z=>by rw[z];exact hn⟩
 have old:∀{j:Nat} {w:W} {b:Addr},ρ[j]? =some (some w)->σ[j]? =some (some (.ref b))->w.own≠none->b≠a:=fun{j w b} e1 e2 e3 z=>by
  cases q:w.own with
  | none=>exact e3 q
  | some c=>exact nA (.inr ⟨j,w,c,e1,q,by rw[<-z];exact e2⟩)
 refine⟨fun b o e hl=>s b o (r.same b o e hl),r.amb,by rw[length_set,length_set];exact r.len,fun j w e=>?_,fun j k w w' c c' b e1 e2 e3 e4 e5 e6=>?_,fun j c b e1 e2=>?_,fun j c e=>?_,fun j b e=>?_,fun p hp=>j8 g _ _ (r.prot p hp),r.gvl⟩
 ·rcases j9 e with ⟨rfl,z,hl⟩|⟨n,e⟩
  ·cases z;exact⟨.ref a,l8 (by rw[<-r.len];exact hl),a,rfl,n6 (n5 sub) rfl h⟩
  ·obtain⟨u,h1,h2⟩:=r.slot j w e;refine⟨u,by rw[zL (qN n)];exact h1,B3 g (fun b c ec eb=>?_) h2⟩
   subst eb;obtain⟨o,eo,_⟩:=r.owMu ⟨j,w,c,e,ec,h1⟩;rw[eo,s _ _ eo]
 ·rcases j9 e1 with ⟨rfl,z,hl⟩|⟨n1,e1⟩
  ·rw[l8 (by rw[<-r.len];exact hl)] at e3;cases e3
   rcases j9 e4 with ⟨rfl,_,_⟩|⟨n2,e4⟩
   ·rfl
   ·rw[zL (qN n2)] at e6;exact absurd rfl (old e4 e6 (by rw[e5];exact nofun))
  ·rw[zL (qN n1)] at e3;have f1:=old e1 e3 (by rw[e2];exact nofun)
   rcases j9 e4 with ⟨rfl,_,hl⟩|⟨n2,e4⟩
   ·rw[l8 (by rw[<-r.len];exact hl)] at e6;cases e6
    exact absurd rfl f1
   ·rw[zL (qN n2)] at e6;exact r.inj j k w w' c c' b e1 e2 e3 e4 e5 e6
 ·rcases j9 e1 with ⟨rfl,z,hl⟩|⟨n1,e1⟩
  ·rw[l8 (by rw[<-r.len];exact hl)] at e2;cases e2;exact r.fresh0 hn
  ·rw[zL (qN n1)] at e2;exact r.new j c b e1 e2
 ·rcases j9 e with ⟨rfl,z,hl⟩|⟨n1,e⟩
  ·cases z
  ·rw[zL (qN n1)];exact r.lnt j c e
 ·obtain⟨c,h1,h2⟩:=r.lnd j b e;have n:i≠j:=fun z=>by subst z;unfold freeSlot at hf;rw[h1] at hf;cases hf
  exact⟨c,by rw[zL n];exact h1,by rw[zL n];exact h2⟩
def setOwn (ρ:Ev) (i:Nat) (d:D):Ev:=match ρ[i]? with
 | some (some (.l _))=>ρ.set i (some (.l d))
 | _=>ρ.set i (some (.o d))
def ownAt (ρ:Ev) (i:Nat):Option D:=match ρ[i]? with
 | some (some w)=>w.own
 | _=>none
theorem l6 {ρ:Ev}{i:Nat}{c:D}(e:ownAt ρ i=some c):∃w,ρ[i]? =some (some w)/\w.own=some c:=by
 unfold ownAt at e;split at e
 ·rename_i w q;exact⟨w,q,e⟩
 ·cases e
theorem J6 {ρ:Ev}{i:Nat}{c d:D}(e:ownAt ρ i=some c):∃w,w.own=some d/\setOwn ρ i d=ρ.set i (some w)/\((∃x,w= .l x)↔∃x,ρ[i]? =some (some (.l x))):=by
 obtain⟨w,q,e⟩:=l6 e;unfold setOwn;cases w with
 | v d=>cases e
 | r d=>cases e
 | o x=>rw[q];exact⟨.o d,rfl,rfl,by simp⟩
 | l x=>rw[q];exact⟨.l d,rfl,rfl,by simp⟩
theorem G8 {ρ:Ev}{σ:L2.St}{i:Nat}{c d:D}(e:ownAt ρ i=some c)(b:Addr):Ow (setOwn ρ i d) σ b↔Ow ρ σ b:=by
 obtain⟨w,h1,h2,_⟩:=J6 (d:=d) e;obtain⟨w0,q,e0⟩:=l6 e;rw[h2];constructor
 ·rintro⟨j,w',c',e1,e2,e3⟩;rcases j9 e1 with ⟨rfl,z,_⟩|⟨n,e1⟩
  ·exact⟨j,w0,c,q,e0,e3⟩
  ·exact⟨j,w',c',e1,e2,e3⟩
 ·rintro⟨j,w',c',e1,e2,e3⟩
  by_cases n:j=i
  ·subst n;exact⟨j,w,d,l8 (zE.mp q).1,h1,e3⟩
  ·exact⟨j,w',c',by rw[zL (qN n)];exact e1,e2,e3⟩
theorem Rep.mut (r:Rep X P O L ρ σ H){i:Nat}{a:Addr}{c d:D}(e:ownAt ρ i=some c)(ea:σ[i]? =some (some (.ref a)))(hk:∀b o,H b=some o->b≠a->H' b=some o)(h:Obj X.K (AvO O ρ σ) H' a d):
  Rep X P O L (setOwn ρ i d) σ H':=by
 obtain⟨w,h1,h2,h3⟩:=J6 (d:=d) e;obtain⟨w0,q,e0⟩:=l6 e;have av:AvO O (setOwn ρ i d) σ=AvO O ρ σ:=funext fun b=>propext (or_congr Iff.rfl (G8 e b));have ma:Ow ρ σ a:=⟨i,w0,c,q,e0,ea⟩;have g:Go (AvO O ρ σ) (AvO O ρ σ) (fun b=>b=a) H H':=⟨hk,fun b z=>by rw[z];exact⟨.inr ma,r.owMu ma⟩,fun b z=>.inl z⟩
 have st:∀{j:Nat} {w':W} {c':D},(setOwn ρ i d)[j]? =some (some w')->w'.own=some c'->∃w'' c'',ρ[j]? =some (some w'')/\w''.own=some c'':=fun{j w' c'} e1 e2=>by
  rw[h2] at e1;rcases j9 e1 with ⟨rfl,_,_⟩|⟨_,e1⟩
  ·exact⟨w0,c,q,e0⟩
  ·exact⟨w',c',e1,e2⟩
 refine⟨fun b o eb hl=>hk b o (r.same b o eb hl) fun z=>?_,r.amb,by rw[h2,length_set];exact r.len,fun j w' e'=>?_,fun j k w1 w2 c1 c2 b e1 e2 e3 e4 e5 e6=>?_,fun j c' b e1 e2=>?_,fun j c' e'=>?_,fun j b e'=>?_,fun p hp=>by rw[av];exact j8 g _ _ (r.prot p hp),r.gvl⟩
 ·subst z;cases w0 with
  | o x=>have:=r.new i x b q ea;unfold hz at this;rw[if_neg (hl none),eb] at this;cases this
  | l x=>obtain⟨c',q1,q2⟩:=r.lnt i x q;rw[ea] at q1;cases q1;exact hl (some i) q2
  | _=>cases e0
 ·rw[av];rw[h2] at e';rcases j9 e' with ⟨rfl,z,_⟩|⟨n,e'⟩
  ·cases z;refine⟨.ref a,ea,?_⟩;cases w with
   | o x=>cases h1;exact⟨a,rfl,h⟩
   | l x=>cases h1;exact⟨a,rfl,h⟩
   | _=>cases h1
  ·obtain⟨u,q1,q2⟩:=r.slot j w' e';refine⟨u,q1,B3 g (fun b c' ec eb=>?_) q2⟩;subst eb;have nb:b≠a:=fun z=>n (r.inj j i w' w0 c' c a e' ec (by rw[<-z];exact q1) q e0 ea)
   obtain⟨o,eo,_⟩:=r.owMu ⟨j,w',c',e',ec,q1⟩;rw[eo,hk _ _ eo nb]
 ·obtain⟨u1,v1,q1,q2⟩:=st e1 e2;obtain⟨u2,v2,q3,q4⟩:=st e4 e5;exact r.inj j k u1 u2 v1 v2 b q1 q2 e3 q3 q4 e6
 ·rw[h2] at e1;rcases j9 e1 with ⟨rfl,z,_⟩|⟨n,e1⟩
  ·cases z;cases w0 with
   | o x=>exact r.new j x b q e2
   | l x=>exact absurd (h3.mpr ⟨x,q⟩) (by simp)
   | _=>cases e0
  ·exact r.new j c' b e1 e2
 ·rw[h2] at e';rcases j9 e' with ⟨rfl,z,_⟩|⟨n,e'⟩
  ·cases z;obtain⟨x,qx⟩:=h3.mp ⟨_,rfl⟩;exact r.lnt j x qx
  ·exact r.lnt j c' e'
 ·obtain⟨c',q1,q2⟩:=r.lnd j b e'
  by_cases n:j=i
  ·subst n;obtain⟨x,rfl⟩:=h3.mpr ⟨c',q1⟩;exact⟨x,by rw[h2];exact l8 (zE.mp q).1,q2⟩
  ·exact⟨c',by rw[h2,zL (qN n)];exact q1,q2⟩
def frzAt (ρ:Ev) (i:Nat):Option Ev:=match ρ[i]? with
 | some (some (.o d))=>some (ρ.set i (some (.v d)))
 | some (some (.v _))=>some ρ
 | _=>none
theorem Rep.frz (r:Rep X P O L ρ σ H){i:Nat}{ρ':Ev}(e:frzAt ρ i=some ρ'):Rep X P O L ρ' σ H/\∀(j:Nat) (w:W) (d:D),ρ'[j]? =some (some w)->w.own=some d->ρ[j]? =some (some w)/\j≠i:=by
 unfold frzAt at e;split at e
 ·rename_i d q;cases e;obtain⟨a,h1,h2⟩:=r.obj q rfl;have hl:i<σ.length:=by rw[<-r.len];exact(zE.mp q).1
  have es:σ.set i (some (.ref a))=σ:=by
   apply ext_getElem?;intro j
   by_cases z:i=j
   ·subst z;rw[l8 hl,h1]
   ·rw[zL z]
  have hw:¬AvO O (ρ.set i (some (.v d))) σ a:=fun z=>by
   rcases z with z|⟨j,w,c,e1,e2,e3⟩
   ·exact r.ambN z ⟨i,_,d,q,rfl,h1⟩
   ·rcases j9 e1 with ⟨rfl,z,_⟩|⟨n,e1⟩
    ·cases z;cases e2
    ·exact n (r.inj j i w (.o d) c d a e1 e2 e3 q rfl h1)
  have sub:∀b,AvO O (ρ.set i (some (.v d))) σ b->AvO O ρ σ b:=fun b z=>by
   rcases z with z|⟨j,w,c,e1,e2,e3⟩
   ·exact .inl z
   ·rcases j9 e1 with ⟨rfl,z,_⟩|⟨n,e1⟩
    ·cases z;cases e2
    ·exact .inr ⟨j,w,c,e1,e2,e3⟩
  have g:=n5 (H:=H) sub;refine⟨⟨r.same,r.amb,by rw[length_set];exact r.len,fun j w e=>?_,fun j k w w' c c' b e1 e2 e3 e4 e5 e6=>?_,fun j c b e1 e2=>?_,fun j c e=>?_,fun j b e=>?_,fun p hp=>j8 g _ _ (r.prot p hp),r.gvl⟩,fun j w c e1 e2=>?_⟩
  ·rcases j9 e with ⟨rfl,z,_⟩|⟨n,e⟩
   ·cases z;exact⟨.ref a,h1,L1 (n6 g rfl h2) hw⟩
   ·obtain⟨u,q1,q2⟩:=r.slot j w e;exact⟨u,q1,B3 g (fun _ _ _ _=>rfl) q2⟩
  ·rcases j9 e1 with ⟨rfl,z,_⟩|⟨n1,e1⟩
   ·cases z;cases e2
   ·rcases j9 e4 with ⟨rfl,z,_⟩|⟨n2,e4⟩
    ·cases z;cases e5
    ·exact r.inj j k w w' c c' b e1 e2 e3 e4 e5 e6
  ·rcases j9 e1 with ⟨rfl,z,_⟩|⟨n1,e1⟩
   ·cases z
   ·exact r.new j c b e1 e2
  ·rcases j9 e with ⟨rfl,z,_⟩|⟨n1,e⟩
   ·cases z
   ·exact r.lnt j c e
  ·obtain⟨c,q1,q2⟩:=r.lnd j b e;have n:i≠j:=fun z=>by subst z;rw[q] at q1;cases q1
   exact⟨c,by rw[zL n];exact q1,q2⟩
  ·rcases j9 e1 with ⟨rfl,z,_⟩|⟨n,e1⟩
   ·cases z;cases e2
   ·exact⟨e1,n⟩
 ·rename_i d q;cases e;exact⟨r,fun j w c e1 e2=>⟨e1,fun z=>by subst z;rw[q] at e1;cases e1;cases e2⟩⟩
 ·cases e
end
abbrev FX:=Ev->Option (W×Ev)
abbrev FT:=Ev->Option (Bool×Ev)
abbrev FA:=Ev->Option (List W×Ev)
def DenW (K:PySem.W.Frag) (A:Av) (σ:L2.St) (H1 H':Hp):W->V->Prop
 | .v d,v=>Den K A H' d v
 | .o d,v=>∃a,v= .ref a/\H1 a=none/\Obj K (fun b=>A b\/b=a) H' a d
 | .r i,v=>σ[i]? =some (some v)
 | .l _,_=>False
def DenP (K:PySem.W.Frag) (A:Av) (σ:L2.St) (H:Hp):W->V->Prop
 | .v d,v=>Den K A H d v
 | .r i,v=>σ[i]? =some (some v)
 | _,_=>False
def DenA (K:PySem.W.Frag) (A:Av) (σ:L2.St) (H:Hp):List W->List V->Prop
 | [],vs=>vs=[]
 | w::ws,vs=>∃v r,vs=v::r/\DenP K A σ H w v/\DenA K A σ H ws r
def W.fz:W->W
 | .o d=>.v d
 | w=>w
def tX (X:Cx) (f:FX):TE:=fun σ H Q=>∃P O L ρ w ρ',Rep X P O L ρ σ H/\f ρ=some (w,ρ')/\∀v H1 H',Rep X P O L ρ' σ H1->Same H1 H'->DenW X.K (AvO O ρ' σ) σ H1 H' w v->Q v H'
def tT (X:Cx) (f:FT):TT:=fun σ H Q=>∃P O L ρ b ρ',Rep X P O L ρ σ H/\f ρ=some (b,ρ')/\∀H',Rep X P O L ρ' σ H'->Q b H'
def tA (X:Cx) (f:FA):TA:=fun σ H Q=>∃P O L ρ ws ρ',Rep X P O L ρ σ H/\f ρ=some (ws,ρ')/\∀vs H',Rep X P O L ρ' σ H'->DenA X.K (AvO O ρ' σ) σ H' ws vs->Q vs H'
theorem tXe {X:Cx}{f:FX}{σ:L2.St}{H:Hp}{Q:VK}{C:Prop}(h:tX X f σ H Q)(k:∀P O L ρ w ρ',Rep X P O L ρ σ H->f ρ=some (w,ρ')->(∀v H1 H',Rep X P O L ρ' σ H1->Same H1 H'->DenW X.K (AvO O ρ' σ) σ H1 H' w v->Q v H')->C):C:=by
 obtain⟨P,O,L,ρ,w,ρ',r,e,q⟩:=h;exact k P O L ρ w ρ' r e q
theorem tTe {X:Cx}{f:FT}{σ:L2.St}{H:Hp}{Q:Bool->Hp->Prop}{C:Prop}(h:tT X f σ H Q)(k:∀P O L ρ b ρ',Rep X P O L ρ σ H->f ρ=some (b,ρ')->(∀H',Rep X P O L ρ' σ H'->Q b H')->C):C:=by
 obtain⟨P,O,L,ρ,w,ρ',r,e,q⟩:=h;exact k P O L ρ w ρ' r e q
theorem tAe {X:Cx}{f:FA}{σ:L2.St}{H:Hp}{Q:List V->Hp->Prop}{C:Prop}(h:tA X f σ H Q)(k:∀P O L ρ ws ρ',Rep X P O L ρ σ H->f ρ=some (ws,ρ')->(∀vs H',Rep X P O L ρ' σ H'->DenA X.K (AvO O ρ' σ) σ H' ws vs->Q vs H')->C):C:=by
 obtain⟨P,O,L,ρ,w,ρ',r,e,q⟩:=h;exact k P O L ρ w ρ' r e q
structure QX (X:Cx) (e:Expr) (f:FX):Prop where
 to:PE X e (tX X f)
structure QT (X:Cx) (e:Expr) (f:FT):Prop where
 to:PT X e (tT X f)
structure QW (X:Cx) (e:Expr) (f:FT):Prop where
 to:PW X e (tT X f)
structure QA (X:Cx) (e:List Expr) (f:FA):Prop where
 to:PA X e (tA X f)
theorem PE.weak {X:Cx}{e:Expr}{t u:TE}(h:PE X e t)(w:∀σ H Q,u σ H Q->t σ H Q):PE X e u:=fun pins s σ H Q I q=>h pins s σ H Q I (w σ H Q q)
theorem PT.weak {X:Cx}{e:Expr}{t u:TT}(h:PT X e t)(w:∀σ H Q,u σ H Q->t σ H Q):PT X e u:=fun pins s σ H Q I q=>h pins s σ H Q I (w σ H Q q)
theorem PW.weak {X:Cx}{e:Expr}{t u:TT}(h:PW X e t)(w:∀σ H Q,u σ H Q->t σ H Q):PW X e u:=fun wh pins s σ H Q I q=>h wh pins s σ H Q I (w σ H Q q)
theorem PA.weak {X:Cx}{e:List Expr}{t u:TA}(h:PA X e t)(w:∀σ H Q,u σ H Q->t σ H Q):PA X e u:=fun pos pins s σ H Q I q=>h pos pins s σ H Q I (w σ H Q q)
def dr (ρ:Ev):W->Option D
 | .v d=>some d
 | .r i=>match ρ[i]? with
  | some (some (.v d))=>some d
  | some (some w)=>w.own
  | _=>none
 | _=>none
def drs (ρ:Ev):List W->Option (List D)
 | []=>some []
 | w::ws=>(dr ρ w).bind fun d=>(drs ρ ws).map fun ds=>d::ds
section
variable {X:Cx}{P:List (D×V)}{O:Av}{L:List (Option Nat×Addr)}{ρ:Ev}{σ:L2.St}{H H1 H':Hp}{w:W}{d:D}{v:V}
theorem DenW.fz (r:Rep X P O L ρ σ H1)(s:Same H1 H')(h:DenW X.K (AvO O ρ σ) σ H1 H' w v):DenP X.K (AvO O ρ σ) σ H' w.fz v:=by
 cases w with
 | v d=>exact h
 | o d=>
  obtain⟨a,rfl,n,ob⟩:=h;exact L1 (n6 (n5 fun b z=>.inl z) rfl ob) (r.fresh n)
 | r i=>exact h
 | l d=>exact h.elim
theorem hold (r:Rep X P O L ρ σ H)(h:DenP X.K (AvO O ρ σ) σ H w v):∃P',Rep X P' O L ρ σ H/\∀ρ2 H2,Rep X P' O L ρ2 σ H2->Rep X P O L ρ2 σ H2/\DenP X.K (AvO O ρ2 σ) σ H2 w v:=by
 cases w with
 | v d=>exact⟨(d,v)::P,r.more h,fun ρ2 H2 r2=>⟨r2.less,r2.head⟩⟩
 | r i=>exact⟨P,r,fun ρ2 H2 r2=>⟨r2,h⟩⟩
 | _=>exact h.elim
theorem E6 (r:Rep X P O L ρ σ H)(e:dr ρ w=some d)(h:DenP X.K (AvO O ρ σ) σ H w v):DenR X.K (AvO O ρ σ) H d v:=by
 cases w with
 | v c=>cases e;exact A9 h
 | r i=>
  rw[dr] at e;have h:σ[i]? =some (some v):=h;cases q:ρ[i]? with
  | none=>rw[q] at e;cases e
  | some o=>
   rw[q] at e;cases o with
   | none=>cases e
   | some w'=>
    cases w' with
    | v c=>
     cases e;obtain⟨u,h1,h2⟩:=r.slot i _ q;rw[h1] at h;cases h;exact A9 h2
    | _=>
     obtain⟨a,h1,h2⟩:=r.obj q e;rw[h1] at h;cases h;exact obj_r h2
 | _=>cases e
def DenRL (K:PySem.W.Frag) (A:Av) (H:Hp):List D->List V->Prop
 | [],vs=>vs=[]
 | d::ds,vs=>∃v r,vs=v::r/\DenR K A H d v/\DenRL K A H ds r
theorem a2i (r:Rep X P O L ρ σ H):∀{ws:List W} {ds:List D} {vs:List V},drs ρ ws=some ds->DenA X.K (AvO O ρ σ) σ H ws vs->DenRL X.K (AvO O ρ σ) H ds vs
 | [],ds,vs,e,h=>by cases e;exact h
 | w::ws,ds,vs,e,h=>by
  obtain⟨v,rs,rfl,h1,h2⟩:=h;rw[drs] at e;cases e1:dr ρ w with
  | none=>rw[e1] at e;cases e
  | some d=>
   cases e2:drs ρ ws with
   | none=>rw[e1,e2] at e;cases e
   | some dd=>
    rw[e1,e2] at e;cases e;exact⟨v,rs,rfl,E6 r e1 h1,a2i r e2 h2⟩
end
section
variable {K:PySem.W.Frag}{A:Av}{σ:L2.St}{H H':Hp}
theorem w9 {i:Int}:DenW K A σ H H' (.v (.int i)) (.int i):=by show Den _ _ _ _ _;rw[Den]
theorem t3 {i:Bool}:DenW K A σ H H' (.v (.bl i)) (.bl i):=by show Den _ _ _ _ _;rw[Den]
theorem a4K {i:Str}:DenW K A σ H H' (.v (.str i)) (.str i):=by show Den _ _ _ _ _;rw[Den]
theorem T3:DenW K A σ H H' (.v .non) .non:=by show Den _ _ _ _ _;rw[Den]
end
def fVar (i:Nat):FX:=fun ρ=>match ρ[i]? with
 | some (some (.v d))=>some (.v d,ρ)
 | some (some (.r _))=>none
 | some (some _)=>some (.r i,ρ)
 | _=>none
def fC (d:D):FX:=fun ρ=>some (.v d,ρ)
section
variable {X:Cx}{a b e:Expr}{pos:Pos}{f g h:FX}{t u:FT}
theorem a5 (i:Nat){x:Str}(hN:X.N[i]? =some x:=by rfl)(hv:Vis X.env.scope x:=by first|exact Or.inl rfl|exact Or.inr (Or.inl rfl)|exact Or.inr (Or.inr rfl))(hd:(x==("__debug__":Str))=false:=by decide)(hcd:(x==("__classdict__":Str))=false:=by decide):QX X (.Name x pos) (fVar i):=by
 refine⟨PE.weak (a4h hN hv hd hcd) fun σ H Q h0=>tXe h0 fun P O L ρ w ρ' r e q=>?_⟩;unfold fVar at e;split at e
 ·rename_i d0 e0;cases e;obtain⟨v,h1,h2⟩:=r.slot i _ e0;exact⟨v,h1,q v H H r (Same.refl H) h2⟩
 ·cases e
 ·rename_i w' _ _ e0;cases e;obtain⟨v,h1,h2⟩:=r.slot i _ e0;exact⟨v,h1,q v H H r (Same.refl H) h1⟩
 ·cases e
theorem a4r {d:D}{v:V}(hd:∀A H,Den X.K A H d v):∀σ H Q,tX X (fC d) σ H Q->tC v σ H Q:=fun σ H Q h0=>tXe h0 fun P O L ρ w ρ' r e q=>by cases e;exact q v H H r (Same.refl H) (hd _ H)
theorem a7 {i:Int}{j:Nat}:QX X (.Constant (.int i) j pos) (fC (.int i)):=⟨PE.weak a7x (a4r fun A H=>C5.mpr rfl)⟩
theorem a6C {i:Bool}{j:Nat}:QX X (.Constant (.bool i) j pos) (fC (.bl i)):=⟨PE.weak pe_bl (a4r fun A H=>Q4.mpr rfl)⟩
def fBin (op:D->D->Option W) (f g:FX):FX:=fun ρ=>(f ρ).bind fun p=>(g p.2).bind fun q=>(dr q.2 p.1.fz).bind fun x=>(dr q.2 q.1.fz).bind fun y=>(op x y).map fun w=>(w,q.2)
def Pr2 (X:Cx) (op:D->D->Option W) (r:R2):Prop:=∀(A:Av) (x y:D) (w:W) (v u:V) (H:Hp) (Q:VK),(∀b,A b->∃o,H b=some o)->op x y=some w->DenR X.K A H x v->DenR X.K A H y u->(∀z H',Same H H'->DenW X.K A [] H H' w z->Q z H')->r v u H Q
theorem DenW.st {K:PySem.W.Frag}{A:Av}{σ:L2.St}{H1 H':Hp}{w:W}{v:V}(h:DenW K A [] H1 H' w v):DenW K A σ H1 H' w v:=by
 cases w with
 | r i=>exact absurd h (by simp[DenW])
 | _=>exact h
theorem S3 {r:R2}{op:D->D->Option W}(k:Pr2 X op r):∀σ H Q,tX X (fBin op f g) σ H Q->tOp r (tX X f) (tX X g) σ H Q:=fun σ H Q h0=>tXe h0 fun P O L ρ w ρ' r e q=>by
 unfold fBin at e;obtain⟨⟨w1,ρ1⟩,e1,e⟩:=obs e;dsimp only at e;refine⟨P,O,L,ρ,w1,ρ1,r,e1,fun v H1 H1' r1 s1 d1=>?_⟩;obtain⟨P',r1',k1⟩:=hold (r1.grow s1) (d1.fz r1 s1);obtain⟨⟨w2,ρ2⟩,e2,e⟩:=obs e;dsimp only at e;refine⟨P',O,L,ρ1,w2,ρ2,r1',e2,fun u H2 H2' r2 s2 d2=>?_⟩;have d2':=d2.fz r2 s2;obtain⟨r3,d1'⟩:=k1 ρ2 H2' (r2.grow s2);cases e3:dr ρ2 w1.fz with
 | none=>rw[e3] at e;cases e
 | some x=>
  cases e4:dr ρ2 w2.fz with
  | none=>rw[e3,e4] at e;cases e
  | some y=>
   rw[e3,e4] at e;simp only[bind_some] at e;cases e5:op x y with
   | none=>rw[e5] at e;cases e
   | some w'=>
    rw[e5] at e;cases e;exact k _ x y w v u H2' Q (fun b z=>r3.there z) e5 (E6 r3 e3 d1') (E6 r3 e4 d2') fun z H' s d=>q z H2' H' r3 s d.st
theorem C8 {op:Operator}{r:R2}{o:D->D->Option W}(ho:OpR X (binaryOp op) r)(k:Pr2 X o r)(ha:QX X a f)(hb:QX X b g):QX X (.BinOp a op b pos) (fBin o f g):=⟨PE.weak (pe_op ho ha.to hb.to) (S3 k)⟩
def fTest (f:FX):FT:=fun ρ=>(f ρ).bind fun p=>match p.1 with|.v (.bl k)=>some (k,p.2)|_=>none
theorem R7 {f:FX}{ρ ρ':Ev}{k:Bool}(e:fTest f ρ=some (k,ρ')):f ρ=some (.v (.bl k),ρ'):=by
 unfold fTest at e;cases q:f ρ with
 | none=>rw[q] at e;cases e
 | some p=>
  rw[q] at e;obtain⟨w,ρ1⟩:=p;simp only[bind_some] at e;split at e
  ·cases e;rfl
  ·cases e
theorem M9 {op:CmpOp}{r:R2}{o:D->D->Option W}(ho:OpR X (compareOp op) r)(k:Pr2 X o r)(ha:QX X a f)(hb:QX X b g)(hm:behindInMarks op b=false:=by first|exact nomark _|rfl):QT X (.Compare a [op] [b] pos) (fTest (fBin o f g)):=by
 refine⟨PT.weak (a6r ho ha.to hb.to hm) fun σ H Q h0=>tTe h0 fun P O L ρ t ρ' r e q=>?_⟩;refine S3 k σ H _ ⟨P,O,L,ρ,_,ρ',r,R7 e,fun v H1 H' r1 s1 d1=>⟨t,?_,q H' (r1.grow s1)⟩⟩;have d1':Den X.K (AvO O ρ' σ) H' (.bl t) v:=d1;exact Q4.mp d1'
def big:Nat:=2^8000
def mOk (i j:Int):Prop:=i.natAbs<2^64\/j.natAbs<2^64\/(i.natAbs<big/\j.natAbs<big)
instance (i j:Int):Decidable (mOk i j):=by unfold mOk;infer_instance
theorem mOk.ok {i j:Int}(m:mOk i j):IntMulOk i j:=by
 rcases m with m|m|⟨m,n⟩
 ·exact .of_left (KE_bits m)
 ·exact .of_right (KE_bits m)
 ·exact .of_bits (zJ (KE_bits m) (by decide)) (zJ (KE_bits n) (by decide))
where KE_bits {x:Int} {m:Nat} (h:x.natAbs<2^m):Builtin.Int.intBits x<=m:=intBits_le_iff.mpr h
theorem a6k:OpR X (binaryOp .Mult) (rI mOk fun i j=>.int (i*j)):=opI fun _ _ _ _ _ _ _ hc q=>mul_int q hc.ok
def dOk (j:Int):Prop:=0<j/\j.natAbs<big
instance (j:Int):Decidable (dOk j):=by unfold dOk;infer_instance
theorem a5W:OpR X (binaryOp .FloorDiv) (rI (fun _ j=>dOk j) fun i j=>.int (i/j)):=opI fun i j _ _ _ _ _ hc q=>by
 have e:i.fdiv j=i/j:=Int.fdiv_eq_ediv_of_nonneg i (Int.le_of_lt hc.1);refine floordiv_int (Int.ne_of_gt hc.1) (by rw[e];exact q) (.inl (PyProof.noPylong_of_log2 ?_))
 by_cases z:j.natAbs=0
 ·rw[z];decide
 ·exact zG ((Nat.log2_lt z).mpr (show j.natAbs<2^8000 from hc.2)) (by decide)
def oI (C:Int->Int->Prop) [∀i j,Decidable (C i j)] (g:Int->Int->D):D->D->Option W
 | .int i,.int j=>if C i j then some (.v (g i j)) else none
 | _,_=>none
def oI0 (g:Int->Int->D):D->D->Option W
 | .int i,.int j=>some (.v (g i j))
 | _,_=>none
theorem g4 {K:PySem.W.Frag}{A:Av}{H:Hp}{i:Int}{v:V}(h:DenR K A H (.int i) v):v= .int i:=by
 have h:Den K A H (.int i) v:=h;exact C5.mp h
theorem kI {C:Int->Int->Prop} [∀i j,Decidable (C i j)] {g:Int->Int->Int}:Pr2 X (oI C fun i j=>.int (g i j)) (rI C fun i j=>.int (g i j)):=by
 intro A x y w v u H Q _ e hx hy q;cases x<;>cases y<;>simp only[oI] at e<;>try cases e
 rename_i i j;split at e
 ·rename_i hc;cases e;exact⟨i,j,g4 hx,g4 hy,hc,q _ H (Same.refl H) w9⟩
 ·cases e
theorem kI0 {g:Int->Int->Int}:Pr2 X (oI0 fun i j=>.int (g i j)) (rI0 fun i j=>.int (g i j)):=by
 intro A x y w v u H Q _ e hx hy q;cases x<;>cases y<;>simp only[oI0] at e<;>cases e
 rename_i i j;exact⟨i,j,g4 hx,g4 hy,q _ H (Same.refl H) w9⟩
theorem kB0 {g:Int->Int->Bool}:Pr2 X (oI0 fun i j=>.bl (g i j)) (rI0 fun i j=>.bl (g i j)):=by
 intro A x y w v u H Q _ e hx hy q;cases x<;>cases y<;>simp only[oI0] at e<;>cases e
 rename_i i j;exact⟨i,j,g4 hx,g4 hy,q _ H (Same.refl H) t3⟩
abbrev fSub:=fBin (oI0 fun i j=>.int (i-j))
abbrev fMul:=fBin (oI mOk fun i j=>.int (i*j))
abbrev fDiv:=fBin (oI (fun _ j=>dOk j) fun i j=>.int (i/j))
abbrev fMod:=fBin (oI (fun _ j=>0<j) fun i j=>.int (i%j))
instance (i j:Int):Decidable (CPow i j):=by unfold CPow;infer_instance
abbrev fPow:=fBin (oI CPow fun i j=>.int (i^j.toNat))
theorem a7I (ha:QX X a f)(hb:QX X b g):QX X (.BinOp a .Sub b pos) (fSub f g):=C8 a7D kI0 ha hb
theorem m6 (ha:QX X a f)(hb:QX X b g):QX X (.BinOp a .Mult b pos) (fMul f g):=C8 a6k kI ha hb
theorem J8 (ha:QX X a f)(hb:QX X b g):QX X (.BinOp a .FloorDiv b pos) (fDiv f g):=C8 a5W kI ha hb
theorem D2 (ha:QX X a f)(hb:QX X b g):QX X (.BinOp a .Mod b pos) (fMod f g):=C8 a7H kI ha hb
theorem K1 (ha:QX X a f)(hb:QX X b g):QX X (.BinOp a .Pow b pos) (fPow f g):=C8 a73 kI ha hb
abbrev oGt:=oI0 fun i j=>.bl (decide (j<i))
abbrev oGe:=oI0 fun i j=>.bl (decide (j<=i))
theorem a2B (ha:QX X a f)(hb:QX X b g):QT X (.Compare a [.Gt] [b] pos) (fTest (fBin oGt f g)):=M9 op_gt kB0 ha hb
theorem qt_ge (ha:QX X a f)(hb:QX X b g):QT X (.Compare a [.GtE] [b] pos) (fTest (fBin oGe f g)):=M9 op_ge kB0 ha hb
def lim:Nat:=1000000
theorem v5:lim<=sizeLine:=by unfold lim;rw[sizeLine_eq];decide
theorem j6 {H:Hp}{p:Addr}(h:H p=none)(o:HO):Same H (upd H p o):=fun b u q=>by rw[b8 (t6 q h)];exact q
theorem y0 {K:PySem.W.Frag}{A:Av}{σ:L2.St}{H:Hp}{p:Addr}{xs:List D}{vs:List V}(hp:H p=none)(l:DenL K A H xs vs):DenW K A σ H (upd H p (.lst vs)) (.o (.lst xs)) (.ref p):=
 ⟨p,rfl,hp,vs,o4,m7 (M:=fun _=>False) ⟨fun b o q _=>j6 hp _ b o q,fun _ z=>z.elim,fun b z=>z.imp id fun z=>by rw[z];exact hp⟩ _ _ l⟩
theorem K9 {K:PySem.W.Frag}{A:Av}{σ:L2.St}{H H0:Hp}{p:Addr}{xs:List D}{vs:List V}(hp:H p=none)(l:DenL K A H xs vs):DenW K A σ H0 (upd H p (.tup vs)) (.v (.tup xs)) (.ref p):=by
 show Den _ _ _ _ _;rw[Den];exact⟨p,vs,rfl,.inl (.inl o4),a3c (j6 hp _) l⟩
theorem a6u:OpR X (binaryOp .Add) (fun x y H Q=>∃l b xs zs,x= .ref l/\y= .ref b/\SqL X.K H l xs/\SqL X.K H b zs/\xs.length+zs.length<=sizeLine/\∀p,H p=none->Q (.ref p) (upd H p (.lst (xs++zs)))):=by
 intro pins s σ H x y v u Q I rx ry h;obtain⟨l,b,xs,zs,rfl,rfl,hH,hB,hz,q⟩:=h;cases rx;cases ry;obtain⟨its,r,⟨⟨c1,d1,e1,s1⟩,n1,g1,k1,_,w1⟩,_⟩:=I.list hH;obtain⟨its2,r2,⟨⟨c2,d2,e2,s2⟩,n2,g2,k2,_,w2⟩,_⟩:=I.list hB;simp only at k1 w1 k2 w2;subst k1 w1 k2 w2;have l1:=r.length;have l2:=r2.length;refine concat_meets ⟨_,g1,rfl⟩ ⟨_,g2,rfl⟩ noFill_list_add seq_list_add PySem.F.slot_list_add PySem.F.entry_list_add (PySem.F.args_list_add_2 _ _) (list_addW l b its.toArray its2.toArray n1 n2 d1 d2 s1 s2 (by rw[zP,zP];walk_at "o")) ⟨g1,g2,?_⟩
 have ea:its.toArray++its2.toArray=(its++its2).toArray:=by simp
 rw[ea];exact⟨.ref _,_,I.lnew (t':=s.toks) (r.append r2) (by rw[zO];walk_at "o"),rfl,q _ I.fresh⟩
def oCat (xs ys:List D):Option W:=if xs.length+ys.length<=lim then some (.o (.lst (xs++ys))) else none
def oAdd:D->D->Option W
 | .int i,.int j=>some (.v (.int (i+j)))
 | .lst xs,.lst ys=>oCat xs ys
 | .tup xs,.tup ys=>if xs≠[]/\xs.length+ys.length<=lim then some (.v (.tup (xs++ys))) else none
 | _,_=>none
theorem p8 (ha:QX X a f)(hb:QX X b g):QX X (.BinOp a .Add b pos) (fBin oAdd f g):=C8 (a8f.or (a6u.or a6s)) (by
 intro A x y w v u H Q _ e hx hy q;cases x<;>cases y<;>simp only[oAdd] at e<;>try cases e
 ·rename_i i j;exact .inl ⟨i,j,g4 hx,g4 hy,q _ H (Same.refl H) w9⟩
 ·rename_i xs ys;split at e
  ·rename_i hl;cases e;have hx:Den X.K A H (.tup xs) v:=hx;have hy:Den X.K A H (.tup ys) u:=hy;rw[Den] at hx hy;obtain⟨a,vs,ev,ha,la⟩:=hx;obtain⟨b,us,eu,hb,lb⟩:=hy;refine .inr (.inr ⟨a,b,vs,us,ev,eu,ha,hb,fun z=>?_,?_,fun z=>?_,fun _ p hp=>q _ _ (j6 hp _) (K9 hp (o7 la lb))⟩)
   rotate_left 2
   ·subst z;have z:ys=[]:=List.length_eq_zero_iff.mp (a8 lb);subst z;refine q _ H (Same.refl H) ?_;show Den _ _ _ _ _;rw[xP,Den];exact⟨a,vs,rfl,ha,la⟩
   ·subst z;exact hl.1 (List.length_eq_zero_iff.mp (a8 la))
   ·rw[<-a8 la,<-a8 lb];exact zJ hl.2 v5
  ·cases e
 ·rename_i xs ys;unfold oCat at e;split at e
  ·rename_i hl;cases e;obtain⟨a,vs,ev,ha,la⟩:=hx;obtain⟨b,us,eu,hb,lb⟩:=hy;refine .inr (.inl ⟨a,b,vs,us,ev,eu,ha,hb,?_,fun p hp=>q _ _ (j6 hp _) (y0 hp (o7 la lb))⟩);rw[<-a8 la,<-a8 lb];exact zJ hl v5
  ·cases e) ha hb
def fUn (op:D->Option W) (f:FX):FX:=fun ρ=>(f ρ).bind fun p=>(dr p.2 p.1.fz).bind fun x=>(op x).map fun w=>(w,p.2)
def Pr1 (X:Cx) (op:D->Option W) (r:V->Hp->VK->Prop):Prop:=∀(A:Av) (x:D) (w:W) (v:V) (H:Hp) (Q:VK),(∀b,A b->∃o,H b=some o)->op x=some w->DenR X.K A H x v->(∀z H',Same H H'->DenW X.K A [] H H' w z->Q z H')->r v H Q
theorem a2P {r:V->Hp->VK->Prop}{op:D->Option W}(k:Pr1 X op r):∀σ H Q,tX X (fUn op f) σ H Q->tUn r (tX X f) σ H Q:=fun σ H Q h0=>tXe h0 fun P O L ρ w ρ' r e q=>by
 unfold fUn at e;obtain⟨⟨w1,ρ1⟩,e1,e⟩:=obs e;dsimp only at e;refine⟨P,O,L,ρ,w1,ρ1,r,e1,fun v H1 H1' r1 s1 d1=>?_⟩;have r3:=r1.grow s1;cases e3:dr ρ1 w1.fz with
 | none=>rw[e3] at e;cases e
 | some x=>
  rw[e3] at e;simp only[bind_some] at e;cases e5:op x with
  | none=>rw[e5] at e;cases e
  | some w'=>
   rw[e5] at e;cases e;exact k _ x w v H1' Q (fun b z=>r3.there z) e5 (E6 r3 e3 (d1.fz r1 s1)) fun z H' s d=>q z H1' H' r3 s d.st
def oNeg:D->Option W
 | .int i=>some (.v (.int (-i)))
 | _=>none
theorem a5b (ha:QX X a f):QX X (.UnaryOp .USub a pos) (fUn oNeg f):=⟨PE.weak (pe_un a8a ha.to) (a2P fun A x w v H Q _ e hx q=>by
 cases x<;>simp only[oNeg] at e<;>cases e
 rename_i i
 exact⟨i,g4 hx,q _ H (Same.refl H) w9⟩)⟩
end
section
variable {X:Cx}{a b c e:Expr}{pos:Pos}{f g h:FX}{t u:FT}{fa:FA}{es rest:List Expr}
def truth:D->Option Bool
 | .non=>some false
 | .bl b=>some b
 | .int i=>some (!decide (i=0))
 | .tup xs=>some (!xs.isEmpty)
 | .lst xs=>some (!xs.isEmpty)
 | .dK ks _=>some (!ks.isEmpty)
 | _=>none
def fTru (f:FX):FT:=fun ρ=>(f ρ).bind fun p=>(dr p.2 p.1.fz).bind fun d=>(truth d).map fun k=>(k,p.2)
theorem S6 {K:PySem.W.Frag}{A:Av}{H:Hp}{xs:List D}{vs:List V}(l:DenL K A H xs vs):(!xs.isEmpty)= !vs.isEmpty:=by
 have:=a8 l
 cases xs<;>cases vs<;>simp_all
theorem a13 {K:PySem.W.Frag}{A:Av}{H:Hp}{d:D}{v:V}{k:Bool}(e:truth d=some k)(h:DenR K A H d v):TruV K v H k:=by
 cases d with
 | non=>cases e;have h:Den K A H .non v:=h;rw[Den] at h;subst h;rfl
 | bl b=>cases e;have h:Den K A H (.bl k) v:=h;rw[Den] at h;subst h;rfl
 | int i=>cases e;have h:Den K A H (.int i) v:=h;rw[Den] at h;subst h;rfl
 | tup xs=>cases e;have h:Den K A H (.tup xs) v:=h;rw[Den] at h;obtain⟨a,vs,rfl,hq,l⟩:=h;exact .inr (.inl ⟨vs,hq,S6 l⟩)
 | lst xs=>cases e;obtain⟨a,vs,rfl,hq,l⟩:=h;exact .inl ⟨vs,hq,S6 l⟩
 | dK ks xs=>
  cases e;obtain⟨a,vs,rfl,hq,hl,l⟩:=h;refine .inr (.inr ⟨_,hq,?_⟩)
  have:=a8 l
  cases ks<;>cases vs<;>cases xs<;>simp_all
 | _=>cases e
theorem a4T (ha:QX X a f)(he:∀whole,isTrue a X.env whole=(do let v <-whole;standAt a.pos;holding [v] (truthy v)):=by intro _;rfl):QT X a (fTru f):=⟨PT.weak (a4y ha.to he) fun σ H Q h0=>tTe h0 fun P O L ρ k ρ' r e q=>by
 unfold fTru at e;obtain⟨⟨w,ρ1⟩,e1,e⟩:=obs e;dsimp only at e;cases e2:dr ρ1 w.fz with
 | none=>rw[e2] at e;cases e
 | some d=>
  rw[e2] at e;simp only[bind_some] at e;cases e3:truth d with
  | none=>rw[e3] at e;cases e
  | some k'=>
   rw[e3] at e;cases e
   exact⟨P,O,L,ρ,w,_,r,e1,fun v H1 H' r1 s1 d1=>⟨k,a13 e3 (E6 (r1.grow s1) e2 (d1.fz r1 s1)),q H' (r1.grow s1)⟩⟩⟩
def fNot (t:FT):FT:=fun ρ=>(t ρ).map fun p=>(!p.1,p.2)
theorem a5x (ha:QT X a t):QT X (.UnaryOp .Not a pos) (fNot t):=⟨PT.weak (L2.a8p ha.to) fun σ H Q h0=>tTe h0 fun P O L ρ k ρ' r e q=>by
 unfold fNot at e;cases e1:t ρ with
 | none=>rw[e1] at e;cases e
 | some p=>rw[e1] at e;obtain⟨k1,ρ1⟩:=p;cases e;exact⟨P,O,L,ρ,k1,_,r,e1,q⟩⟩
def fAnd (t u:FT):FT:=fun ρ=>(t ρ).bind fun p=>if p.1=true then u p.2 else some (false,p.2)
def fOr (t u:FT):FT:=fun ρ=>(t ρ).bind fun p=>if p.1=true then some (true,p.2) else u p.2
theorem a6f (ha:QT X a t):QW X (.BoolOp .And [a] pos) t:=⟨pw_and1 ha.to⟩
theorem a8q (ha:QT X a t):QW X (.BoolOp .Or [a] pos) t:=⟨pw_or1 ha.to⟩
theorem a7V (ha:QT X a t)(hb:QW X (.BoolOp .And (b::rest) pos) u):QW X (.BoolOp .And (a::b::rest) pos) (fAnd t u):=⟨PW.weak (pw_and ha.to hb.to) fun σ H Q h0=>tTe h0 fun P O L ρ k ρ' r e q=>by
 unfold fAnd at e;obtain⟨⟨k1,ρ1⟩,e1,e⟩:=obs e;dsimp only at e;refine⟨P,O,L,ρ,k1,ρ1,r,e1,fun H' r'=>?_⟩;cases k1 with
 | true=>rw[if_pos rfl] at e ⊢;exact⟨P,O,L,ρ1,k,ρ',r',e,q⟩
 | false=>rw[if_neg zS] at e ⊢;cases e;exact q H' r'⟩
theorem a6x (ha:QT X a t)(hb:QW X (.BoolOp .Or (b::rest) pos) u):QW X (.BoolOp .Or (a::b::rest) pos) (fOr t u):=⟨PW.weak (pw_or ha.to hb.to) fun σ H Q h0=>tTe h0 fun P O L ρ k ρ' r e q=>by
 unfold fOr at e;obtain⟨⟨k1,ρ1⟩,e1,e⟩:=obs e;dsimp only at e;refine⟨P,O,L,ρ,k1,ρ1,r,e1,fun H' r'=>?_⟩;cases k1 with
 | true=>rw[if_pos rfl] at e ⊢;cases e;exact q H' r'
 | false=>rw[if_neg zS] at e ⊢;exact⟨P,O,L,ρ1,k,ρ',r',e,q⟩⟩
theorem a7v (ha:QW X a t):QT X a t:=⟨PW.pt ha.to⟩
theorem a7S {op}(ha:QX X a f):QX X (.BoolOp op [a] pos) f:=⟨a7L ha.to⟩
def fAndV (f g:FX):FX:=fun ρ=>(fTest f ρ).bind fun p=>if p.1=true then g p.2 else some (.v (.bl false),p.2)
def fOrV (f g:FX):FX:=fun ρ=>(fTest f ρ).bind fun p=>if p.1=true then some (.v (.bl true),p.2) else g p.2
def fNotV (f:FX):FX:=fun ρ=>(fTest f ρ).map fun p=>(.v (.bl (!p.1)),p.2)
theorem Q3 {K:PySem.W.Frag}{A:Av}{σ:L2.St}{H H':Hp}{k:Bool}{v:V}(h:DenW K A σ H H' (.v (.bl k)) v):v= .bl k:=by
 have h:Den K A H' (.bl k) v:=h;exact Q4.mp h
theorem a75 (ha:QX X a f)(hb:QX X (.BoolOp .And (b::rest) pos) g):QX X (.BoolOp .And (a::b::rest) pos) (fAndV f g):=⟨PE.weak (a76 ha.to hb.to) fun σ H Q h0=>tXe h0 fun P O L ρ w ρ' r e q=>by
 unfold fAndV at e;obtain⟨⟨k,ρ1⟩,e1,e⟩:=obs e;dsimp only at e;refine⟨P,O,L,ρ,_,ρ1,r,R7 e1,fun v H1 H' r1 s1 d1=>⟨k,Q3 d1,?_⟩⟩;cases k with
 | true=>rw[if_pos rfl] at e ⊢;exact⟨P,O,L,ρ1,w,ρ',r1.grow s1,e,q⟩
 | false=>rw[if_neg zS] at e ⊢;cases e;exact q _ H' H' (r1.grow s1) (Same.refl _) t3⟩
def fIf (t:FT) (f g:FX):FX:=fun ρ=>(t ρ).bind fun p=>if p.1=true then f p.2 else g p.2
def fNil:FA:=fun ρ=>some ([],ρ)
def fCons (f:FX) (fa:FA):FA:=fun ρ=>(f ρ).bind fun p=>(fa p.2).map fun q=>(p.1.fz::q.1,q.2)
theorem a9:QA X [] fNil:=⟨PA.weak a4v fun σ H Q h0=>tAe h0 fun P O L ρ ws ρ' r e q=>by cases e;exact q [] H r rfl⟩
theorem a6 (ha:QX X e f)(hr:QA X es fa)(hs:starEach (e::es) X.env=(false,eval e X.env)::starEach es X.env:=by rfl):QA X (e::es) (fCons f fa):=⟨PA.weak (Z7 ha.to hr.to hs) fun σ H Q h0=>tAe h0 fun P O L ρ ws ρ' r e q=>by
 unfold fCons at e;obtain⟨⟨w,ρ1⟩,e1,e⟩:=obs e;dsimp only at e;obtain⟨⟨ws2,ρ2⟩,e2,e⟩:=oms e;cases e;refine⟨P,O,L,ρ,w,ρ1,r,e1,fun v H1 H' r1 s1 d1=>?_⟩;obtain⟨P',r1',k1⟩:=hold (r1.grow s1) (d1.fz r1 s1);refine⟨P',O,L,ρ1,ws2,_,r1',e2,fun vs H2 r2 l2=>?_⟩;obtain⟨r3,d3⟩:=k1 _ H2 r2
 exact q _ H2 r3 ⟨v,vs,rfl,d3,l2⟩⟩
def takeAll:Ev->List W->Option (List D×Ev)
 | ρ,[]=>some ([],ρ)
 | ρ,.v d::ws=>(takeAll ρ ws).map fun p=>(d::p.1,p.2)
 | ρ,.r i::ws=>(frzAt ρ i).bind fun ρ1=>match ρ1[i]? with
  | some (some (.v d))=>(takeAll ρ1 ws).map fun p=>(d::p.1,p.2)
  | _=>none
 | _,_=>none
theorem a1x {ρ ρ':Ev}{σ:L2.St}{O:Av}(h:∀(j:Nat) (w:W) (d:D),ρ'[j]? =some (some w)->w.own=some d->ρ[j]? =some (some w)):∀b,AvO O ρ' σ b->AvO O ρ σ b:=fun b z=>z.imp id fun⟨j,w,d,e1,e2,e3⟩=>⟨j,w,d,h j w d e1 e2,e2,e3⟩
theorem l5 {P:List (D×V)}{O:Av}{L:List (Option Nat×Addr)}{σ:L2.St}{H:Hp}:∀{ws:List W} {ds:List D} {vs:List V} {ρ ρ':Ev},Rep X P O L ρ σ H->takeAll ρ ws=some (ds,ρ')->DenA X.K (AvO O ρ σ) σ H ws vs->
  Rep X P O L ρ' σ H/\DenL X.K (AvO O ρ' σ) H ds vs/\∀(j:Nat) (w:W) (d:D),ρ'[j]? =some (some w)->w.own=some d->ρ[j]? =some (some w)
 | [],ds,vs,ρ,ρ',r,e,h=>by cases e;have h:vs=[]:=h;subst h;exact⟨r,c9,fun j w d e _=>e⟩
 | .v d::ws,ds,vs,ρ,ρ',r,e,h=>by
  obtain⟨v,rs,rfl,h1,h2⟩:=h;rw[takeAll] at e;obtain⟨⟨ds1,ρ1⟩,e1,e⟩:=oms e;cases e;obtain⟨r1,l1,k1⟩:=l5 r e1 h2;exact⟨r1,b9 (j8 (n5 (a1x k1)) _ _ h1) l1,k1⟩
 | .r i::ws,ds,vs,ρ,ρ',r,e,h=>by
  obtain⟨v,rs,rfl,h1,h2⟩:=h;have h1:σ[i]? =some (some v):=h1;rw[takeAll] at e;cases e0:frzAt ρ i with
  | none=>rw[e0] at e;cases e
  | some ρ1=>
   rw[e0] at e;simp only[bind_some] at e;obtain⟨r1,k1⟩:=r.frz e0;split at e
   ·rename_i d q;obtain⟨⟨ds1,ρ2⟩,e1,e⟩:=oms e;cases e;have go1:∀{ws:List W} {vs:List V},DenA X.K (AvO O ρ σ) σ H ws vs->DenA X.K (AvO O ρ1 σ) σ H ws vs:=fun{ws}=>by
     induction ws with
     | nil=>exact fun h=>h
     | cons w ws ih=>
      intro vs h;obtain⟨v,rs,rfl,h1,h2⟩:=h;refine⟨v,rs,rfl,?_,ih h2⟩;cases w with
      | v d=>exact j8 (n5 (a1x fun j w d e1 e2=>(k1 j w d e1 e2).1)) _ _ h1
      | _=>exact h1
    obtain⟨r2,l2,k2⟩:=l5 r1 e1 (go1 h2);obtain⟨u,q1,q2⟩:=r1.slot i _ q;rw[h1] at q1;cases q1;have q2:Den X.K (AvO O ρ1 σ) H d v:=q2;exact⟨r2,b9 (j8 (n5 (a1x k2)) _ _ q2) l2,fun j w d e1 e2=>(k1 j w d (k2 j w d e1 e2) e2).1⟩
   ·cases e
 | .o _::ws,ds,vs,ρ,ρ',r,e,h=>by rw[takeAll] at e<;>first|cases e|(intros;nofun)
 | .l _::ws,ds,vs,ρ,ρ',r,e,h=>by rw[takeAll] at e<;>first|cases e|(intros;nofun)
def fTup (fa:FA):FX:=fun ρ=>(fa ρ).bind fun p=>(takeAll p.2 p.1).bind fun q=>if q.1.length<=lim then some (.v (.tup q.1),q.2) else none
def fLst (fa:FA):FX:=fun ρ=>(fa ρ).bind fun p=>(takeAll p.2 p.1).bind fun q=>if q.1.length<=lim then some (.o (.lst q.1),q.2) else none
theorem X2 {mk:List D->W}{σ:L2.St}{H:Hp}{Q:VK}{R:List V->Hp->Prop}(hq:∀(A:Av) (ds:List D) (vs:List V) (H:Hp),(∀v H',Same H H'->DenW X.K A σ H H' (mk ds) v->Q v H')->vs.length<=sizeLine->DenL X.K A H ds vs->R vs H)
  (h:tX X (fun ρ=>(fa ρ).bind fun p=>(takeAll p.2 p.1).bind fun q=>if q.1.length<=lim then some (mk q.1,q.2) else none) σ H Q):tA X fa σ H R:=by
 obtain⟨P,O,L,ρ,w,ρ',r,e,q⟩:=h;dsimp only at e;obtain⟨⟨ws,ρ1⟩,e1,e⟩:=obs e;dsimp only at e;obtain⟨⟨ds,ρ2⟩,e2,e⟩:=obs e;dsimp only at e;split at e
 ·rename_i hl;cases e;refine⟨P,O,L,ρ,ws,ρ1,r,e1,fun vs H1 r1 l1=>?_⟩;obtain⟨r2,l2,_⟩:=l5 r1 e2 l1;exact hq _ ds vs H1 (fun v H' s d=>q v H1 H' r2 s d) (by rw[<-a8 l2];exact zJ hl v5) l2
 ·cases e
theorem J7 {k:Nat}(ha:QA X es fa):QX X (.Tuple es k pos) (fTup fa):=⟨PE.weak (a7R ha.to) fun σ H Q h=>X2 (mk:=fun ds=>.v (.tup ds)) (fun A ds vs H q hl l=>⟨hl,fun p hp=>q _ _ (j6 hp _) (K9 hp l)⟩) h⟩
theorem N7 (ha:QA X es fa):QX X (.List es pos) (fLst fa):=⟨PE.weak (a7U ha.to) fun σ H Q h=>X2 (mk:=fun ds=>.o (.lst ds)) (fun A ds vs H q hl l=>⟨hl,fun p hp=>q _ _ (j6 hp _) (y0 hp l)⟩) h⟩
def items:D->Option (List D)
 | .tup xs=>some xs
 | .lst xs=>some xs
 | _=>none
theorem B0 {K:PySem.W.Frag}{A:Av}{H:Hp}{d:D}{xs:List D}{v:V}(e:items d=some xs)(h:DenR K A H d v):∃a vs,v= .ref a/\(SqL K H a vs\/SqT K H a vs)/\DenL K A H xs vs:=by
 cases d<;>simp only[items] at e<;>cases e
 ·have h:Den K A H (.tup xs) v:=h;rw[Den] at h;obtain⟨a,vs,e,hq,l⟩:=h;exact⟨a,vs,e,.inr hq,l⟩
 ·obtain⟨a,vs,e,hq,l⟩:=h;exact⟨a,vs,e,.inl hq,l⟩
def strAt (x:Str) (i:Int):Option W:=if x.length<=lim then(atI x.cps.toList i).map fun c=>.v (.str ⟨#[c]⟩) else none
def oIx (x y:D):Option W:=match x,y with
 | .str x,.int i=>strAt x i
 | x,.int i=>(items x).bind fun xs=>(atI xs i).map .v
 | _,_=>none
theorem a6j {K:PySem.W.Frag}{A:Av}{H:Hp}{xs:List D}{vs:List V}{i:Int}{d:D}(l:DenL K A H xs vs)(e:atI xs i=some d):∃v,atI vs i=some v/\Den K A H d v:=by
 unfold atI at e ⊢;rw[<-a8 l];cases q:ixN xs.length i with
 | none=>rw[q] at e;cases e
 | some j=>rw[q] at e;exact r6 l e
theorem k_ix:Pr2 X oIx (rIx X.K):=by
 intro A x y w v u H Q _ e hx hy q;unfold oIx at e;split at e
 ·rename_i z i;unfold strAt at e;split at e
  ·rename_i hl;obtain⟨ch,e1,e⟩:=oms e;cases e;have hx:Den X.K A H (.str z) v:=hx;exact .inr (.inr ⟨z,i,ch,Z3.mp hx,g4 hy,zJ hl v5,e1,q _ H (Same.refl H) a4K⟩)
  ·cases e
 ·rename_i i _;cases e1:items x with
  | none=>rw[e1] at e;cases e
  | some xs=>
   rw[e1] at e;simp only[bind_some] at e;obtain⟨d,e2,e⟩:=oms e;cases e;obtain⟨a,vs,rfl,hq,l⟩:=B0 e1 hx;obtain⟨v',h1,h2⟩:=a6j l e2;rcases hq with hq|hq
   ·exact .inl ⟨a,vs,i,v',rfl,g4 hy,hq,h1,q _ H (Same.refl H) h2⟩
   ·exact .inr (.inl ⟨a,vs,i,v',rfl,g4 hy,hq,h1,q _ H (Same.refl H) h2⟩)
 ·cases e
def fCall (k:List D->Option W) (fa:FA):FX:=fun ρ=>(fa ρ).bind fun p=>(drs p.2 p.1).bind fun ds=>(k ds).map fun w=>(w,p.2)
def PrA (X:Cx) (k:List D->Option W) (r:List V->Hp->VK->Prop):Prop:=∀(A:Av) (ds:List D) (w:W) (vs:List V) (H:Hp) (Q:VK),(∀b,A b->∃o,H b=some o)->k ds=some w->DenRL X.K A H ds vs->(∀z H',Same H H'->DenW X.K A [] H H' w z->Q z H')->r vs H Q
theorem V3 {r:List V->Hp->VK->Prop}{k:List D->Option W}(hk:PrA X k r):∀σ H Q,tX X (fCall k fa) σ H Q->tCB r (tA X fa) σ H Q:=fun σ H Q h0=>tXe h0 fun P O L ρ w ρ' r e q=>by
 unfold fCall at e;obtain⟨⟨ws,ρ1⟩,e1,e⟩:=obs e;dsimp only at e;cases e2:drs ρ1 ws with
 | none=>rw[e2] at e;cases e
 | some ds=>
  rw[e2] at e;simp only[bind_some] at e;cases e3:k ds with
  | none=>rw[e3] at e;cases e
  | some w'=>
   rw[e3] at e;cases e;exact⟨P,O,L,ρ,ws,ρ',r,e1,fun vs H1 r1 l1=>hk _ ds w vs H1 Q (fun b z=>r1.there z) e3 (a2i r1 e2 l1) fun z H2 s2 d2=>q z H1 H2 r1 s2 d2.st⟩
theorem a00 {x:Str}{p:Pos}{id:String}{r:List V->Hp->VK->Prop}{k:List D->Option W}(hc:CallR X (.builtin id) r)(hk:PrA X k r)(hv:bootBuiltins x=some (.builtin id))(hm:X.mg x=none)(ha:QA X (e::es) fa)(hg:Gl X x)(hn:x≠"__name__")(hdb:(x==("__debug__":Str))=false)
  (he:starEach (e::es) X.env=(false,eval e X.env)::starEach es X.env) (hpl:(backTo pos (starEach es X.env)).any (·.1)=false):QX X (.Call (.Name x p) (e::es) [] pos) (fCall k fa):=⟨PE.weak (a1j hc hg hm hv ha.to hn hdb he hpl) (V3 hk)⟩
theorem a0w {x:Str}{p:Pos}{T:String}{r:List V->Hp->VK->Prop}{k:List D->Option W}(hc:CallR X (.type T) r)(hk:PrA X k r)(hv:bootBuiltins x=some (.type T))(hm:X.mg x=none)(ha:QA X (e::es) fa)(hg:Gl X x)(hn:x≠"__name__")(hdb:(x==("__debug__":Str))=false)
  (he:starEach (e::es) X.env=(false,eval e X.env)::starEach es X.env) (hpl:(backTo pos (starEach es X.env)).any (·.1)=false):QX X (.Call (.Name x p) (e::es) [] pos) (fCall k fa):=⟨PE.weak (a3o hc hg hm hv ha.to hn hdb he hpl) (V3 hk)⟩
theorem denRL1 {K:PySem.W.Frag}{A:Av}{H:Hp}{d:D}{vs:List V}(l:DenRL K A H [d] vs):∃v,vs=[v]/\DenR K A H d v:=by
 obtain⟨v,r,rfl,h,l⟩:=l;have l:r=[]:=l;subst l;exact⟨v,rfl,h⟩
theorem denRL2 {K:PySem.W.Frag}{A:Av}{H:Hp}{d d':D}{vs:List V}(l:DenRL K A H [d,d'] vs):∃v v',vs=[v,v']/\DenR K A H d v/\DenR K A H d' v':=by
 obtain⟨v,r,rfl,h,l⟩:=l;obtain⟨v',rfl,h'⟩:=denRL1 l;exact⟨v,v',rfl,h,h'⟩
end
inductive R where
 | nx (ρ:Ev)|bk (ρ:Ev)|ct (ρ:Ev)|rt (w:W) (ρ:Ev)
abbrev FS:=Ev->Option R
abbrev A0 (O:Av) (L:List (Option Nat×Addr)):Av:=fun b=>O b\/∃i:Nat,(some i,b)∈L
def EndsOk (X:Cx) (P:List (D×V)) (O:Av) (L:List (Option Nat×Addr)) (E:Ends):R->Prop
 | .nx ρ=>∀σ H,Rep X P O L ρ σ H->E.nx σ H
 | .bk ρ=>∀σ H,Rep X P O L ρ σ H->E.bk σ H
 | .ct ρ=>∀σ H,Rep X P O L ρ σ H->E.ct σ H
 | .rt w ρ=>∀v H,(∀b o,X.H₀ b=some o->(∀i,(i,b)∉L)->H b=some o)->(∀(i:Nat) b,(some i,b)∈L->∃c,ownAt ρ i=some c/\Obj X.K (A0 O L) H b c)->DenW X.K (A0 O L) [] (hz X L) H w v->E.rt v H
def tS (X:Cx) (F:FS):TS:=fun E σ H=>∃P O L ρ r,Rep X P O L ρ σ H/\F ρ=some r/\EndsOk X P O L E r
theorem tSe {X:Cx}{F:FS}{E:Ends}{σ:L2.St}{H:Hp}{C:Prop}(h:tS X F E σ H)(k:∀P O L ρ r,Rep X P O L ρ σ H->F ρ=some r->EndsOk X P O L E r->C):C:=by
 obtain⟨P,O,L,ρ,r,rp,e,q⟩:=h;exact k P O L ρ r rp e q
structure QS (X:Cx) (st:Stmt) (F:FS):Prop where
 to:PS X st (tS X F)
structure QSs (X:Cx) (st:List Stmt) (F:FS):Prop where
 to:PSs X st (tS X F)
theorem PS.weak {X:Cx}{e:Stmt}{t u:TS}(h:PS X e t)(w:∀E σ H,u E σ H->t E σ H):PS X e u:=fun pins s σ H E I q=>h pins s σ H E I (w E σ H q)
theorem PSs.weak {X:Cx}{e:List Stmt}{t u:TS}(h:PSs X e t)(w:∀E σ H,u E σ H->t E σ H):PSs X e u:=fun pins s σ H E I q=>h pins s σ H E I (w E σ H q)
def fThen (F G:FS):FS:=fun ρ=>(F ρ).bind fun r=>match r with
 | .nx ρ'=>G ρ'
 | r=>some r
section
variable {X:Cx}{P:List (D×V)}{O:Av}{L:List (Option Nat×Addr)}{ρ ρ':Ev}{σ:L2.St}{H H1 H':Hp}{w:W}{d:D}{v:V}
theorem Rep.a0 (r:Rep X P O L ρ σ H){b:Addr}(z:A0 O L b):AvO O ρ σ b:=z.imp id fun⟨i,z⟩=>by
 obtain⟨d,h1,h2⟩:=r.lnd i b z;exact⟨i,_,d,h1,rfl,h2⟩
theorem Rep.lents (r:Rep X P O L ρ σ H):∀(i:Nat) b,(some i,b)∈L->∃c,ownAt ρ i=some c/\Obj X.K (A0 O L) H b c:=fun i b z=>by
 obtain⟨d,h1,h2⟩:=r.lnd i b z;obtain⟨a,h3,h4⟩:=r.obj h1 rfl;rw[h2] at h3;cases h3;exact⟨d,by unfold ownAt;rw[h1];rfl,n6 (n5 fun b z=>r.a0 z) rfl h4⟩
def bindW (ρ:Ev) (i:Nat):W->Option Ev
 | .v d=>if freeSlot ρ i=true then some (ρ.set i (some (.v d))) else none
 | .o d=>if freeSlot ρ i=true then some (ρ.set i (some (.o d))) else none
 | .r j=>(frzAt ρ j).bind fun ρ1=>match ρ1[j]? with
  | some (some (.v d))=>if freeSlot ρ1 i=true then some (ρ1.set i (some (.v d))) else none
  | _=>none
 | .l _=>none
theorem a1T {i:Nat}(r:Rep X P O L ρ σ H1)(s:Same H1 H')(h:DenW X.K (AvO O ρ σ) σ H1 H' w v)(e:bindW ρ i w=some ρ'):Rep X P O L ρ' (σ.set i (some v)) H':=by
 cases w with
 | v d=>
  rw[bindW] at e;split at e
  ·rename_i hf;cases e;exact(r.grow s).put hf h
  ·cases e
 | o d=>
  rw[bindW] at e;split at e
  ·rename_i hf;cases e;obtain⟨a,rfl,hn,ob⟩:=h;exact r.putO s hf hn ob
  ·cases e
 | r j=>
  rw[bindW] at e;cases e1:frzAt ρ j with
  | none=>rw[e1] at e;cases e
  | some ρ1=>
   rw[e1] at e;simp only[bind_some] at e;obtain⟨r1,_⟩:=(r.grow s).frz e1;split at e
   ·rename_i d q;split at e
    ·rename_i hf;cases e;obtain⟨u,q1,q2⟩:=r1.slot j _ q;have h:σ[j]? =some (some v):=h;rw[h] at q1;cases q1;exact r1.put hf q2
    ·cases e
   ·cases e
 | l d=>cases e
def retW (ρ:Ev):W->Option R
 | .v d=>some (.rt (.v d) ρ)
 | .o d=>some (.rt (.o d) ρ)
 | .r i=>match ρ[i]? with
  | some (some (.o d))=>some (.rt (.o d) ρ)
  | some (some (.v d))=>some (.rt (.v d) ρ)
  | _=>none
 | .l _=>none
theorem a8l {E:Ends}{q:R}(r:Rep X P O L ρ σ H1)(s:Same H1 H')(h:DenW X.K (AvO O ρ σ) σ H1 H' w v)(e:retW ρ w=some q)(hq:EndsOk X P O L E q):E.rt v H':=by
 have r':=r.grow s;cases w with
 | v d=>cases e;exact hq v H' r'.same r'.lents (j8 (n5 fun b z=>r.a0 z) _ _ h)
 | o d=>
  cases e;obtain⟨a,rfl,hn,ob⟩:=h;exact hq _ H' r'.same r'.lents ⟨a,rfl,r.fresh0 hn,n6 (n5 fun b z=>z.imp (fun z=>r.a0 z) id) rfl ob⟩
 | r i=>
  rw[retW] at e;have h:σ[i]? =some (some v):=h;split at e
  ·rename_i d q;cases e;obtain⟨a,h1,h2⟩:=r'.obj q rfl;rw[h] at h1;cases h1;refine hq _ H' r'.same r'.lents ⟨a,rfl,r'.new i d a q h,n6 (n5 fun b z=>?_) rfl h2⟩;rcases z with z|z
   ·exact r.a0 z
   ·rw[z];exact .inr ⟨i,_,d,q,rfl,h⟩
  ·rename_i d q;cases e;obtain⟨u,q1,q2⟩:=r'.slot i _ q;rw[h] at q1;cases q1;exact hq v H' r'.same r'.lents (j8 (n5 fun b z=>r.a0 z) _ _ q2)
  ·cases e
 | l d=>cases e
end
section
variable {X:Cx}{a b c e:Expr}{st:Stmt}{rest bd els:List Stmt}{pos:Pos}{f g:FX}{t:FT}{fa:FA}{F G:FS}
theorem z9:QSs X [] (fun ρ=>some (.nx ρ)):=⟨PSs.weak a55 fun E σ H h0=>tSe h0 fun P O L ρ r rp e q=>by cases e;exact q σ H rp⟩
theorem b6 (h1:QS X st F)(h2:QSs X rest G):QSs X (st::rest) (fThen F G):=⟨PSs.weak (a3U h1.to h2.to) fun E σ H h0=>tSe h0 fun P O L ρ r rp e q=>by
 unfold fThen at e;obtain⟨r1,e1,e⟩:=obs e;refine⟨P,O,L,ρ,r1,rp,e1,?_⟩;cases r1 with
 | nx ρ'=>exact fun σ' H' rp'=>⟨P,O,L,ρ',r,rp',e,q⟩
 | bk ρ'=>cases e;exact q
 | ct ρ'=>cases e;exact q
 | rt d ρ'=>cases e;exact q⟩
theorem b7 (h1:QS X st F):QSs X [st] F:=⟨a51 h1.to⟩
theorem a4B:QS X st (fun _=>none):=⟨PS.weak a3S fun E σ H h0=>tSe h0 fun P O L ρ r rp e q=>by cases e⟩
theorem a4s {e c:Option Expr}:QS X (.Raise e c pos) (fun _=>none):=a4B
def fRet (f:FX):FS:=fun ρ=>(f ρ).bind fun p=>retW p.2 p.1
theorem n9 (ha:QX X e f):QS X (.Return (some e) pos) (fRet f):=⟨PS.weak (a7M ha.to) fun E σ H h0=>tSe h0 fun P O L ρ r rp e q=>by
 unfold fRet at e;obtain⟨⟨w,ρ1⟩,e1,e⟩:=obs e
 exact⟨P,O,L,ρ,w,ρ1,rp,e1,fun v H1 H' r1 s1 d1=>a8l r1 s1 d1 e q⟩⟩
def fIfS (t:FT) (F G:FS):FS:=fun ρ=>(t ρ).bind fun p=>if p.1=true then F p.2 else G p.2
theorem O6 (hc:QT X c t)(ha:QSs X bd F)(hb:QSs X els G):QS X (.If c bd els pos) (fIfS t F G):=⟨PS.weak (ps_if hc.to ha.to hb.to) fun E σ H h0=>tSe h0 fun P O L ρ r rp e q=>by
 unfold fIfS at e;obtain⟨⟨k,ρ1⟩,e1,e⟩:=obs e;dsimp only at e;refine⟨P,O,L,ρ,k,ρ1,rp,e1,fun H1 r1=>?_⟩;cases k with
 | true=>rw[if_pos rfl] at e ⊢;exact⟨P,O,L,ρ1,r,r1,e,q⟩
 | false=>rw[if_neg zS] at e ⊢;exact⟨P,O,L,ρ1,r,r1,e,q⟩⟩
def fAsg (i:Nat) (f:FX):FS:=fun ρ=>(f ρ).bind fun p=>(bindW p.2 i p.1).map .nx
theorem h7 (i:Nat){x:Str}{pos':Pos}(hN:X.N.Nodup)(ha:QX X e f)(hi:X.N[i]? =some x:=by rfl)(hx:Loc X.env.scope x:=by first|exact Or.inl rfl|exact Or.inr rfl)(hs:swapsWith e (some (.Name x pos')) pos.line X.env=pure false:=by rfl)(hf:X.fn x=true\/X.env.scope.names.lookup x=some .local:=by first|exact .inl rfl|exact .inr rfl):
  QS X (.Assign [.Name x pos'] e pos) (fAsg i f):=⟨PS.weak (a7K hN hi hx ha.to hs hf) fun E σ H h0=>tSe h0 fun P O L ρ r rp e q=>by
 unfold fAsg at e;obtain⟨⟨w,ρ1⟩,e1,e⟩:=obs e;dsimp only at e;obtain⟨ρ2,e2,e⟩:=oms e;cases e
 exact⟨P,O,L,ρ,w,ρ1,rp,e1,fun v H1 H' r1 s1 d1=>q _ H' (a1T r1 s1 d1 e2)⟩⟩
abbrev FG:=D->Ev->Option Ev
def GOk (X:Cx) (g:TG) (gf:FG):Prop:=∀(P:List (D×V)) (O:Av) (L:List (Option Nat×Addr)) (d:D) (v:V) (ρ ρ':Ev) (σ:L2.St) (H:Hp) (Q:L2.St->Hp->Prop),Rep X P O L ρ σ H->Den X.K (AvO O ρ σ) H d v->gf d ρ=some ρ'->(∀σ' H',Rep X P O L ρ' σ' H'->Q σ' H')->g v σ H Q
structure QG (X:Cx) (tg:Expr) (gf:FG):Prop where
 to:∃g,PG X tg g/\GOk X g gf
abbrev FGs:=List D->Ev->Option Ev
structure QGs (X:Cx) (tgs:List Expr) (n:Nat) (gf:FGs):Prop where
 to:∃g,PGs X tgs g/\∀(P:List (D×V)) (O:Av) (L:List (Option Nat×Addr)) (ds:List D) (vs:List V) (ρ ρ':Ev) (σ:L2.St) (H:Hp) (Q:L2.St->Hp->Prop),Rep X P O L ρ σ H->DenL X.K (AvO O ρ σ) H ds vs->gf ds ρ=some ρ'->(∀σ' H',Rep X P O L ρ' σ' H'->Q σ' H')->g vs σ H Q
 len:∀ds ρ ρ',gf ds ρ=some ρ'->ds.length=n
def gfName (i:Nat):FG:=fun d ρ=>if freeSlot ρ i=true then some (ρ.set i (some (.v d))) else none
theorem k6 (i:Nat){x:Str}(hN:X.N.Nodup)(hi:X.N[i]? =some x:=by rfl)(hx:Loc X.env.scope x:=by first|exact Or.inl rfl|exact Or.inr rfl)(hf:X.fn x=true\/X.env.scope.names.lookup x=some .local:=by first|exact .inl rfl|exact .inr rfl):QG X (.Name x pos) (gfName i):=
 ⟨gName i,a1U hN hi hx hf,fun P O L d v ρ ρ' σ H Q r h e q=>by
  unfold gfName at e;split at e
  ·rename_i hf;cases e;exact q _ H (r.put hf h)
  ·cases e⟩
def gfNil:FGs:=fun ds ρ=>match ds with
 | []=>some ρ
 | _=>none
def gfCons (gf:FG) (gs:FGs):FGs:=fun ds ρ=>match ds with
 | d::ds=>(gf d ρ).bind (gs ds)
 | _=>none
def gfTup (gs:FGs):FG:=fun d ρ=>match d with
 | .tup ds=>gs ds ρ
 | _=>none
theorem Y5:QGs X [] 0 gfNil:=⟨⟨gNil,a6e,fun P O L ds vs ρ ρ' σ H Q r l e q=>by
 cases ds with
 | nil=>cases e;rw[DenL] at l;exact⟨l,q σ H r⟩
 | cons d ds=>cases e⟩,fun ds ρ ρ' e=>by cases ds with|nil=>rfl|cons d ds=>cases e⟩
theorem holdL {P:List (D×V)}{O:Av}{L:List (Option Nat×Addr)}{σ:L2.St}:∀{ds:List D} {vs:List V} {ρ:Ev} {H:Hp},Rep X P O L ρ σ H->DenL X.K (AvO O ρ σ) H ds vs->∃P',Rep X P' O L ρ σ H/\∀ρ2 σ2 H2,Rep X P' O L ρ2 σ2 H2->Rep X P O L ρ2 σ2 H2/\DenL X.K (AvO O ρ2 σ2) H2 ds vs
 | [],vs,ρ,H,r,l=>⟨P,r,fun ρ2 σ2 H2 r2=>⟨r2,by rw[DenL] at l ⊢;exact l⟩⟩
 | d::ds,vs,ρ,H,r,l=>by
  rw[DenL] at l;obtain⟨v,rs,rfl,h,l⟩:=l;obtain⟨P',r1,k1⟩:=holdL r l
  exact⟨(d,v)::P',r1.more h,fun ρ2 σ2 H2 r2=>by
   obtain⟨r3,l3⟩:=k1 ρ2 σ2 H2 r2.less
   exact⟨r3,b9 r2.head l3⟩⟩
theorem A7 {n:Nat}{tgs:List Expr}{tg:Expr}{gf:FG}{gs:FGs}(h:QG X tg gf)(t:QGs X tgs n gs)(hs:(assignEach (tg::tgs) X.env).map (·.2)=assign tg X.env::(assignEach tgs X.env).map (·.2):=by rfl):QGs X (tg::tgs) (n+1) (gfCons gf gs):=by
 obtain⟨g,p,k⟩:=h.to;obtain⟨gg,pp,kk⟩:=t.to;refine⟨⟨gCons g gg,a3N p pp hs,fun P O L ds vs ρ ρ' σ H Q r l e q=>?_⟩,fun ds ρ ρ' e=>?_⟩
 ·cases ds with
  | nil=>cases e
  | cons d ds=>
   rw[DenL] at l;obtain⟨v,rs,rfl,hd,l⟩:=l;simp only[gfCons] at e;obtain⟨ρ1,e1,e⟩:=obs e;obtain⟨P',r1,k1⟩:=holdL r l;refine⟨v,rs,rfl,k P' O L d v ρ ρ1 σ H _ r1 hd e1 fun σ' H' r2=>?_⟩;obtain⟨r3,l3⟩:=k1 _ _ _ r2;exact kk P O L ds rs ρ1 ρ' σ' H' Q r3 l3 e q
 ·cases ds with
  | nil=>cases e
  | cons d ds=>
   simp only[gfCons] at e;cases e1:gf d ρ with
   | none=>rw[e1] at e;cases e
   | some ρ1=>rw[e1] at e;rw[qC,t.len ds ρ1 ρ' e]
theorem a1I {tgs:List Expr}{n k:Nat}{gs:FGs}(hc:X.calm=true)(h:QGs X tgs n gs)(hn:(assignEach tgs X.env).length=n:=by rfl)(hst:(assignEach tgs X.env).findIdx? (·.1)=none:=by rfl):QG X (.Tuple tgs k pos) (gfTup gs):=by
 obtain⟨gg,pp,kk⟩:=h.to;refine⟨gTup X.K n gg,a7N hc pp hn hst,fun P O L d v ρ ρ' σ H Q r hd e q=>?_⟩;cases d with
 | tup ds=>
  rw[Den] at hd;obtain⟨a,vs,ev,hq,l⟩:=hd;exact⟨a,vs,ev,hq,by rw[<-a8 l];exact h.len ds ρ ρ' e,kk P O L ds vs ρ ρ' σ H Q r l e q⟩
 | _=>cases e
def gfSub (f g:FX):FG:=fun d ρ=>(f ρ).bind fun p=>match p.1 with
 | .r j=>(g p.2).bind fun q=>(dr q.2 q.1.fz).bind fun k=>match k,ownAt q.2 j with
  | .int k,some (.lst xs)=>(ixN xs.length k).map fun n=>setOwn q.2 j (.lst (xs.set n d))
  | _,_=>none
 | _=>none
theorem a8d (ha:QX X a f)(hb:QX X b g)(hs:∀v,assign (.Subscript a b pos) X.env v=(do
   let ov <-holding [v] (eval a X.env)
   let iv <-holding [v,ov] (eval b X.env)
   standAt pos
   holding [v,ov,iv] (setItem ov iv v)
   release [v,ov,iv] []):=by intro _;rfl):QG X (.Subscript a b pos) (gfSub f g):=by
 refine⟨_,a8o ha.to hb.to a3P hs,fun P O L d v ρ ρ' σ H Q r hd e q=>?_⟩;unfold gfSub at e;obtain⟨⟨w1,ρ1⟩,e1,e⟩:=obs e;dsimp only at e;split at e
 ·rename_i w1 j;obtain⟨⟨w2,ρ2⟩,e2,e⟩:=obs e;dsimp only at e;cases e3:dr ρ2 w2.fz with
  | none=>rw[e3] at e;cases e
  | some k=>
   rw[e3] at e;simp only[bind_some] at e;split at e
   ·rename_i _ _ i xs e4;obtain⟨n,e5,e⟩:=oms e;cases e;have r0:Rep X ((d,v)::P) O L ρ σ H:=r.more hd;refine⟨(d,v)::P,O,L,ρ,_,ρ1,r0,e1,fun o H1 H1' r1 s1 d1=>?_⟩;have d1:σ[j]? =some (some o):=d1;refine⟨(d,v)::P,O,L,ρ1,w2,ρ2,r1.grow s1,e2,fun u H2 H2' r2 s2 d2=>?_⟩;have r3:=r2.grow s2;have ki:=g4 (E6 r3 e3 (d2.fz r2 s2));obtain⟨w0,q0,ow⟩:=l6 e4;obtain⟨pa,h1,vs,h2,l⟩:=r3.obj q0 ow;rw[d1] at h1;cases h1;have av:∀b,AvO O (setOwn ρ2 j (.lst (xs.set n d))) σ b->AvO O ρ2 σ b:=fun b z=>z.imp id fun z=>(G8 e4 b).mp z;refine⟨pa,vs,i,n,rfl,ki,h2,by rw[<-a8 l];exact e5,q σ _ ((r3.less).mut e4 d1 (fun b o eb nb=>by rw[b8 nb];exact eb) ⟨_,o4,?_⟩)⟩
    have g0:Go (AvO O ρ2 σ) (AvO O ρ2 σ) (fun b=>b=pa) H2' (upd H2' pa (.lst (vs.set n v))):=⟨fun b o eb nb=>by rw[b8 nb];exact eb,fun b z=>by rw[z];exact⟨.inr ⟨j,w0,_,q0,ow,d1⟩,_,h2,trivial⟩,fun b z=>.inl z⟩
    exact m7 g0 _ _ (a02 r3.head n l)
   ·cases e
 ·cases e
def fAsgG (f:FX) (gf:FG):FS:=fun ρ=>(f ρ).bind fun p=>(takeAll p.2 [p.1.fz]).bind fun q=>match q.1 with
 | [d]=>(gf d q.2).map .nx
 | _=>none
theorem a5l {tg:Expr}{gf:FG}(ha:QX X e f)(hg:QG X tg gf)(hs:swapsWithSole [tg] e pos.line X.env=pure false:=by rfl)(hw:swappedStores [tg] e X.env=pure none:=by rfl)(h1:(assignEach [tg] X.env).map (·.2)=[assign tg X.env]:=by rfl):QS X (.Assign [tg] e pos) (fAsgG f gf):=by
 obtain⟨g,p,k⟩:=hg.to;refine⟨PS.weak (a79 ha.to p hs hw h1) fun E σ H h0=>tSe h0 fun P O L ρ r rp e q=>?_⟩;unfold fAsgG at e;obtain⟨⟨w,ρ1⟩,e1,e⟩:=obs e;dsimp only at e;obtain⟨⟨ds,ρ2⟩,e2,e⟩:=obs e;dsimp only at e;split at e
 ·rename_i d;obtain⟨ρ3,e3,e⟩:=oms e;cases e;refine⟨P,O,L,ρ,w,ρ1,rp,e1,fun v H1 H' r1 s1 d1=>?_⟩;obtain⟨r2,l2,_⟩:=l5 (vs:=[v]) (r1.grow s1) e2 ⟨v,[],rfl,d1.fz r1 s1,rfl⟩;obtain⟨v',ev,h'⟩:=denL1 l2;cases ev;exact k P O L d v ρ2 ρ3 σ H' _ r2 h' e3 fun σ' H' r'=>q σ' H' r'
 ·cases e
def fDrop (f:FX):FS:=fun ρ=>(f ρ).map fun p=>.nx p.2
theorem a5V (ha:QX X e f)(hs:swapsWith e none pos.line X.env=pure false:=by rfl):QS X (.Expr e pos) (fDrop f):=⟨PS.weak (a6n ha.to hs) fun E σ H h0=>tSe h0 fun P O L ρ r rp e q=>by
 unfold fDrop at e;obtain⟨p,e1,e⟩:=oms e;cases e
 exact⟨P,O,L,ρ,p.1,p.2,rp,e1,fun v H1 H' r1 s1 d1=>q σ H' (r1.grow s1)⟩⟩
def fPar (i j:Nat) (fa:FA):FS:=fun ρ=>(fa ρ).bind fun p=>(takeAll p.2 p.1).bind fun q=>match q.1 with
 | [d,d']=>if freeSlot q.2 i=true/\freeSlot (q.2.set i (some (.v d))) j=true then some (.nx ((q.2.set i (some (.v d))).set j (some (.v d')))) else none
 | _=>none
theorem a1y (i j:Nat){x y:Str}{px py pt:Pos}{kt k2 pt2}(hc:X.calm=true)(hN:X.N.Nodup)(ha:QA X [a,b] fa)(hw:swappedStores [.Tuple [.Name x px,.Name y py] kt pt] (.Tuple [a,b] k2 pt2) X.env=pure (some [x,y]))(hi:X.N[i]? =some x:=by rfl)(hj:X.N[j]? =some y:=by rfl)(hij:i≠j:=by decide)
  (hx:X.env.scope.names.lookup x=some .local:=by rfl) (hy:X.env.scope.names.lookup y=some .local:=by rfl)
  (hs:swapsWithSole [.Tuple [.Name x px,.Name y py] kt pt] (.Tuple [a,b] k2 pt2) pos.line X.env=pure false:=by rfl):
  QS X (.Assign [.Tuple [.Name x px,.Name y py] kt pt] (.Tuple [a,b] k2 pt2) pos) (fPar i j fa):=⟨PS.weak (a8h hc hN hi hj hij hx hy ha.to hw hs) fun E σ H h0=>tSe h0 fun P O L ρ r rp e q=>by
 unfold fPar at e;obtain⟨⟨ws,ρ1⟩,e1,e⟩:=obs e;dsimp only at e;obtain⟨⟨ds,ρ2⟩,e2,e⟩:=obs e;dsimp only at e;split at e
 ·rename_i d d';split at e
  ·rename_i hf;cases e;refine⟨P,O,L,ρ,ws,ρ1,rp,e1,fun vs H1 r1 l1=>?_⟩;obtain⟨r2,l2,_⟩:=l5 r1 e2 l1;obtain⟨v,v',rfl,h,h'⟩:=denL2 l2;have r3:=(r2.more (p:=(d',v')) h').put (i:=i) hf.1 h;exact⟨v,v',rfl,q _ H1 (r3.less.put (i:=j) hf.2 r3.head)⟩
  ·cases e
 ·cases e⟩
end
def whileF (c:FT) (b:FS):Nat->Ev->Option R
 | 0,_=>none
 | n+1,ρ=>(c ρ).bind fun k=>if k.1=true then(b k.2).bind (fun r=>match r with
   | .nx ρ'=>whileF c b n ρ'
   | .ct ρ'=>whileF c b n ρ'
   | .bk ρ'=>some (.nx ρ')
   | .rt d ρ'=>some (.rt d ρ')) else some (.nx k.2)
theorem E3 {c:FT}{b:FS}:∀{n:Nat} {ρ:Ev} {r:R},whileF c b n ρ=some r->whileF c b (n+1) ρ=some r
 | 0,ρ,r,h=>by cases h
 | n+1,ρ,r,h=>by
  rw[whileF] at h ⊢;cases e:c ρ with
  | none=>rw[e] at h;cases h
  | some k=>
   rw[e] at h;obtain⟨k,ρ1⟩:=k;cases k with
   | false=>exact h
   | true=>
    simp only[bind_some,jD] at h ⊢;cases e2:b ρ1 with
    | none=>rw[e2] at h;cases h
    | some r2=>
     rw[e2] at h;cases r2 with
     | nx ρ'=>exact E3 (n:=n) h
     | ct ρ'=>exact E3 (n:=n) h
     | bk ρ'=>exact h
     | rt d ρ'=>exact h
theorem W0 {c:FT}{b:FS}{n m:Nat}{ρ:Ev}{r:R}(h:whileF c b n ρ=some r)(hm:n<=m):whileF c b m ρ=some r:=by
 induction hm with
 | refl=>exact h
 | step _ ih=>exact E3 ih
open Classical in
def whileV (c:FT) (b:FS):FS:=fun ρ=>if h:∃r,∃n,whileF c b n ρ=some r then some h.choose else none
theorem a27 {c:FT}{b:FS}{n:Nat}{ρ:Ev}{r:R}(h:whileF c b n ρ=some r):whileV c b ρ=some r:=by
 have z:∃r,∃n,whileF c b n ρ=some r:=⟨r,n,h⟩;unfold whileV;rw[dif_pos z];obtain⟨m,hm⟩:=z.choose_spec;have h1:=W0 h (Nat.le_max_left n m);have h2:=W0 hm (Nat.le_max_right n m);rw[h1] at h2;exact h2.symm
theorem a3u {c:FT}{b:FS}{ρ:Ev}{r:R}(h:whileV c b ρ=some r):∃n,whileF c b n ρ=some r:=by
 unfold whileV at h;split at h
 ·rename_i z;cases h;exact z.choose_spec
 ·cases h
section
variable {X:Cx}{a b c e:Expr}{body:List Stmt}{pos:Pos}{f g:FX}{t:FT}{fa:FA}{F:FS}
theorem a0L (hp:PassesOwn (model X.prog X.w) X.A X.env X.xe)(hc:QT X c t)(hb:QSs X body F):QS X (.While c body [] pos) (whileV t F):=⟨PS.weak (a5F hp hc.to hb.to) fun E σ H h0=>tSe h0 fun P O L ρ r rp e q=>by
 obtain⟨n,e⟩:=a3u e;refine⟨fun m σ H=>∃ρ,Rep X P O L ρ σ H/\whileF t F m ρ=some r,⟨n,ρ,rp,e⟩,fun m σ H ⟨ρ,rp,e⟩=>?_⟩;cases m with
 | zero=>cases e
 | succ m=>
  rw[whileF] at e;obtain⟨⟨k,ρ1⟩,e1,e⟩:=obs e;refine⟨P,O,L,ρ,k,ρ1,rp,e1,fun H1 r1=>?_⟩;cases k with
  | false=>
   rw[if_neg zS];cases e;exact q σ H1 r1
  | true=>
   rw[if_pos rfl];simp only[bind_some,jD] at e;obtain⟨r2,e2,e⟩:=obs e;refine⟨fun σ' H'=>∃ρ,Rep X P O L ρ σ' H'/\whileF t F m ρ=some r,fun σ' H' h=>⟨m,Nat.lt_succ_self m,h⟩,P,O,L,ρ1,r2,r1,e2,?_⟩;cases r2 with
   | nx ρ'=>exact fun σ' H' rp'=>⟨ρ',rp',e⟩
   | ct ρ'=>exact fun σ' H' rp'=>⟨ρ',rp',e⟩
   | bk ρ'=>cases e;exact fun σ' H' rp'=>q σ' H' rp'
   | rt d ρ'=>cases e;exact q⟩
abbrev FI:=Ev->Option (List D×Ev)
def Wks (K:PySem.W.Frag) (P:List (D×V)) (xs:List D) (J:It):Prop:=∀(Y:Cx) (O:Av) (L:List (Option Nat×Addr)) (ρ:Ev) (σ:L2.St) (H:Hp),Y.K=K->Rep Y P O L ρ σ H->
 (∀(i:Nat) (x:D),xs[i]? =some x->J.go i H/\∀v H',J.yld i H v H'->Same H H'/\Den K (AvO O ρ σ) H' x v)/\J.stop xs.length H
def Holds (P P':List (D×V)):Prop:=∀p∈P',p∈P
theorem Rep.holds {P P':List (D×V)}{O:Av}{L:List (Option Nat×Addr)}{ρ:Ev}{σ:L2.St}{H:Hp}(r:Rep X P O L ρ σ H)(h:Holds P P'):Rep X P' O L ρ σ H:=⟨r.same,r.amb,r.len,r.slot,r.inj,r.new,r.lnt,r.lnd,fun p hp=>r.prot p (h p hp),r.gvl⟩
def tI (X:Cx) (fi:FI):TI:=fun σ H R=>∃P O L ρ xs ρ',Rep X P O L ρ σ H/\fi ρ=some (xs,ρ')/\∀J H1 P',Rep X P' O L ρ' σ H1->Holds P' P->Wks X.K P' xs J->R J H1
theorem tIe {X:Cx}{fi:FI}{σ:L2.St}{H:Hp}{R:It->Hp->Prop}{C:Prop}(h:tI X fi σ H R)(k:∀P O L ρ xs ρ',Rep X P O L ρ σ H->fi ρ=some (xs,ρ')->(∀J H1 P',Rep X P' O L ρ' σ H1->Holds P' P->Wks X.K P' xs J->R J H1)->C):C:=by
 obtain⟨P,O,L,ρ,w,ρ',r,e,q⟩:=h;exact k P O L ρ w ρ' r e q
structure QI (X:Cx) (tg iter:Expr) (fi:FI):Prop where
 to:PI X tg iter (tI X fi)
theorem PI.weak {tg e:Expr}{t u:TI}(h:PI X tg e t)(w:∀σ H Q,u σ H Q->t σ H Q):PI X tg e u:=fun pins s σ H Q I q=>h pins s σ H Q I (w σ H Q q)
def iSeq (K:PySem.W.Frag) (tl:TE):TI:=fun σ H R=>tl σ H fun x H1=>(∃a,x= .ref a/\(∃xs,SqL K H1 a xs)/\R (Itl K a) H1)\/∃a,x= .ref a/\(∃xs,SqT K H1 a xs)/\R (Itt K a) H1
theorem a3I {tg l:Expr}{tl:TE}(hl:PE X l tl):PI X tg l (iSeq X.K tl):=by
 intro pins s σ H R I h;refine thn (hl pins s σ H _ I h) fun v s1 ⟨x,H1,I1,r1,q1⟩=>?_;rcases q1 with ⟨a,e,⟨xs,hq⟩,q⟩|⟨a,e,⟨xs,hq⟩,q⟩
 ·subst e;cases r1;obtain⟨its,rv,p,hz⟩:=I1.list hq;refine wpAny_pyIter_list p.isList ?_;refine⟨s1.heap.objs.size,[s1.heap.objs.size],_,_,H1,rfl,I1.kept (t':=s1.toks) fun b o e=>zI _ e,a3v a _,⟨_,qK _ rfl,rfl,rfl⟩,fun b hb=>?_,q⟩;have e:b=s1.heap.objs.size:=by simpa using hb
  subst e;exact I1.fpOk (zC _) (I1.hok.fresh (zC _))
 ·subst e;cases r1;obtain⟨its,rv,p,hz⟩:=I1.tuple hq;refine wpAny_pyIter_tuple (show s1.heap.IsTuple a its.toArray from p) ?_;refine⟨s1.heap.objs.size,[s1.heap.objs.size],_,_,H1,rfl,I1.kept (t':=s1.toks) fun b o e=>zI _ e,a1H a _,⟨_,qK _ rfl,rfl,rfl⟩,fun b hb=>?_,q⟩;have e:b=s1.heap.objs.size:=by simpa using hb
  subst e;exact I1.fpOk (zC _) (I1.hok.fresh (zC _))
def fiSeq (f:FX):FI:=fun ρ=>(f ρ).bind fun p=>(takeAll p.2 [p.1.fz]).bind fun q=>match q.1 with
 | [d]=>(items d).map fun xs=>(xs,q.2)
 | _=>none
theorem a0o {tg l:Expr}(hl:QX X l f):QI X tg l (fiSeq f):=⟨PI.weak (a3I hl.to) fun σ H R h0=>tIe h0 fun P O L ρ xs ρ' r e q=>by
 unfold fiSeq at e;obtain⟨⟨w,ρ1⟩,e1,e⟩:=obs e;dsimp only at e;obtain⟨⟨ds,ρ2⟩,e2,e⟩:=obs e;dsimp only at e;split at e
 ·rename_i d;obtain⟨ys,e3,e⟩:=oms e;cases e;refine⟨P,O,L,ρ,w,ρ1,r,e1,fun v H1 H' r1 s1 d1=>?_⟩;obtain⟨r2,l2,_⟩:=l5 (vs:=[v]) (r1.grow s1) e2 ⟨v,[],rfl,d1.fz r1 s1,rfl⟩;obtain⟨v',ev,h'⟩:=denL1 l2;cases ev;have r3:=r2.more (p:=(d,v)) h';have hh:Holds ((d,v)::P) P:=fun p hp=>zN _ hp;cases d with
  | tup zs=>
   cases e3;have z:=h';rw[Den] at z;obtain⟨a,vs,rfl,hq,l⟩:=z;refine .inr ⟨a,rfl,⟨vs,hq⟩,q _ H' _ r3 hh fun Y O' L' ρ' σ' Hh hY rr=>?_⟩;have z:=rr.head;rw[hY] at z;rw[Den] at z;obtain⟨a',vs,ea,hq,l⟩:=z;cases ea;refine⟨fun i x ex=>?_,vs,hq,by rw[<-a8 l];exact zC _⟩
   obtain⟨v0,hv,dv⟩:=r6 l ex;exact⟨⟨vs,v0,hq,hv⟩,fun w H' ⟨y1,y2⟩=>by subst y1;have:=y2 vs hq;rw[hv] at this;cases this;exact⟨Same.refl _,dv⟩⟩
  | lst zs=>
   cases e3;obtain⟨a,vs,rfl,hq,l⟩:=A9 h';refine .inl ⟨a,rfl,⟨vs,hq⟩,q _ H' _ r3 hh fun Y O' L' ρ' σ' Hh hY rr=>?_⟩;have z:=rr.head;rw[hY] at z;obtain⟨a',vs,ea,hq,l⟩:=A9 z;cases ea;refine⟨fun i x ex=>?_,vs,hq,by rw[<-a8 l];exact zC _⟩
   obtain⟨v0,hv,dv⟩:=r6 l ex;exact⟨⟨vs,v0,hq,hv⟩,fun w H' ⟨y1,y2⟩=>by subst y1;have:=y2 vs hq;rw[hv] at this;cases this;exact⟨Same.refl _,dv⟩⟩
  | _=>cases e3
 ·cases e⟩
def rngD (lo:Int) (n:Nat):List D:=(List.range n).map fun(i:Nat)=>D.int (lo+i)
theorem a3E {K:PySem.W.Frag}{P:List (D×V)}(lo:Int)(n:Nat):Wks K P (rngD lo n) (Itr lo n):=fun Y O L ρ σ H _ _=>by
 unfold rngD;refine⟨fun i x ex=>?_,by show(List.length _)≥n;simp⟩
 rw[qE] at ex
 by_cases hi:i<n
 ·rw[List.getElem?_range hi] at ex;cases ex;exact⟨hi,fun v H' ⟨y1,y2⟩=>by subst y1;exact⟨Same.refl _,C5.mpr y2⟩⟩
 ·rw[List.getElem?_eq_none (by simpa using hi)] at ex;cases ex
def fiR1 (fa:FA):FI:=fun ρ=>(fa ρ).bind fun p=>match p.1 with
 | [.v (.int n)]=>if -(2^62)<=n/\n<2^62 then some (rngD 0 n.toNat,p.2) else none
 | _=>none
theorem Q6 {tg:Expr}{p:Pos}(hm:X.mg "range"=none)(ha:QA X [a] fa)(hg:Gl X "range":=by rfl)(hs:starEach [a] X.env=[(false,eval a X.env)]:=by rfl):QI X tg (.Call (.Name "range" p) [a] [] pos) (fiR1 fa):=⟨PI.weak (a3i hg hm ha.to hs) fun σ H R h0=>tIe h0 fun P O L ρ xs ρ' r e q=>by
 unfold fiR1 at e;obtain⟨⟨ws,ρ1⟩,e1,e⟩:=obs e;dsimp only at e;split at e
 ·rename_i n;split at e
  ·rename_i hn;cases e;refine⟨P,O,L,ρ,_,_,r,e1,fun vs H1 r1 l1=>?_⟩;obtain⟨v,rs,rfl,h1,l1⟩:=l1;have l1:rs=[]:=l1;have h1:Den X.K (AvO O ρ' σ) H1 (.int n) v:=h1;subst l1;exact⟨n,by rw[C5.mp h1],hn.1,hn.2,q _ H1 P r1 (fun p hp=>hp) (a3E 0 _)⟩
  ·cases e
 ·cases e⟩
def fiR2 (fa:FA):FI:=fun ρ=>(fa ρ).bind fun p=>match p.1 with
 | [.v (.int m),.v (.int n)]=>if(-(2^62)<=m/\m<2^62)/\-(2^62)<=n/\n<2^62 then some (rngD m (n-m).toNat,p.2) else none
 | _=>none
def loopF (b:D->FS):List D->Ev->Option R
 | [],ρ=>some (.nx ρ)
 | x::xs,ρ=>(b x ρ).bind fun r=>match r with
  | .nx ρ'=>loopF b xs ρ'
  | .ct ρ'=>loopF b xs ρ'
  | .bk ρ'=>some (.nx ρ')
  | .rt d ρ'=>some (.rt d ρ')
def turnF (gf:FG) (b:FS):D->FS:=fun x ρ=>(gf x ρ).bind b
def fFor (fi:FI) (gf:FG) (b:FS):FS:=fun ρ=>(fi ρ).bind fun p=>loopF (turnF gf b) p.1 p.2
theorem D5 {tg iter:Expr}{fi:FI}{gf:FG}(hp:PassesOwn (model X.prog X.w) X.A X.env X.xe)(hc:X.calm=true)(hi:QI X tg iter fi)(hg:QG X tg gf)(hb:QSs X body F)(hs:∀x,foldedSetIterable iter X.env x=pure x:=by intro _;rfl):
  QS X (.For tg iter body [] pos) (fFor fi gf F):=by
 obtain⟨g,pg,kg⟩:=hg.to;refine⟨PS.weak (a8g hp hc hi.to pg hb.to hs) fun E σ H h0=>tSe h0 fun P O L ρ r rp e q=>?_⟩;unfold fFor at e;obtain⟨⟨xs,ρ1⟩,e1,e⟩:=obs e;dsimp only at e;refine⟨P,O,L,ρ,xs,ρ1,rp,e1,fun J H1 P' r1 hh wk=>?_⟩;refine⟨fun i m σ H=>m=xs.length-i/\i<=xs.length/\∃ρ,Rep X P' O L ρ σ H/\loopF (turnF gf F) (xs.drop i) ρ=some r,⟨xs.length,by simp,qW _,ρ1,r1,by simpa using e⟩,?_⟩
 rintro i m σ H ⟨rfl,hi,ρ,rp,e⟩;obtain⟨wi,ws⟩:=wk X O L ρ σ H rfl rp
 by_cases hlt:i<xs.length
 ·obtain⟨go,yl⟩:=wi i xs[i] (by simp[hlt])
  refine .inr ⟨go,fun σ' H'=>∃ρ,Rep X P' O L ρ σ' H'/\loopF (turnF gf F) (xs.drop (i+1)) ρ=some r,fun σ' H' h=>⟨xs.length-(i+1),by omega,rfl,hlt,h⟩,fun v H' y=>?_⟩
  obtain⟨sm,dv⟩:=yl v H' y;rw[List.drop_eq_getElem_cons hlt,loopF] at e;cases e1:turnF gf F xs[i] ρ with
  | none=>rw[e1] at e;cases e
  | some r1=>
   rw[e1] at e;simp only[bind_some] at e;unfold turnF at e1;obtain⟨ρ1,e2,e1⟩:=obs e1;refine kg P' O L xs[i] v ρ ρ1 σ _ _ (rp.grow sm) dv e2 fun σ' H2 rp'=>⟨P',O,L,ρ1,r1,rp',e1,?_⟩;cases r1 with
   | nx ρ2=>exact fun σ2 H2 rp2=>⟨ρ2,rp2,e⟩
   | ct ρ2=>exact fun σ2 H2 rp2=>⟨ρ2,rp2,e⟩
   | bk ρ2=>cases e;exact fun σ2 H2 rp2=>q σ2 H2 (rp2.holds hh)
   | rt d ρ2=>cases e;exact q
 ·have ei:i=xs.length:=by omega
  subst ei;rw[List.drop_length,loopF] at e;cases e;exact .inl ⟨ws,q σ H (rp.holds hh)⟩
end
def spF (K:PySem.W.Frag) (g:List D->Option W):Sp:=fun vs H Q _=>∃(A:Av) (ds:List D) (w:W),(∀b,A b->∃o,H b=some o)/\DenL K A H ds vs/\g ds=some w/\∀v H',Same H H'->DenW K A [] H H' w v->Q v H'
def spL (K:PySem.W.Frag) (g:D->List D->Option (W×D)):Sp:=fun vs H Q _=>∃(A:Av) (a:Addr) (c:D) (ds:List D) (us:List V) (w:W) (c':D),vs= .ref a::us/\(∀b,A b->∃o,H b=some o)/\¬A a/\Obj K (fun b=>A b\/b=a) H a c/\DenL K (fun b=>A b\/b=a) H ds us/\g c ds=some (w,c')/\
 ∀v H',(∀b o,H b=some o->b≠a->H' b=some o)->Obj K (fun b=>A b\/b=a) H' a c'->DenW K (fun b=>A b\/b=a) [] H H' w v->Q v H'
structure FnS (P:Program) (w:World) (K:PySem.W.Frag) (mg:Str->Option Value) (base:Heap) (x:Str) (k:Nat) (sp:Sp):Prop where
 ex:∃(f:Addr) (fd:FuncData) (ps:List Str),FnOk P w K mg base CX0 k f fd ps sp/\Binds K fd ps []/\PySem.W.keepIn K (.ref f)=true/\mg x=some (.ref f)
abbrev Fn (P:Program) (w:World) (K:PySem.W.Frag) (mg:Str->Option Value) (base:Heap) (x:Str) (k:Nat) (g:List D->Option W):Prop:=FnS P w K mg base x k (spF K g)
abbrev FnL (P:Program) (w:World) (K:PySem.W.Frag) (mg:Str->Option Value) (base:Heap) (x:Str) (k:Nat) (g:D->List D->Option (W×D)):Prop:=FnS P w K mg base x k (spL K g)
section
variable {P:Program}{w:World}{K:PySem.W.Frag}{mg:Str->Option Value}{base:Heap}{x:Str}{j k:Nat}
theorem FnS.mono {sp:Sp}(F:FnS P w K mg base x j sp)(h:j<=k):FnS P w K mg base x k sp:=by
 obtain⟨f,fd,ps,a,b,c,d⟩:=F.ex;exact⟨f,fd,ps,a.mono h,b,c,d⟩
end
def lfC:D->Bool
 | .lst xs=>lfL xs
 | .dT _ xs=>lfL xs
 | .dK _ xs=>lfL xs
 | _=>false
def lfW:W->Bool
 | .v d=>lf d
 | .o d=>lfC d
 | _=>false
def frzL:List W->Ev->Option Ev
 | [],ρ=>some ρ
 | .r i::ws,ρ=>(frzAt ρ i).bind (frzL ws)
 | _::ws,ρ=>frzL ws ρ
def fDef (g:List D->Option W) (fa:FA):FX:=fun ρ=>(fa ρ).bind fun p=>(drs p.2 p.1).bind fun ds=>(g ds).bind fun w=>if lfW w=true then some (w,p.2) else(frzL p.1 p.2).map fun ρ2=>(w,ρ2)
def noR (i:Nat):List W->Bool
 | []=>true
 | .r j::ws=>i != j&&noR i ws
 | _::ws=>noR i ws
def fDefL (g:D->List D->Option (W×D)) (fa:FA):FX:=fun ρ=>(fa ρ).bind fun p=>match p.1 with
 | .r i::ws=>(ownAt p.2 i).bind fun c=>(drs p.2 ws).bind fun ds=>(g c ds).bind fun z=>if noR i ws=true/\lfC z.2=true then(if lfW z.1=true then some (z.1,setOwn p.2 i z.2) else(frzL ws (setOwn p.2 i z.2)).map fun ρ2=>(z.1,ρ2)) else none
 | _=>none
section
variable {K:PySem.W.Frag}{A A':Av}{H H':Hp}
theorem J5 (g:∀b o,H b=some o->¬Mu o->H' b=some o){a:Addr}{d:D}(f:lfC d=true)(hk:H' a=H a)(h:Obj K A H a d):Obj K A' H' a d:=by
 cases d with
 | lst xs=>obtain⟨vs,e,l⟩:=h;exact⟨vs,hk.trans e,L6 g _ _ f l⟩
 | dT ks xs=>obtain⟨vs,e,hl,l⟩:=h;exact⟨vs,hk.trans e,hl,L6 g _ _ f l⟩
 | dK ks xs=>obtain⟨vs,e,hl,l⟩:=h;exact⟨vs,hk.trans e,hl,L6 g _ _ f l⟩
 | _=>exact h.elim
end
section
variable {X:Cx}{P:List (D×V)}{O:Av}{L:List (Option Nat×Addr)}{ρ ρ':Ev}{σ:L2.St}{H:Hp}
theorem B6:∀{ws:List W} {ρ ρ':Ev},Rep X P O L ρ σ H->frzL ws ρ=some ρ'->Rep X P O L ρ' σ H/\∀(j:Nat) (w:W) (d:D),ρ'[j]? =some (some w)->w.own=some d->ρ[j]? =some (some w)/\W.r j∉ws
 | [],ρ,ρ',r,e=>by cases e;exact⟨r,fun j w d e1 _=>⟨e1,by simp⟩⟩
 | .r i::ws,ρ,ρ',r,e=>by
  rw[frzL] at e;obtain⟨ρ1,e1,e⟩:=obs e;obtain⟨r1,k1⟩:=r.frz e1;obtain⟨r2,k2⟩:=B6 r1 e;refine⟨r2,fun j w d e1 e2=>?_⟩;obtain⟨a1,a2⟩:=k2 j w d e1 e2;obtain⟨b1,b2⟩:=k1 j w d a1 e2;exact⟨b1,fun z=>(qG.mp z).elim (fun z=>by cases z;exact b2 rfl) a2⟩
 | .v _::ws,ρ,ρ',r,e=>by
  obtain⟨r2,k2⟩:=B6 (ws:=ws) r e;exact⟨r2,fun j w d e1 e2=>⟨(k2 j w d e1 e2).1,fun z=>(qG.mp z).elim (fun z=>by cases z) (k2 j w d e1 e2).2⟩⟩
 | .o _::ws,ρ,ρ',r,e=>by
  obtain⟨r2,k2⟩:=B6 (ws:=ws) r e;exact⟨r2,fun j w d e1 e2=>⟨(k2 j w d e1 e2).1,fun z=>(qG.mp z).elim (fun z=>by cases z) (k2 j w d e1 e2).2⟩⟩
 | .l _::ws,ρ,ρ',r,e=>by
  obtain⟨r2,k2⟩:=B6 (ws:=ws) r e;exact⟨r2,fun j w d e1 e2=>⟨(k2 j w d e1 e2).1,fun z=>(qG.mp z).elim (fun z=>by cases z) (k2 j w d e1 e2).2⟩⟩
def Handed (ρ:Ev) (σ:L2.St) (ws:List W) (b:Addr):Prop:=∃(i:Nat) (w:W) (d:D),W.r i∈ws/\ρ[i]? =some (some w)/\w.own=some d/\σ[i]? =some (some (V.ref b))
theorem M4 {B:Av}(r:Rep X P O L ρ σ H)(hB:∀b,B b->AvO O ρ σ b):∀{ws:List W} {ds:List D} {vs:List V},(∀b,B b->¬Handed ρ σ ws b)->drs ρ ws=some ds->DenA X.K (AvO O ρ σ) σ H ws vs->DenL X.K B H ds vs
 | [],ds,vs,n,e,h=>by cases e;have h:vs=[]:=h;subst h;exact c9
 | w::ws,ds,vs,n,e,h=>by
  obtain⟨v,rs,rfl,h1,h2⟩:=h;rw[drs] at e;cases e1:dr ρ w with
  | none=>rw[e1] at e;cases e
  | some d=>
   cases e2:drs ρ ws with
   | none=>rw[e1,e2] at e;cases e
   | some dd=>
    rw[e1,e2] at e;cases e;refine b9 ?_ (M4 r hB (fun b z y=>n b z (let ⟨i,w,d,m,q⟩:=y;⟨i,w,d,zN _ m,q⟩)) e2 h2);cases w with
    | v c=>cases e1;exact j8 (n5 hB) _ _ h1
    | r i=>
     have h1:σ[i]? =some (some v):=h1;rw[dr] at e1;cases q:ρ[i]? with
     | none=>rw[q] at e1;cases e1
     | some o=>
      rw[q] at e1;cases o with
      | none=>cases e1
      | some w'=>
       cases w' with
       | v c=>
        cases e1;obtain⟨u,q1,q2⟩:=r.slot i _ q;rw[h1] at q1;cases q1;exact j8 (n5 hB) _ _ q2
       | _=>
        obtain⟨a,q1,q2⟩:=r.obj q e1;rw[h1] at q1;cases q1;exact L1 (n6 (n5 hB) rfl q2) fun z=>n a z ⟨i,_,d,zR,q,e1,h1⟩
    | _=>cases e1
theorem J3 {ws:List W}(r:Rep X P O L ρ σ H)(k:∀(j:Nat) (w:W) (d:D),ρ'[j]? =some (some w)->w.own=some d->ρ[j]? =some (some w)/\W.r j∉ws){b:Addr}(z:AvO O ρ' σ b):AvO O ρ σ b/\¬Handed ρ σ ws b:=by
 refine⟨z.imp id fun⟨j,w,d,e1,e2,e3⟩=>⟨j,w,d,(k j w d e1 e2).1,e2,e3⟩,fun⟨i,w,d,m,q1,q2,q3⟩=>?_⟩;rcases z with z|⟨j,w',d',e1,e2,e3⟩
 ·exact r.ambN z ⟨i,w,d,q1,q2,q3⟩
 ·obtain⟨a1,a2⟩:=k j w' d' e1 e2
  have:=r.inj i j w w' d d' b q1 q2 q3 a1 e2 e3
  subst this;exact a2 m
end
section
variable {X:Cx}{e:Expr}{es:List Expr}{pos p:Pos}{fa:FA}{x:Str}{k:Nat}
theorem a3V {g:List D->Option W}:∀σ H Q,tX X (fDef g fa) σ H Q->tCall (spF X.K g) [] E0 (tA X fa) σ H Q:=fun σ H Q h0=>tXe h0 fun P O L ρ w ρ' r e q=>by
 unfold fDef at e;obtain⟨⟨ws,ρ1⟩,e1,e⟩:=obs e;dsimp only at e;cases e2:drs ρ1 ws with
 | none=>rw[e2] at e;cases e
 | some ds=>
  rw[e2] at e;simp only[bind_some] at e;cases e3:g ds with
  | none=>rw[e3] at e;cases e
  | some w1=>
   rw[e3] at e;simp only[bind_some] at e;refine⟨P,O,L,ρ,ws,ρ1,r,e1,fun vs H1 r1 l1=>?_⟩;refine⟨fun b=>AvO O ρ1 σ b/\¬Handed ρ1 σ ws b,ds,w1,fun b z=>r1.there z.1,by rw[xP];exact M4 r1 (fun b z=>z.1) (fun b z=>z.2) e2 l1,e3,fun v H2 s2 d2=>?_⟩
   split at e
   ·rename_i hl;cases e;refine q v H1 H2 r1 s2 ?_;cases w with
    | v d=>exact a1r (fun _ _ e _=>e) _ _ hl d2
    | o d=>obtain⟨a,ev,hn,ob⟩:=d2;exact⟨a,ev,hn,J5 (fun _ _ e _=>e) hl rfl ob⟩
    | _=>cases hl
   ·obtain⟨ρ2,e4,e⟩:=oms e;cases e;obtain⟨r2,k2⟩:=B6 r1 e4;refine q v H1 H2 r2 s2 ?_;have sub:=fun b (z:AvO O ρ' σ b)=>J3 r1 k2 z;cases w with
    | v d=>exact j8 (n5 sub) _ _ d2
    | o d=>obtain⟨a,ev,hn,ob⟩:=d2;exact⟨a,ev,hn,n6 (n5 fun b z=>z.imp (sub b) id) rfl ob⟩
    | r i=>exact absurd d2 (by simp[DenW])
    | l d=>exact d2.elim
theorem o8 {g:List D->Option W}(F:Fn X.prog X.w X.K X.mg X.base x k g)(hr:Room k X.A)(ha:QA X (e::es) fa)(hg:Gl X x:=by rfl)(hdb:(x==("__debug__":Str))=false:=by decide)
  (he:starEach (e::es) X.env=(false,eval e X.env)::starEach es X.env:=by rfl) (hpl:(backTo pos (starEach es X.env)).any (·.1)=false:=by rfl):QX X (.Call (.Name x p) (e::es) [] pos) (fDef g fa):=by
 obtain⟨f,fd,ps,F,b,kp,hm⟩:=F.ex;exact⟨PE.weak (a1Y F hr hg hm kp b .nil pass0 ha.to hdb he hpl) a3V⟩
theorem a6b {g:List D->Option W}(F:Fn X.prog X.w X.K X.mg X.base x k g)(hr:Room k X.A)(hg:Gl X x:=by rfl)(hdb:(x==("__debug__":Str))=false:=by decide):QX X (.Call (.Name x p) [] [] pos) (fun ρ=>(g []).map fun w=>(w,ρ)):=by
 obtain⟨f,fd,ps,F,b,kp,hm⟩:=F.ex;refine⟨PE.weak (a4w F hr hg hm kp b .nil pass0 hdb) fun σ H Q h0=>tXe h0 fun P O L ρ w ρ' r e q=>?_⟩;obtain⟨w1,e1,e⟩:=oms e;cases e;exact⟨AvO O ρ σ,[],w,fun b z=>r.there z,c9,e1,fun v H2 s2 d2=>q v H H2 r s2 d2.st⟩
theorem G1 {i:Nat}:∀{ws:List W},noR i ws=true->W.r i∉ws
 | [],_=>by simp
 | .r j::ws,h=>by
  rw[noR,jQ] at h;exact fun z=>(qG.mp z).elim (fun z=>by cases z;simp at h) (G1 h.2)
 | .v _::ws,h=>fun z=>(qG.mp z).elim (fun z=>by cases z) (G1 (ws:=ws) h)
 | .o _::ws,h=>fun z=>(qG.mp z).elim (fun z=>by cases z) (G1 (ws:=ws) h)
 | .l _::ws,h=>fun z=>(qG.mp z).elim (fun z=>by cases z) (G1 (ws:=ws) h)
theorem p9 {g:D->List D->Option (W×D)}(F:FnL X.prog X.w X.K X.mg X.base x k g)(hr:Room k X.A)(ha:QA X (e::es) fa)(hg:Gl X x:=by rfl)(hdb:(x==("__debug__":Str))=false:=by decide)
  (he:starEach (e::es) X.env=(false,eval e X.env)::starEach es X.env:=by rfl) (hpl:(backTo pos (starEach es X.env)).any (·.1)=false:=by rfl):QX X (.Call (.Name x p) (e::es) [] pos) (fDefL g fa):=by
 obtain⟨f,fd,ps,F,b,kp,hm⟩:=F.ex;refine⟨PE.weak (a1Y F hr hg hm kp b .nil pass0 ha.to hdb he hpl) fun σ H Q h0=>tXe h0 fun P O L ρ w ρ' r e q=>?_⟩;unfold fDefL at e;obtain⟨⟨ws0,ρ1⟩,e1,e⟩:=obs e;dsimp only at e;split at e
 ·rename_i i ws;cases e0:ownAt ρ1 i with
  | none=>rw[e0] at e;cases e
  | some c=>
   rw[e0] at e;simp only[bind_some] at e;cases e2:drs ρ1 ws with
   | none=>rw[e2] at e;cases e
   | some ds=>
    rw[e2] at e;simp only[bind_some] at e;obtain⟨⟨w1,c'⟩,e3,e⟩:=obs e;dsimp only at e;split at e
    ·rename_i hc;refine⟨P,O,L,ρ,_,ρ1,r,e1,fun vs H1 r1 l1=>?_⟩;obtain⟨v0,us,rfl,h0,l1⟩:=l1;have h0:σ[i]? =some (some v0):=h0;obtain⟨w0,q0,ow⟩:=l6 e0;obtain⟨a,h1,ob⟩:=r1.obj q0 ow;rw[h0] at h1;cases h1;have ia:Ow ρ1 σ a:=⟨i,w0,c,q0,ow,h0⟩;have nh:¬Handed ρ1 σ ws a:=fun⟨j,w',d',m,q1,q2,q3⟩=>by
      have:=r1.inj i j w0 w' c d' a q0 ow h0 q1 q2 q3
      subst this;exact G1 hc.1 m
     have sub:∀b,((AvO O ρ1 σ b/\b≠a/\¬Handed ρ1 σ ws b)\/b=a)->AvO O ρ1 σ b:=fun b z=>z.elim (·.1) fun z=>by rw[z];exact .inr ia
     refine⟨fun b=>AvO O ρ1 σ b/\b≠a/\¬Handed ρ1 σ ws b,a,c,ds,us,w1,c',by rw[xP],fun b z=>r1.there z.1,fun z=>z.2.1 rfl,n6 (n5 sub) rfl ob,
      M4 r1 sub (fun b z=>z.elim (·.2.2) fun z=>by rw[z];exact nh) e2 l1,e3,fun v H2 k2 o2 d2=>?_⟩
     have main:∃Hx,Same Hx H2/\Rep X P O L (setOwn ρ1 i c') σ Hx/\∀A':Av,((∀b,A' b->((AvO O ρ1 σ b/\b≠a/\¬Handed ρ1 σ ws b)\/b=a))\/lfW w1=true)->DenW X.K A' σ Hx H2 w1 v:=by
      cases w1 with
      | v d=>
       refine⟨H2,Same.refl _,r1.mut e0 h0 k2 (J5 (fun _ _ e _=>e) hc.2 rfl o2),fun A' h=>?_⟩;rcases h with h|h
       ·exact j8 (n5 h) _ _ d2
       ·exact a1r (fun _ _ e _=>e) _ _ h d2
      | o d=>
       obtain⟨ar,ev,hn,obr⟩:=d2;obtain⟨u0,eu0,_⟩:=z3 ob;obtain⟨ur,eur,mur⟩:=z3 obr;have na:a≠ar:=fun z=>by rw[z,hn] at eu0;cases eu0
       refine⟨fun b=>if b=ar then none else H2 b,fun b o eb=>?_,r1.mut e0 h0 (fun b o eb nb=>?_) (J5 (fun b o eb nm=>?_) hc.2 (if_neg na) o2),fun A' h=>⟨ar,ev,if_pos rfl,?_⟩⟩
       ·dsimp only at eb;split at eb
        ·cases eb
        ·exact eb
       ·have:b≠ar:=fun z=>by rw[z,hn] at eb;cases eb
        show(if b=ar then none else H2 b)=some o;rw[if_neg this];exact k2 b o eb nb
       ·have:b≠ar:=fun z=>by rw[z,eur] at eb;cases eb;exact nm mur
        show(if b=ar then none else H2 b)=some o;rw[if_neg this];exact eb
       ·rcases h with h|h
        ·exact n6 (n5 fun b z=>z.imp (h b) id) rfl obr
        ·exact J5 (fun _ _ e _=>e) h rfl obr
      | r i=>exact absurd d2 (by simp[DenW])
      | l d=>exact d2.elim
     obtain⟨Hx,sx,rx,dx⟩:=main;split at e
     ·rename_i hl;cases e;exact q v Hx H2 rx sx (dx _ (.inr hl))
     ·obtain⟨ρ2,e4,e⟩:=oms e;cases e;obtain⟨r2,k3⟩:=B6 rx e4;refine q v Hx H2 r2 sx (dx _ (.inl fun b z=>?_));obtain⟨z1,z2⟩:=J3 rx k3 z
      by_cases hb:b=a
      ·exact .inr hb
      ·refine .inl ⟨z1.imp id fun z=>(G8 e0 b).mp z,hb,fun⟨j,w',d',m,q1,q2,q3⟩=>z2 ?_⟩;have hj:i≠j:=fun z=>by subst z;exact G1 hc.1 m
       obtain⟨w2,_,es,_⟩:=J6 (d:=c') e0;exact⟨j,w',d',m,by rw[es,zL hj];exact q1,q2,q3⟩
    ·cases e
 ·cases e
end
def start0 (n:Nat) (ds:List D):Ev:=ds.map (fun d=>some (.v d))++List.replicate (n-ds.length) none
def runD (np n:Nat) (G:FS):List D->Option W:=fun ds=>if ds.length=np then match G (start0 n ds) with
 | some (.rt w _)=>some w
 | some (.nx _)=>some (.v .non)
 | _=>none else none
def runL (np n:Nat) (G:FS):D->List D->Option (W×D):=fun c ds=>if ds.length+1=np then match G (some (.l c)::start0 (n-1) ds) with
 | some (.rt w ρ)=>(ownAt ρ 0).map fun c'=>(w,c')
 | some (.nx ρ)=>(ownAt ρ 0).map fun c'=>(.v .non,c')
 | _=>none else none
section
variable {P:Program}{w:World}{K:PySem.W.Frag}{mg:Str->Option Value}{base:Heap}
theorem o9 {n i:Nat}{ds:List D}{w:W}(e:(start0 n ds)[i]? =some (some w)):∃d,ds[i]? =some d/\w= .v d:=by
 unfold start0 at e
 by_cases hi:i<ds.length
 ·rw[zU (by simpa using hi),qE] at e
  cases q:ds[i]? with
  | none=>rw[q] at e;cases e
  | some d0=>rw[q] at e;cases e;exact⟨d0,rfl,rfl⟩
 ·rw[zZ (by simpa using hi),List.getElem?_replicate] at e
  split at e<;>cases e
theorem V2 {X:Cx}{ds:List D}{vs:List V}{n:Nat}{N:List Str}{H:Hp}{A:Av}(hH:X.H₀=H)(hN:N.length=n)(hA:∀b,A b->∃o,H b=some o)(l:DenL X.K A H ds vs):Rep X [] A [] (start0 n ds) (start N vs) H where
 same:=fun b o e _=>by rw[<-hH];exact e
 amb:=fun b z=>by rw[hH];exact⟨hA b z,fun i=>by simp⟩
 len:=by unfold start0 L2.start;simp[a8 l,hN]
 slot:=fun i w e=>by
  obtain⟨d,q,rfl⟩:=o9 e;obtain⟨v,h1,h2⟩:=r6 l q;refine⟨v,?_,j8 (n5 fun b z=>?_) _ _ h2⟩
  ·unfold L2.start;rw[zU (by have:=(zE.mp h1).1;simpa using this),qE,h1];rfl
  ·rcases z with z|⟨j,w,c,e1,e2,e3⟩
   ·exact z
   ·obtain⟨d',q',rfl⟩:=o9 e1;cases e2
 inj:=fun i j w w' d d' b e1 e2=>by obtain⟨_,_,rfl⟩:=o9 e1;cases e2
 new:=fun i d b e=>by obtain⟨_,_,z⟩:=o9 e;cases z
 lnt:=fun i d e=>by obtain⟨_,_,z⟩:=o9 e;cases z
 lnd:=fun i b e=>by simp at e
 prot:=fun p hp=>by cases hp
 gvl:=fun b e=>by simp at e
theorem a1u {X:Cx}{c:D}{a:Addr}{ds:List D}{vs:List V}{n:Nat}{N:List Str}{H:Hp}{A:Av}(hH:X.H₀=H)(hN:N.length=n+1)(hA:∀b,A b->∃o,H b=some o)(hn:¬A a)(ob:Obj X.K (fun b=>A b\/b=a) H a c)(l:DenL X.K (fun b=>A b\/b=a) H ds vs):
  Rep X [] A [(some 0,a)] (some (.l c)::start0 n ds) (start N (.ref a::vs)) H:=by
 have es:start N (.ref a::vs)=some (.ref a)::(vs.map some++List.replicate (n-vs.length) none):=by unfold L2.start;simp[hN]
 have own:∀{i:Nat} {w:W} {d:D},(some (.l c)::start0 n ds)[i]? =some (some w)->w.own=some d->i=0:=fun{i w d} e1 e2=>by
  cases i with
  | zero=>rfl
  | succ i=>rw[qT] at e1;obtain⟨_,_,rfl⟩:=o9 e1;cases e2
 have av:∀b,AvO A (some (.l c)::start0 n ds) (start N (.ref a::vs)) b->A b\/b=a:=fun b z=>z.imp id fun⟨i,w,d,e1,e2,e3⟩=>by
  have:=own e1 e2
  subst this;rw[es] at e3;cases e3;rfl
 refine⟨fun b o e _=>by rw[<-hH];exact e,fun b z=>⟨by rw[hH];exact hA b z,fun i m=>?_⟩,by rw[es];unfold start0;simp[a8 l],fun i w e=>?_,fun i j w w' d d' b e1 e2 _ e3 e4 _=>(own e1 e2).trans (own e3 e4).symm,fun i d b e=>?_,fun i d e=>?_,fun i b e=>?_,(fun p hp=>by cases hp),fun b _=>⟨0,a,zV.mpr rfl⟩⟩
 ·rw[zV] at m;cases m;exact hn z
 ·cases i with
  | zero=>cases e;exact⟨.ref a,by rw[es];rfl,a,rfl,n6 (n5 av) rfl ob⟩
  | succ i=>
   rw[qT] at e;obtain⟨d,q,rfl⟩:=o9 e;obtain⟨v,h1,h2⟩:=r6 l q;refine⟨v,?_,j8 (n5 av) _ _ h2⟩;rw[es,qT,zU (by have:=(zE.mp h1).1;simpa using this),qE,h1];rfl
 ·cases i with
  | zero=>cases e
  | succ i=>rw[qT] at e;obtain⟨_,_,z⟩:=o9 e;cases z
 ·have:=own e rfl
  subst this;exact⟨a,by rw[es];rfl,by simp⟩
 ·rw[zV] at e;cases e;exact⟨c,rfl,by rw[es];rfl⟩
theorem A5 {x:Str}{st:Stmt}{f:Addr}{fd:FuncData}{N ps:List Str}{k np n:Nat}{G:FS}(F:Fun K x x st f fd)(S:FnScope N ps (defScope st))(B:Binds K fd ps [])(hm:mg x=some (.ref f))(hp:ps.length=np)(hn:N.length=n)
  (body:∀(cdv:Value) (A:Around) (outer:List Env) (s:Shared) (H:Hp) (E:XK),Room k (A.deeper (envOfC x (defScope st) s.heap.objs.size f cdv))->
   QSs (cxOf CX0 P w K mg base N x (defScope st) f cdv A outer s H E).nox (defBody st) G):Fn P w K mg base x (k+1) (runD np n G):=by
 refine⟨f,fd,ps,F.ok S (fun vs H Q E h0=>?_) (fun cdv A outer s H vs Q E hr h0=>⟨_,(body cdv A outer s H E hr).to,?_⟩),B,F.kp,hm⟩
 ·obtain⟨A,ds,d,hA,l,e,q⟩:=h0;unfold runD at e;split at e
  ·rename_i hl;rw[<-a8 l,hl,hp]
  ·cases e
 ·obtain⟨A',ds,d,hA,l,e,q⟩:=h0;unfold runD at e;split at e
  ·rename_i hl;cases e1:G (start0 n ds) with
   | none=>rw[e1] at e;cases e
   | some r=>
    rw[e1] at e;refine⟨[],A',[],_,r,V2 rfl hn hA l,e1,?_⟩;have hz:∀{w:W} {v:V} {H':Hp},DenW K (A0 A' []) [] H H' w v->DenW K A' [] H H' w v:=fun{w v H'} h=>by
     have e0:A0 A' []=A':=funext fun b=>propext ⟨fun z=>z.elim id fun⟨i,z⟩=>by simp at z,.inl⟩
     rw[e0] at h;exact h
    cases r with
    | rt w ρ'=>cases e;exact fun v H' s' _ d1=>q v H' (fun b o eb=>s' b o eb fun i=>by simp) (hz d1)
    | nx ρ'=>cases e;exact fun σ' H' rp'=>q .non H' (fun b o eb=>rp'.same b o eb fun i=>by simp) T3
    | bk ρ'=>cases e
    | ct ρ'=>cases e
  ·cases e
theorem a5n {x:Str}{st:Stmt}{f:Addr}{fd:FuncData}{N ps:List Str}{k np n:Nat}{G:FS}(F:Fun K x x st f fd)(S:FnScope N ps (defScope st))(B:Binds K fd ps [])(hm:mg x=some (.ref f))(hp:ps.length=np)(hn:N.length=n+1)
  (body:∀(cdv:Value) (A:Around) (outer:List Env) (s:Shared) (H:Hp) (E:XK),Room k (A.deeper (envOfC x (defScope st) s.heap.objs.size f cdv))->
   QSs (cxOf CX0 P w K mg base N x (defScope st) f cdv A outer s H E).nox (defBody st) G):FnL P w K mg base x (k+1) (runL np (n+1) G):=by
 refine⟨f,fd,ps,F.ok S (fun vs H Q E h0=>?_) (fun cdv A outer s H vs Q E hr h0=>⟨_,(body cdv A outer s H E hr).to,?_⟩),B,F.kp,hm⟩
 ·obtain⟨A,a,c,ds,us,w,c',e0,hA,hna,ob,l,e,q⟩:=h0;unfold runL at e;split at e
  ·rename_i hl;rw[e0,qC,<-a8 l,hl,hp]
  ·cases e
 ·obtain⟨A',a,c,ds,us,w,c',e0,hA,hna,ob,l,e,q⟩:=h0;subst e0;unfold runL at e;split at e
  ·rename_i hl;rw[Nat.add_sub_cancel] at e;cases e1:G (some (.l c)::start0 n ds) with
   | none=>rw[e1] at e;cases e
   | some r=>
    rw[e1] at e;refine⟨[],A',[(some 0,a)],_,r,a1u rfl hn hA hna ob l,e1,?_⟩;have ea:A0 A' [(some 0,a)]=fun b=>A' b\/b=a:=funext fun b=>propext (or_congr Iff.rfl ⟨fun⟨i,z⟩=>by rw[zV] at z;cases z;rfl,fun z=>⟨0,by rw[z];exact zV.mpr rfl⟩⟩)
    have nl:∀{b:Addr},b≠a->∀i,(i,b)∉[(some 0,a)]:=fun n i z=>by rw[zV] at z;cases z;exact n rfl
    cases r with
    | rt w0 ρ'=>
     refine fun v H' s' ln d1=>?_;obtain⟨c0,h1,h2⟩:=ln 0 a (zV.mpr rfl);simp only[h1,jS] at e;cases e;rw[ea] at h2 d1;exact q v H' (fun b o eb n=>s' b o eb (nl n)) h2 d1
    | nx ρ'=>
     refine fun σ' H' rp'=>?_;obtain⟨c0,h1,h2⟩:=rp'.lents 0 a (zV.mpr rfl);simp only[h1,jS] at e;cases e;rw[ea] at h2;exact q .non H' (fun b o eb n=>rp'.same b o eb (nl n)) h2 T3
    | bk ρ'=>cases e
    | ct ρ'=>cases e
  ·cases e
end
@[elab_as_elim] theorem us1 {α:Type} {C:List α->Prop} {us:List α} (h:us.length=1) (k:∀a,C [a]):C us:=by
 match us,h with
 | [a],_=>exact k a
@[elab_as_elim] theorem us2 {α:Type} {C:List α->Prop} {us:List α} (h:us.length=2) (k:∀a b,C [a,b]):C us:=by
 match us,h with
 | [a,b],_=>exact k a b
section
variable {X:Cx}{a b e:Expr}{es:List Expr}{pos:Pos}{f g h:FX}{t u:FT}
theorem a6t {K:PySem.W.Frag}{A:Av}{H:Hp}{i:Bool}{v:V}(h:DenR K A H (.bl i) v):v= .bl i:=by
 have h:Den K A H (.bl i) v:=h;exact Q4.mp h
theorem a06 {K:PySem.W.Frag}{A:Av}{H:Hp}{i:Str}{v:V}(h:DenR K A H (.str i) v):v= .str i:=by
 have h:Den K A H (.str i) v:=h;exact Z3.mp h
theorem a5g {K:PySem.W.Frag}{A:Av}{H:Hp}{v:V}(h:DenR K A H .non v):v= .non:=by
 have h:Den K A H .non v:=h;exact a58.mp h
def tyD:D->String
 | .non=>"NoneType"
 | .bl _=>"bool"
 | .int _=>"int"
 | .str _=>"str"
 | .tup _=>"tuple"
 | .dT _ _=>"dict"
 | .dK _ _=>"dict"
 | _=>"list"
def isX:D->Bool
 | .exn _=>true
 | .fn _=>true
 | _=>false
def isiB (T:String) (d:D):Bool:=tyD d==T||(tyD d == "bool" && T == "int")
def Kit (K:PySem.W.Frag) (T:String):Prop:=∀d:D,PySem.W.kitOne K (.type (tyD d)) (.type T)=some (isiB T d)
theorem a1v {K:PySem.W.Frag}{T:String}(h:T="int"\/T="bool"\/T="str"\/T="tuple"\/T="list"):Kit K T:=by
 rcases h with h|h|h|h|h<;>subst h<;>intro d<;>cases d<;>rfl
theorem a4P {T:String}(hk:Kit X.K T):CallR X (.builtin "isinstance") (fun xs H Q=>∃x A d,xs=[x,.ty T]/\isX d=false/\DenR X.K A H d x/\Q (.bl (isiB T d)) H):=by
 intro pins s σ H xs us Q I r h;obtain⟨x,A,d,rfl,nx,hd,q⟩:=h;obtain⟨u,w,rfl,ru,rw'⟩:=vals2 r;cases(show w=Value.type T from rw');have e:=hk d;have fin:∀tk,EP X pins σ Q (.bool (isiB T d)) {s with toks:=tk}:=fun tk=>⟨.bl _,H,I.tok _,rfl,q⟩
 cases d with
 | non=>have hd:=a5g hd;subst hd;cases(show u=Value.none from ru);exact jT PySem.W.kitx_none I.kIn True.intro e (fun z=>nomatch z) fin
 | bl y=>have hd:=a6t hd;subst hd;cases(show u=Value.bool y from ru);exact jT PySem.W.kitx_bool I.kIn True.intro e (fun z=>nomatch z) fin
 | int i=>have hd:=g4 hd;subst hd;obtain⟨t,z⟩:=(show ∃t,u=Value.int i t from ru);cases z;exact jT PySem.W.kitx_int I.kIn True.intro e (fun z=>nomatch z) fin
 | str y=>have hd:=a06 hd;subst hd;obtain⟨t,z⟩:=(show ∃t,u=Value.str y t from ru);cases z;exact jT PySem.W.kitx_str I.kIn True.intro e (fun z=>nomatch z) fin
 | tup ys=>
  have hd:Den X.K A H (.tup ys) x:=hd;rw[Den] at hd;obtain⟨a,vs,rfl,hq,_⟩:=hd;cases(show u=Value.ref a from ru);obtain⟨its,_,p,_⟩:=I.tuple hq;obtain⟨o,h1,h2,_⟩:=p;exact jT PySem.W.kitx_tuple I.kIn ⟨o,h1,h2⟩ e (fun z=>nomatch z) fin
 | lst ys=>
  obtain⟨a,vs,rfl,hq,_⟩:=hd;cases(show u=Value.ref a from ru);obtain⟨its,_,p,_⟩:=I.list hq;obtain⟨o,n,h1,h2,_⟩:=p;exact jT PySem.W.kitx_list I.kIn ⟨o,h1,h2⟩ e (fun z=>nomatch z) fin
 | dK ks ys=>
  obtain⟨a,vs,rfl,hq,_⟩:=hd;cases(show u=Value.ref a from ru);obtain⟨_,_,vs,_,p⟩:=(show ObjOk X.K X.prog X.w H s.heap a (.dK _) from I.hok a _ hq);obtain⟨o,es,h1,h2,_⟩:=p;exact jT PySem.W.kitx_dict I.kIn ⟨o,h1,h2.1⟩ e (fun z=>nomatch z) fin
 | dT ks ys=>
  obtain⟨a,vs,rfl,hq,_⟩:=hd;cases(show u=Value.ref a from ru);obtain⟨_,_,xs,_,o,es,h1,h2,_⟩:=(show ObjOk X.K X.prog X.w H s.heap a (.dT _) from I.hok a _ hq);exact jT PySem.W.kitx_dict I.kIn ⟨o,h1,h2.1⟩ e (fun z=>nomatch z) fin
 | exn C=>cases nx
 | fn f=>cases nx
def oIsi (T:String) (d:D):Option W:=if isX d=true then none else some (.v (.bl (isiB T d)))
theorem a1A {T:String}{x:Str}{p p2:Pos}(hk:Kit X.K T)(hm:X.mg "isinstance"=none)(hmT:X.mg x=none)(ha:QX X e f)(hT:bootBuiltins x=some (.type T):=by rfl)(hb:bootBuiltins "isinstance"=some (.builtin "isinstance"):=by rfl)(hg:Gl X "isinstance":=by rfl)(hgT:Gl X x:=by rfl)(hn:x≠"__name__":=by decide)(hdb:(x==("__debug__":Str))=false:=by decide)
  (he:starEach [e,.Name x p2] X.env=(false,eval e X.env)::starEach [.Name x p2] X.env:=by rfl) (hpl:(backTo pos (starEach [.Name x p2] X.env)).any (·.1)=false:=by rfl) (hs:starEach [.Name x p2] X.env=(false,eval (.Name x p2) X.env)::starEach [] X.env:=by rfl):QX X (.Call (.Name "isinstance" p) [e,.Name x p2] [] pos) (fUn (oIsi T) f):=
 ⟨PE.weak (a1j (a4P hk) hg hm hb (Z7 ha.to (Z7 (a6m (v:=.ty T) hgT hmT hT rfl hn hdb) a4v hs) he) (by decide) (by decide) he hpl) fun σ H Q h=>
  a2P (r:=fun v H Q=>∃x A d,[v,V.ty T]=[x,.ty T]/\isX d=false/\DenR X.K A H d x/\Q (.bl (isiB T d)) H) (fun A x w v H Q _ e hx q=>by
   unfold oIsi at e;split at e
   ·cases e
   ·rename_i nx;cases e;exact⟨v,A,x,rfl,by simpa using nx,hx,q _ H (Same.refl H) t3⟩) σ H Q h⟩
def isD:D->D->Option Bool
 | .non,.non=>some true
 | d,.non=>some false
 | .bl a,.bl b=>some (a==b)
 | _,.bl _=>some false
 | _,_=>none
def rD2 (K:PySem.W.Frag) (t:D->D->Option Bool) (neg:Bool):R2:=fun v u H Q=>∃A x y k,t x y=some k/\DenR K A H x v/\DenR K A H y u/\Q (.bl (if neg then !k else k)) H
def oD2 (t:D->D->Option Bool) (neg:Bool) (x y:D):Option W:=(t x y).map fun k=>.v (.bl (if neg then !k else k))
theorem kD2 {t:D->D->Option Bool}{neg:Bool}:Pr2 X (oD2 t neg) (rD2 X.K t neg):=by
 intro A x y w v u H Q _ e hx hy q;unfold oD2 at e;cases e1:t x y with
 | none=>rw[e1] at e;cases e
 | some k=>rw[e1] at e;cases e;exact⟨A,x,y,k,e1,hx,hy,q _ H (Same.refl H) t3⟩
def flatE:D->D->Option Bool
 | .non,.non=>some true
 | .non,.int _=>some false
 | .int _,.non=>some false
 | .bl a,.bl b=>some (a==b)
 | .bl a,.int b=>some ((if a then 1 else 0)==b)
 | .int a,.bl b=>some (a==(if b then 1 else 0))
 | .int a,.int b=>some (a==b)
 | .str a,.str b=>some (a==b)
 | _,_=>none
def deqL (eq:D->D->Option Bool):List D->List D->Option Bool
 | [],[]=>some true
 | [],_::_=>some false
 | _::_,[]=>some false
 | x::xs,y::ys=>(eq x y).bind fun p=>(deqL eq xs ys).map fun q=>p&&q
def deq:Nat->D->D->Option Bool
 | 0,x,y=>flatE x y
 | n+1,.tup xs,.tup ys=>deqL (deq n) xs ys
 | n+1,.lst xs,.lst ys=>deqL (deq n) xs ys
 | _+1,x,y=>flatE x y
theorem a2A {K:PySem.W.Frag}{A:Av}{H:Hp}{x y:D}{v u:V}{k:Bool}(e:flatE x y=some k)(hx:DenR K A H x v)(hy:DenR K A H y u):Den K A H x v/\Den K A H y u:=by
 cases x<;>cases y<;>simp only[flatE] at e<;>cases e<;>exact⟨hx,hy⟩
theorem X4 {K:PySem.W.Frag}{O:Av}{H:Hp}{A:Around}{s:Shared}{x y:D}{v u:V}{vv uu:Value}{k:Bool}(e:flatE x y=some k)(hx:DenR K O H x v)(hy:DenR K O H y u)(rx:RelV v vv)(ry:RelV u uu):SeqAt.EqAt A s vv uu k/\SeqAt.RcAt A s vv uu k/\SeqAt.RcNeAt A s vv uu (!k):=by
 obtain⟨hx,hy⟩:=a2A e hx hy;cases x<;>cases y<;>simp only[flatE] at e<;>cases e<;>rw[Den] at hx<;>rw[Den] at hy<;>subst hx<;>subst hy
 ·cases(show vv=Value.none from rx);cases(show uu=Value.none from ry);exact⟨.same _,.none_none,.none_none⟩
 ·cases(show vv=Value.none from rx);obtain⟨t,z⟩:=(show ∃t,uu=Value.int _ t from ry);cases z;exact⟨.none_int _ _,.none_int _ _,.none_int _ _⟩
 ·cases(show vv=Value.bool _ from rx);cases(show uu=Value.bool _ from ry);exact⟨.bool_bool _ _,.bool_bool _ _,.bool_bool _ _⟩
 ·cases(show vv=Value.bool _ from rx);obtain⟨t,z⟩:=(show ∃t,uu=Value.int _ t from ry);cases z;exact⟨.bool_int _ _ _,.bool_int _ _ _,.bool_int _ _ _⟩
 ·cases(show uu=Value.none from ry);obtain⟨t,z⟩:=(show ∃t,vv=Value.int _ t from rx);cases z;exact⟨.int_none _ _,.int_none _ _,.int_none _ _⟩
 ·cases(show uu=Value.bool _ from ry);obtain⟨t,z⟩:=(show ∃t,vv=Value.int _ t from rx);cases z;exact⟨.int_bool _ _ _,.int_bool _ _ _,.int_bool _ _ _⟩
 ·obtain⟨t,z⟩:=(show ∃t,vv=Value.int _ t from rx);cases z;obtain⟨t,z⟩:=(show ∃t,uu=Value.int _ t from ry);cases z;exact⟨.int_int _ _ _ _,.int_int _ _ _ _,.int_int _ _ _ _⟩
 ·obtain⟨t,z⟩:=(show ∃t,vv=Value.str _ t from rx);cases z;obtain⟨t,z⟩:=(show ∃t,uu=Value.str _ t from ry);cases z;exact⟨.str_str _ _ _ _,.str_str _ _ _ _,.str_str _ _ _ _⟩
theorem W9 {K:PySem.W.Frag}{O:Av}{H:Hp}{x y:D}{v:V}{k:Bool}(e:flatE x y=some k)(hx:DenR K O H x v)(hy:DenR K O H y v):k=true:=by
 obtain⟨hx,hy⟩:=a2A e hx hy;cases x<;>cases y<;>simp only[flatE] at e<;>cases e<;>rw[Den] at hx<;>rw[Den] at hy
 all_goals first
  | rfl
  | (rw[hx] at hy;cases hy;simp)
  | (rw[hx] at hy;cases hy)
theorem X9 {K:PySem.W.Frag}{O:Av}{H:Hp}{A:Around}{s:Shared}{eq:D->D->Option Bool}(hq:∀x y v u vv uu k,eq x y=some k->Den K O H x v->Den K O H y u->RelV v vv->RelV u uu->SeqAt.EqAt A s vv uu k):
  ∀{xs ys:List D} {vs us:List V} {its jts:List Value} {k:Bool},deqL eq xs ys=some k->DenL K O H xs vs->DenL K O H ys us->Vals vs its->Vals us jts->
   ∃e:Nat->Bool,(∀j (h1:j<its.toArray.size) (h2:j<jts.toArray.size),SeqAt.EqAt A s its.toArray[j] jts.toArray[j] (e j))/\k=((List.range (min its.toArray.size jts.toArray.size)).all e&&its.toArray.size==jts.toArray.size)
 | [],[],vs,us,its,jts,k,e,hx,hy,rx,ry=>by
  rw[DenL] at hx hy;subst hx;subst hy;cases rx;cases ry;cases e;exact⟨fun _=>true,fun j h1 h2=>absurd h1 (by simp),rfl⟩
 | [],y::ys,vs,us,its,jts,k,e,hx,hy,rx,ry=>by
  rw[DenL] at hx;rw[DenL] at hy;subst hx;obtain⟨u,r,rfl,_,_⟩:=hy;cases rx;cases ry;cases e;exact⟨fun _=>true,fun j h1 h2=>absurd h1 (by simp),by simp⟩
 | x::xs,[],vs,us,its,jts,k,e,hx,hy,rx,ry=>by
  rw[DenL] at hx;rw[DenL] at hy;subst hy;obtain⟨u,r,rfl,_,_⟩:=hx;cases rx;cases ry;cases e;exact⟨fun _=>true,fun j h1 h2=>absurd h2 (by simp),by simp⟩
 | x::xs,y::ys,vs,us,its,jts,k,e,hx,hy,rx,ry=>by
  rw[DenL] at hx hy;obtain⟨v,r,rfl,dx,lx⟩:=hx;obtain⟨u,q,rfl,dy,ly⟩:=hy;cases rx with
  | cons r1 rs1=>
   cases ry with
   | cons r2 rs2=>
    rw[deqL] at e;cases e1:eq x y with
    | none=>rw[e1] at e;cases e
    | some p=>
     cases e2:deqL eq xs ys with
     | none=>rw[e1,e2] at e;cases e
     | some q2=>
      rw[e1,e2] at e;cases e;obtain⟨w,h1,h2⟩:=X9 hq e2 lx ly rs1 rs2;refine⟨fun j=>if j=0 then p else w (j-1),fun j g1 g2=>?_,?_⟩
      ·cases j with
       | zero=>simpa using hq x y v u _ _ p e1 dx dy r1 r2
       | succ j=>
        have z:=h1 j (by simpa using g1) (by simpa using g2)
        simp only[List.getElem_toArray] at z ⊢;simpa using z
      ·rw[h2];simp only[zP,qC];rw[show min (_+1) (_+1)=min _ _+1 from Nat.succ_min_succ _ _,List.range_succ_eq_map,all_cons,List.all_map];simp[Function.comp_def,Bool.and_assoc]
theorem N6 {K:PySem.W.Frag}{O:Av}{H:Hp}{eq:D->D->Option Bool}(hq:∀x y v k,eq x y=some k->Den K O H x v->Den K O H y v->k=true):
  ∀{xs ys:List D} {vs:List V} {k:Bool},deqL eq xs ys=some k->DenL K O H xs vs->DenL K O H ys vs->k=true
 | [],[],vs,k,e,hx,hy=>by cases e;rfl
 | [],y::ys,vs,k,e,hx,hy=>by have:=a8 hx;have:=a8 hy;simp at *;walk_at "o"
 | x::xs,[],vs,k,e,hx,hy=>by have:=a8 hx;have:=a8 hy;simp at *;walk_at "o"
 | x::xs,y::ys,vs,k,e,hx,hy=>by
  rw[DenL] at hx hy;obtain⟨v,r,rfl,dx,lx⟩:=hx;obtain⟨u,q,e0,dy,ly⟩:=hy;cases e0;rw[deqL] at e;cases e1:eq x y with
  | none=>rw[e1] at e;cases e
  | some p=>
   cases e2:deqL eq xs ys with
   | none=>rw[e1,e2] at e;cases e
   | some q2=>
    rw[e1,e2] at e;cases e;rw[hq x y v p e1 dx dy,N6 hq e2 lx ly];rfl
theorem V1 {n:Nat}{x y:D}{k:Bool}(e:deq (n+1) x y=some k):flatE x y=some k\/(∃xs ys,x= .tup xs/\y= .tup ys/\deqL (deq n) xs ys=some k)\/∃xs ys,x= .lst xs/\y= .lst ys/\deqL (deq n) xs ys=some k:=by
 cases x<;>cases y<;>first
  | exact .inl e
  | exact .inr (.inl ⟨_,_,rfl,rfl,e⟩)
  | exact .inr (.inr ⟨_,_,rfl,rfl,e⟩)
theorem t4 {K:PySem.W.Frag}{O:Av}{H:Hp}{xs:List D}{v:V}(h:DenR K O H (.tup xs) v):∃a vs,v= .ref a/\SqT K H a vs/\DenL K O H xs vs:=by
 have h:Den K O H (.tup xs) v:=h;rw[Den] at h;exact h
theorem a03 {O:Av}{pins:List (Addr×PySem.Obj)}{σ:L2.St}{H:Hp}{s:Shared}(I:Inv X pins σ H s):∀(n:Nat) (x y:D) (v:V) (k:Bool),deq n x y=some k->DenR X.K O H x v->DenR X.K O H y v->k=true
 | 0,x,y,v,k,e,hx,hy=>W9 e hx hy
 | n+1,x,y,v,k,e,hx,hy=>by
  have hs:∀x y v k,deq n x y=some k->Den X.K O H x v->Den X.K O H y v->k=true:=fun x y v k e hx hy=>a03 I n x y v k e (A9 hx) (A9 hy);rcases V1 e with e|⟨xs,ys,rfl,rfl,e⟩|⟨xs,ys,rfl,rfl,e⟩
  ·exact W9 e hx hy
  ·obtain⟨a,vs,rfl,q1,l1⟩:=t4 hx;obtain⟨b,us,z,q2,l2⟩:=t4 hy;cases z;rw[I.tuple_inj q2 q1] at l2;exact N6 hs e l1 l2
  ·obtain⟨a,vs,rfl,q1,l1⟩:=hx;obtain⟨b,us,z,q2,l2⟩:=hy;cases z;rw[I.list_inj q2 q1] at l2;exact N6 hs e l1 l2
theorem Z6 {O:Av}{pins:List (Addr×PySem.Obj)}{σ:L2.St}{H:Hp}{s:Shared}(I:Inv X pins σ H s):∀(n:Nat) (A:Around),A.units+n+1<cLine->∀(x y:D) (v u:V) (vv uu:Value) (k:Bool),deq n x y=some k->DenR X.K O H x v->DenR X.K O H y u->RelV v vv->RelV u uu->
  SeqAt.EqAt A s vv uu k/\SeqAt.RcAt A s vv uu k/\SeqAt.RcNeAt A s vv uu (!k)
 | 0,A,hA,x,y,v,u,vv,uu,k,e,hx,hy,rx,ry=>X4 e hx hy rx ry
 | n+1,A,hA,x,y,v,u,vv,uu,k,e,hx,hy,rx,ry=>by
  have hin:∀x y v u vv uu k,deq n x y=some k->Den X.K O H x v->Den X.K O H y u->RelV v vv->RelV u uu->SeqAt.EqAt A.in1 s vv uu k:=fun x y v u vv uu k e hx hy rx ry=>(Z6 I n A.in1 (by show A.units+1+n+1<_;walk_at "o") x y v u vv uu k e (A9 hx) (A9 hy) rx ry).1
  have hu:A.units<cLine:=by walk_at "o"
  have done:∀(p q:Addr),v= .ref p->u= .ref q->SeqAt.RcAt A s (.ref p) (.ref q) k->SeqAt.RcNeAt A s (.ref p) (.ref q) (!k)->SeqAt.EqAt A s vv uu k/\SeqAt.RcAt A s vv uu k/\SeqAt.RcNeAt A s vv uu (!k):=fun p q ev eu rc rn=>by
   subst ev;subst eu;cases(show vv=Value.ref p from rx);cases(show uu=Value.ref q from ry);refine⟨?_,rc,rn⟩
   by_cases pq:p=q
   ·subst pq;rw[a03 I (n+1) x y _ k e hx hy];exact .same _
   ·exact .of_refs pq rc
  rcases V1 e with e|⟨xs,ys,rfl,rfl,e⟩|⟨xs,ys,rfl,rfl,e⟩
  ·exact X4 e hx hy rx ry
  ·obtain⟨p,vs,ev,q1,l1⟩:=t4 hx;obtain⟨q,us,eu,q2,l2⟩:=t4 hy;obtain⟨its,r1,t1,_⟩:=I.tuple q1;obtain⟨jts,r2,t2,_⟩:=I.tuple q2;obtain⟨w,h1,h2⟩:=X9 hin e l1 l2 r1 r2;refine done p q ev eu ?_ ?_
   ·rw[h2];exact SeqAt.RcAt.tuples t1 t2 hu h1
   ·rw[h2];exact SeqAt.RcNeAt.tuples t1 t2 hu h1
  ·obtain⟨p,vs,ev,q1,l1⟩:=id hx;obtain⟨q,us,eu,q2,l2⟩:=id hy;obtain⟨its,r1,t1,_⟩:=I.list q1;obtain⟨jts,r2,t2,_⟩:=I.list q2;obtain⟨w,h1,h2⟩:=X9 hin e l1 l2 r1 r2
   by_cases sz:its.toArray.size=jts.toArray.size
   ·have r1:=SeqAt.RcAt.lists t1.isList t2.isList sz hu h1;have r2:=SeqAt.RcNeAt.lists t1.isList t2.isList sz hu h1;rw[sz,Nat.min_self,show(jts.toArray.size==jts.toArray.size)=true by simp,Bool.and_true] at h2
    rw[sz,<-h2] at r1 r2;exact done p q ev eu r1 r2
   ·have r1:=SeqAt.RcAt.lists_lengths (A:=A) t1.isList t2.isList (by simpa using sz) hu
    have r2:=SeqAt.RcNeAt.lists_lengths (A:=A) t1.isList t2.isList (by simpa using sz) hu
    rw[show(its.toArray.size==jts.toArray.size)=false by simpa using sz,Bool.and_false] at h2
    subst h2;exact done p q ev eu r1 r2
theorem a7Z {k:Nat}(hr:Room k X.A):OpR X (compareOp .Eq) (rD2 X.K (deq 20) false):=by
 intro pins s σ H x y v u Q I rx ry ⟨A,dx,dy,k,e,hx,hy,q⟩
 have:=(Z6 I 20 X.A (by have:=hr.units;walk_at "o") dx dy x y v u k e hx hy rx ry).2.1
 exact this X.prog X.w X.xe _ ⟨.bl k,H,I,rfl,q⟩
theorem a8u {k:Nat}(hr:Room k X.A):OpR X (compareOp .NotEq) (rD2 X.K (deq 20) true):=by
 intro pins s σ H x y v u Q I rx ry ⟨A,dx,dy,k,e,hx,hy,q⟩
 have:=(Z6 I 20 X.A (by have:=hr.units;walk_at "o") dx dy x y v u k e hx hy rx ry).2.2
 exact this X.prog X.w X.xe _ ⟨.bl (!k),H,I,rfl,q⟩
theorem a2S {k:Nat}(hr:Room k X.A)(ha:QX X a f)(hb:QX X b g):QT X (.Compare a [.Eq] [b] pos) (fTest (fBin (oD2 (deq 20) false) f g)):=M9 (a7Z hr) kD2 ha hb
theorem qt_ne {k:Nat}(hr:Room k X.A)(ha:QX X a f)(hb:QX X b g):QT X (.Compare a [.NotEq] [b] pos) (fTest (fBin (oD2 (deq 20) true) f g)):=M9 (a8u hr) kD2 ha hb
end
section
variable {prog:Program}{w:World}{A:Around}{R:Result->Shared->Prop}{s:Shared}
abbrev Fa:Value->Shared->Prop:=fun _ _=>False
theorem a3k {elt tg iter:Expr}{ifs:List Expr}{scope:Scope}{pos:Pos}{it acc:Value}{env:Env}(I:Nat->Shared->Prop)
  (turn:∀n s,I n s->wpAny (model prog w) A (pyNext it) (fun r s1=>match r with
   | none=>R (.ok .next) s1
   | some v=>wpAny (model prog w) A (letOwnedTupleGo tg it v) (fun _ s2=>wpAny (model prog w) A (assign tg env v) (fun _ s3=>
     wpAny (model prog w) A (forIn ifs true fun c r=>if r=true then do let ok <-isTrue c env (eval c env);pure (ForInStep.yield ok) else pure (ForInStep.yield r)) (fun ok s4=>
      if ok=true then wpAny (model prog w) A (eval elt env) (fun x s5=>wpAny (model prog w) A (call (.builtin "list.append") [acc,x]) (fun _ s6=>∃m,m<n/\I m s6) Fa s5) Fa s4
      else ∃m,m<n/\I m s4) Fa s3) Fa s2) Fa s1) Fa s)
  (n:Nat) (h:I n s):codeAny (model prog w) A (.compLoop (.ListComp elt [⟨tg,iter,ifs,0⟩] scope pos) 0 it acc env) R s:=by
 refine codeAny_loop rfl I (fun n s hI=>?_) n h;show wpAny _ A ((compTurn (.ListComp elt [⟨tg,iter,ifs,0⟩] scope pos) 0 it acc env).onRaise (fun x=>do noteFrame x env;theTreesLotGoes x)) _ _ s
 refine wpAny_noted ?_;rw[compTurn_list];refine zA (wpAny_standAt (zA (qD (turn n s hI) (fun r s1 h1=>?_) fun _ _ z=>z.elim)));cases r with
 | none=>exact zD h1
 | some v=>
  refine zA (qD h1 (fun _ s2 h2=>zA (qD h2 (fun _ s3 h3=>zA (qD h3 (fun ok s4 h4=>?_) fun _ _ z=>z.elim)) fun _ _ z=>z.elim)) fun _ _ z=>z.elim);cases ok with
  | true=>
   rw[if_pos rfl] at h4 ⊢;exact zA (zA (qD h4 (fun x s5 h5=>zA (qD h5 (fun _ s6 h6=>zD (zD ⟨rfl,h6⟩)) fun _ _ z=>z.elim)) fun _ _ z=>z.elim))
  | false=>
   rw[if_neg zS] at h4 ⊢;exact zA (zD (zD ⟨rfl,h4⟩))
end
def blk (X:Cx) (scope:Scope) (cl:List (Str×Addr)) (s2:Shared) (H2:Hp) (fp:List Addr) (C:Addr) (N:List Str):Cx where
 prog:=X.prog
 w:=X.w
 K:=X.K
 mg:=X.mg
 base:=X.base
 A:=X.A
 N:=N
 s₀:=s2
 H₀:=H2
 env:=compEnvC scope cl C X.env
 outer:=X.stack
 stack:=X.stack
 ex:=fp
 fn:=fun _=>false
 calm:=X.calm
 pn:=[]
 xe:=fun _ _=>False
abbrev accN:Str:=" acc"
inductive Cap (X:Cx) (sc:Scope) (cl:List (Str×Addr)):List Str->List (Option Nat)->Prop where
 | nil:Cap X sc cl [] []
 | own {n:Str} {N:List Str} {js:List (Option Nat)} (t:Cap X sc cl N js):Cap X sc cl (n::N) (none::js)
 | cap {n:Str} {N:List Str} {j:Nat} {js:List (Option Nat)} (hj:X.N[j]? =some n) (hk:X.env.scope.names.lookup n=some .cell) (hl:sc.names.lookup n=some .cell) (hc:cl.lookup n=X.env.cells.lookup n) (t:Cap X sc cl N js):Cap X sc cl (n::N) (some j::js)
theorem Cap.len {X:Cx}{sc:Scope}{cl:List (Str×Addr)}{N:List Str}{js:List (Option Nat)}(h:Cap X sc cl N js):js.length=N.length:=by
 induction h with
 | nil=>rfl
 | own t ih=>simp[ih]
 | cap _ _ _ _ t ih=>simp[ih]
theorem Cap.get {X:Cx}{sc:Scope}{cl:List (Str×Addr)}{N:List Str}{js:List (Option Nat)}(h:Cap X sc cl N js):∀{i j:Nat} {n:Str},N[i]? =some n->js[i]? =some (some j)->X.N[j]? =some n/\X.env.scope.names.lookup n=some .cell/\sc.names.lookup n=some .cell/\cl.lookup n=X.env.cells.lookup n:=by
 induction h with
 | nil=>intro i j n e1 _;simp at e1
 | own t ih=>
  intro i j n e1 e2;cases i with
  | zero=>simp at e2
  | succ i=>exact ih (by simpa using e1) (by simpa using e2)
 | cap hj hk hl hc t ih=>
  intro i j n e1 e2;cases i with
  | zero=>simp at e1 e2;subst e1;subst e2;exact⟨hj,hk,hl,hc⟩
  | succ i=>exact ih (by simpa using e1) (by simpa using e2)
def capS (js:List (Option Nat)) (σ:L2.St):L2.St:=js.map fun o=>o.bind fun j=>(σ[j]?).join
structure Blk (X:Cx) (scope:Scope) (cl:List (Str×Addr)) (N:List Str) (js:List (Option Nat)):Prop where
 clos:closureFor scope X.env=pure cl
 kind:scope.kind= .function
 cell:∀y∈scope.names,y.2≠.cell
 nms:∀y∈scope.names,y.2= .local->scope.names.lookup y.1=some .local
 cap:Cap X (relabel scope X.env) cl N js
 sub:∀y c,cl.lookup y=some c->X.env.cells.lookup y=some c
 has:∀y,((relabel scope X.env).names.lookup y=some .cell\/(relabel scope X.env).names.lookup y=some .free)->∃c,cl.lookup y=some c
 acc:∀k,(relabel scope X.env).names.lookup accN≠some k
section
variable {X:Cx}{pins:List (Addr×PySem.Obj)}{σ:L2.St}{H2:Hp}{s2 s4:Shared}{scope:Scope}{cl:List (Str×Addr)}{N:List Str}{js:List (Option Nat)}{fp:List Addr}{Dd C:Addr}{m:Str->Option Value}
theorem a8v (I:Inv X pins σ H2 s2)(b:Blk X scope cl N js)(f2:∀y∈fp,FpOk X pins H2 y)(fl:∀y∈fp,y<s2.heap.objs.size)(hC:s2.heap.objs.size<=C):(blk X scope cl s2 H2 fp C (N++[accN])).Ok where
 mod:=I.ok.mod
 kind:=b.kind
 glob:=I.ok.glob
 blt:=I.ok.blt
 above:=hC
 inj:=fun x y c e1 e2=>I.ok.inj x y c (b.sub x c e1) (b.sub y c e2)
 has:=fun x h=>b.has x h
 cab:=fun x c h=>nomatch h
 hd:=I.ok.hd
 frames:=I.ok.frames
 stk:=.inl rfl
 exf:=fun y hy=>⟨zW (zG (fl y hy) hC),fun x c e=>(f2 y hy).2.2.2.2.1 x c (b.sub x c e)⟩
 bs:=I.bs
 bsz:=zJ I.ok.bsz I.sz
 noex:=fun y o e hy=>by
  rcases(f2 y hy).2.2.2.1 with z|z
  ·exact I.ok.noex y o e z
  ·exact absurd (zG (qA e) (zJ I.ok.bsz z)) (xN _)
 exfs:=fun y hy z=>(qG.mp (I.stkSub y z)).elim (f2 y hy).2.1 (f2 y hy).2.2.1
 funs:=I.stack
 frf:=I.stkFree
theorem a53 {o0:HO}(I:Inv X pins σ H2 s2)(b:Blk X scope cl N js)(f2:∀y∈fp,FpOk X pins H2 y)(fl:∀y∈fp,y<s2.heap.objs.size)(hC:s2.heap.objs.size<=C)(hD:s2.heap.objs.size<=Dd)(ne:Dd≠C)
  (ho:s4.os=s2.os) (hg:AllBare s4.gens) (kp:∀y o,s2.heap.get? y=some o->s4.heap.get? y=some o) (hn:s4.heap.Ns C m) (hk:HOk X.K X.prog X.w (upd H2 Dd o0) s4.heap):
  Inv (blk X scope cl s2 H2 fp C (N++[accN])) [] (capS js σ++[some (.ref Dd)]) (upd H2 Dd o0) s4:=by
 have nD:∀y o,s2.heap.get? y=some o->y≠Dd:=fun y o e=>zW (zG (qA e) hD);have nH:∀y u,H2 y=some u->y≠Dd:=fun y u e=>zW (zG (I.hok.lt e) hD);have cD:∀x c,X.env.cells.lookup x=some c->c≠Dd:=fun x c e=>by
  obtain⟨v,o,e1,_⟩:=I.cell x c e;exact nD c o e1
 refine⟨a8v I b f2 fl hC,ho,hg,⟨fun y o e _ _ _=>kp y o e,fun y o e _ _ _=>⟨o.slots,kp y o e⟩,fun y o e n _=>?_,fun y o e _=>⟨o,kp y o e⟩,fun y xs e=>?_,fun y o u e=>?_,fun y ps e=>?_⟩,⟨m,hn,fun i x v e1 e2 e3=>?_⟩,fun x c e=>?_,?_,fun x c e=>?_,fun p hp=>absurd (show p∈([]:List (Addr×PySem.Obj)) from hp) (by simp),hk,?_⟩
 ·rw[b8 (nD y o e)];exact n
 ·rw[b8 (nH _ _ e)];exact e
 ·rw[b8 (nH _ _ e)];exact e
 ·have e':H2 y=some (.tbl ps):=e;exact⟨#[],by rw[b8 (nH _ _ e'),e'];simp⟩
 ·have hl:js.length=N.length:=b.cap.len
  by_cases hi:i<N.length
  ·have e1':N[i]? =some x:=by
    have z:(N++[accN])[i]? =some x:=e1;rw[zU hi] at z;exact z
   rw[zU (by unfold capS;simp;walk_at "o")] at e2
   unfold capS at e2;rw[qE] at e2;cases ej:js[i]? with
   | none=>rw[ej] at e2;cases e2
   | some o=>
    rw[ej] at e2;cases o with
    | none=>cases e2
    | some j=>
     obtain⟨c1,c2,c3,c4⟩:=b.cap.get e1' ej;simp only[jS,bind_some] at e2;have e2':σ[j]? =some (some v):=by
      cases q:σ[j]? with
      | none=>rw[q] at e2;cases e2
      | some o=>rw[q] at e2;simp at e2;rw[e2]
     obtain⟨m2,_,hl2⟩:=I.loc;obtain⟨u,r,lk⟩:=hl2 j x v c1 e2' (.inr (.inl c2));refine⟨u,r,.inr ⟨.inl c3,?_⟩⟩;rcases lk with ⟨k,_⟩|⟨_,c,e,z⟩
     ·have k':X.env.scope.names.lookup x=some .local:=k;rw[c2] at k';cases k'
     ·exact⟨c,c4.trans e,z.keeps kp⟩
  ·have hx:x=accN:=by
    have z:(N++[accN])[i]? =some x:=e1;rw[zZ (by walk_at "o")] at z
    cases q:i-N.length with
    | zero=>rw[q] at z;simp at z;exact z.symm
    | succ k=>rw[q] at z;simp at z
   subst hx;rcases e3 with z|z|z
   ·exact absurd z (b.acc _)
   ·exact absurd z (b.acc _)
   ·exact absurd z (b.acc _)
 ·obtain⟨v,z⟩:=I.cell x c (b.sub x c e);exact⟨v,z.keeps kp⟩
 ·show upd H2 Dd o0 C=none;rw[b8 (qN ne)];exact I.hok.fresh hC
 ·rw[b8 (cD x c (b.sub x c e))];exact I.freeC x c (b.sub x c e)
 ·show(capS js σ++[some (V.ref Dd)]).length=(N++[accN]).length;unfold capS;simp[b.cap.len]
end
def AllC (X:Cx):List (Str×Addr)->Prop
 | []=>True
 | p::r=>X.env.cells.lookup p.1=some p.2/\AllC X r
theorem AllC.sub {X:Cx}:∀{cl:List (Str×Addr)},AllC X cl->∀y c,cl.lookup y=some c->X.env.cells.lookup y=some c
 | [],_,y,c,e=>by simp at e
 | (n,c0)::r,h,y,c,e=>by
  rw[List.lookup_cons] at e;cases q:y==n with
  | true=>
   rw[q] at e;cases e
   have:y=n:=by simpa using q
   rw[this];exact h.1
  | false=>rw[q] at e;exact AllC.sub h.2 y c e
theorem Q1 {α:Type}:∀{l:List (Str×α)} {y:Str} {k:α},l.lookup y=some k->(y,k)∈l
 | [],y,k,e=>by simp at e
 | (n,a)::r,y,k,e=>by
  rw[List.lookup_cons] at e;cases q:y==n with
  | true=>
   rw[q] at e;cases e
   have:y=n:=by simpa using q
   rw[this];exact zR
  | false=>rw[q] at e;exact zN _ (Q1 e)
section
variable {X:Cx}{scope:Scope}{cl:List (Str×Addr)}{N:List Str}{js:List (Option Nat)}
theorem M5 (cap:Cap X (relabel scope X.env) cl N js)(clos:closureFor scope X.env=pure cl)(sub:AllC X cl)(has:(relabel scope X.env).names.all (fun p=>(p.2 != .cell&&p.2 != .free)||(cl.lookup p.1).isSome)=true)(kind:scope.kind= .function:=by rfl)(cell:scope.names.all (fun y=>y.2 != .cell)=true:=by decide +kernel)
  (nms:scope.names.all (fun y=>y.2 != .local||scope.names.lookup y.1==some .local)=true:=by decide +kernel) (acc:(relabel scope X.env).names.lookup accN=none:=by rfl):Blk X scope cl N js where
 clos:=clos
 kind:=kind
 cell:=fun y hy=>by have:=all_eq_true.mp cell y hy;simpa using this
 nms:=fun y hy hl=>by have:=all_eq_true.mp nms y hy;rw[hl] at this;simpa using this
 cap:=cap
 sub:=sub.sub
 has:=fun y h=>by
  have key:∀k,(relabel scope X.env).names.lookup y=some k->k= .cell\/k= .free->∃c,cl.lookup y=some c:=fun k e hk=>by
   have:=all_eq_true.mp has (y,k) (Q1 e)
   rcases hk with rfl|rfl<;>simpa [isSome_iff_exists] using this
  rcases h with h|h
  ·exact key _ h (.inl rfl)
  ·exact key _ h (.inr rfl)
 acc:=fun k e=>by rw[acc] at e;cases e
end
def capW (k:Bool):W->Option W
 | .v d=>some (.v d)
 | .o d=>some (if k then .l d else .v d)
 | .l d=>some (if k then .l d else .v d)
 | .r _=>none
def capE (lj:Option Nat) (js:List (Option Nat)) (ρ:Ev):Ev:=js.map fun o=>o.bind fun j=>((ρ[j]?).join).bind (capW (lj==some j))
def Capd (ρ:Ev) (σ:L2.St) (js:List (Option Nat)) (b:Addr):Prop:=∃(j:Nat) (w:W) (d:D),some j∈js/\ρ[j]? =some (some w)/\w.own=some d/\σ[j]? =some (some (V.ref b))
def lentL (li:Option (Nat×Nat)) (σ:L2.St):List (Option Nat×Addr):=match li with
 | some (i,j)=>match σ[j]? with
  | some (some (.ref a))=>[(some i,a)]
  | _=>[]
 | none=>[]
structure LiOk (li:Option (Nat×Nat)) (js:List (Option Nat)) (ρ:Ev):Prop where
 own:∀i j,li=some (i,j)->∃c,ownAt ρ j=some c
 at':∀i j,li=some (i,j)->js[i]? =some (some j)
 one:∀i j k,li=some (i,j)->js[k]? =some (some j)->k=i
section
variable {X:Cx}{P:List (D×V)}{O:Av}{L:List (Option Nat×Addr)}{ρ:Ev}{σ:L2.St}{H2:Hp}{s2:Shared}{scope:Scope}{cl:List (Str×Addr)}{N:List Str}{js:List (Option Nat)}{fp:List Addr}{Dd C:Addr}{li:Option (Nat×Nat)}
theorem K7 {lj:Option Nat}{i:Nat}{w:W}(e:(capE lj js ρ)[i]? =some (some w)):∃j w0,js[i]? =some (some j)/\ρ[j]? =some (some w0)/\capW (lj==some j) w0=some w:=by
 unfold capE at e;rw[qE] at e;cases ej:js[i]? with
 | none=>rw[ej] at e;cases e
 | some o=>
  rw[ej] at e;cases o with
  | none=>cases e
  | some j=>
   simp only[jS,bind_some] at e;cases q:ρ[j]? with
   | none=>rw[q] at e;cases e
   | some o=>
    rw[q] at e;cases o with
    | none=>cases e
    | some w0=>exact⟨j,w0,rfl,q,qS e⟩
theorem L9 {i j:Nat}{v:V}(ej:js[i]? =some (some j))(e:σ[j]? =some (some v)):(capS js σ)[i]? =some (some v):=by
 unfold capS;rw[qE,ej];simp only[jS,bind_some];rw[e];rfl
theorem T9 {b:Addr}:(none,b)∉lentL li σ:=by
 unfold lentL
 split
 ·split
  ·simp
  ·simp
 ·simp
theorem A8 {i:Nat}{b:Addr}:(some i,b)∈lentL li σ↔∃j,li=some (i,j)/\σ[j]? =some (some (.ref b)):=by
 unfold lentL;cases li with
 | none=>simp
 | some p=>
  obtain⟨i',j'⟩:=p;dsimp only;constructor
  ·intro h;split at h
   ·rename_i a q;rw[zV] at h;cases h;exact⟨j',rfl,q⟩
   ·cases h
  ·rintro⟨j,e,q⟩;cases e;rw[q];exact zV.mpr rfl
theorem D0 {d0:D}(r:Rep X P O L ρ σ H2)(hl:LiOk li js ρ){i:Nat}{w:W}{d:D}{v:V}(e1:(capE (li.map (·.2)) js ρ++[some (.l d0)])[i]? =some (some w))(e2:w.own=some d)(e3:(capS js σ++[some (.ref Dd)])[i]? =some (some v)):
  (i=js.length/\w= .l d0/\v= .ref Dd)\/∃j a w0,li=some (i,j)/\i<js.length/\w= .l d/\js[i]? =some (some j)/\ρ[j]? =some (some w0)/\w0.own=some d/\σ[j]? =some (some (.ref a))/\v= .ref a:=by
 have hcl:(capE (li.map (·.2)) js ρ).length=js.length:=by unfold capE;simp
 have hsl:(capS js σ).length=js.length:=by unfold capS;simp
 by_cases hi:i<js.length
 ·rw[zU (by walk_at "o")] at e1 e3
  obtain⟨j,w0,ej,q,ew⟩:=K7 e1;have own0:w0.own≠none/\li.map (·.2)=some j/\w= .l d/\w0.own=some d:=by
   cases w0 with
   | v c=>cases ew;cases e2
   | r c=>cases ew
   | o c=>
    simp only[capW] at ew;split at ew
    ·rename_i hk;cases ew;cases e2;exact⟨nofun,by simpa using hk,rfl,rfl⟩
    ·cases ew;cases e2
   | l c=>
    simp only[capW] at ew;split at ew
    ·rename_i hk;cases ew;cases e2;exact⟨nofun,by simpa using hk,rfl,rfl⟩
    ·cases ew;cases e2
  obtain⟨_,hlj,rfl,ow⟩:=own0;obtain⟨a,h1,h2⟩:=r.obj q ow;rw[L9 ej h1] at e3;cases e3;cases li with
  | none=>cases hlj
  | some p=>
   obtain⟨i',j'⟩:=p;cases hlj
   have:=hl.one i' _ i rfl ej
   subst this;exact .inr ⟨_,a,w0,rfl,hi,rfl,ej,q,ow,h1,rfl⟩
 ·have hi':i=js.length:=by
   have:=(zE.mp e1).1
   rw[zO,hcl] at this;simp at this;walk_at "o"
  subst hi';rw[zZ (by walk_at "o"),hcl,jL] at e1
  rw[zZ (by walk_at "o"),hsl,jL] at e3
  simp only[xL,Option.some.injEq] at e1 e3;exact .inl ⟨rfl,e1.symm,e3.symm⟩
theorem a54 {d0:D}{o0:HO}(hob:∀A H,H Dd=some o0->Obj X.K A H Dd d0)(r:Rep X P O L ρ σ H2)(hl:LiOk li js ρ)(hn:H2 Dd=none):
  Rep (blk X scope cl s2 H2 fp C (N++[accN])) P (fun b=>AvO O ρ σ b/\¬Capd ρ σ js b) ((some js.length,Dd)::lentL li σ) (capE (li.map (·.2)) js ρ++[some (.l d0)]) (capS js σ++[some (.ref Dd)]) (upd H2 Dd o0):=by
 have hcl:(capE (li.map (·.2)) js ρ).length=js.length:=by unfold capE;simp
 have hsl:(capS js σ).length=js.length:=by unfold capS;simp
 have acc1:(capE (li.map (·.2)) js ρ++[some (.l d0)])[js.length]? =some (some (.l d0)):=by rw[zZ (by walk_at "o"),hcl,jL];rfl
 have acc2:(capS js σ++[some (V.ref Dd)])[js.length]? =some (some (.ref Dd)):=by rw[zZ (by walk_at "o"),hsl,jL];rfl
 have lnt2:∀{i j:Nat} {a:Addr},li=some (i,j)->σ[j]? =some (some (.ref a))->∃w0 d,ρ[j]? =some (some w0)/\w0.own=some d/\(capE (li.map (·.2)) js ρ++[some (.l d0)])[i]? =some (some (.l d))/\(capS js σ++[some (V.ref Dd)])[i]? =some (some (.ref a)):=fun{i j a} e1 e2=>by
  obtain⟨c,ec⟩:=hl.own i j e1;obtain⟨w0,q,ow⟩:=l6 ec;have ej:=hl.at' i j e1;have hi:i<js.length:=(zE.mp ej).1;refine⟨w0,c,q,ow,?_,by rw[zU (by walk_at "o")];exact L9 ej e2⟩
  rw[zU (by walk_at "o")]
  unfold capE;rw[qE,ej];simp only[jS,bind_some,q,Option.join_some,e1,beq_self_eq_true];cases w0 with
  | o x=>cases ow;rfl
  | l x=>cases ow;rfl
  | _=>cases ow
 have av:∀b,AvO (fun b=>AvO O ρ σ b/\¬Capd ρ σ js b) (capE (li.map (·.2)) js ρ++[some (.l d0)]) (capS js σ++[some (V.ref Dd)]) b->AvO O ρ σ b\/H2 b=none:=fun b z=>by
  rcases z with z|⟨i,w,d,e1,e2,e3⟩
  ·exact .inl z.1
  ·rcases D0 r hl e1 e2 e3 with ⟨_,_,e⟩|⟨j,a,w0,_,_,_,_,q,ow,qs,e⟩
   ·cases e;exact .inr hn
   ·cases e;exact .inl (.inr ⟨j,w0,d,q,ow,qs⟩)
 have g:Go (AvO O ρ σ) (AvO (fun b=>AvO O ρ σ b/\¬Capd ρ σ js b) (capE (li.map (·.2)) js ρ++[some (.l d0)]) (capS js σ++[some (V.ref Dd)])) (fun _=>False) H2 (upd H2 Dd o0):=⟨fun b o e _=>j6 hn _ b o e,fun _ z=>z.elim,av⟩;refine⟨fun b o e _=>j6 hn _ b o e,fun b z=>⟨r.there z.1,fun i m=>?_⟩,by simp[hcl,hsl],fun i w e=>?_,fun i i' w w' d d' b e1 e2 e3 e4 e5 e6=>?_,fun i d b e=>?_,fun i d e=>?_,fun i b e=>?_,fun p hp=>j8 g _ _ (r.prot p hp),fun b m=>⟨js.length,Dd,zR⟩⟩
 ·rcases qG.mp m with m|m
  ·cases m;exact r.fresh hn z.1
  ·cases i with
   | none=>exact T9 m
   | some i=>
    obtain⟨j,e1,e2⟩:=A8.mp m;obtain⟨w0,d,q,ow,_⟩:=lnt2 e1 e2;exact z.2 ⟨j,w0,d,xB (hl.at' i j e1),q,ow,e2⟩
 ·by_cases hi:i<js.length
  ·have e':=e;rw[zU (by walk_at "o")] at e'
   obtain⟨j,w0,ej,q,ew⟩:=K7 e';obtain⟨v,h1,h2⟩:=r.slot j w0 q;refine⟨v,by rw[zU (by walk_at "o")];exact L9 ej h1,?_⟩
   cases w0 with
   | v c=>cases ew;exact j8 g _ _ h2
   | r c=>cases ew
   | o c=>
    simp only[capW] at ew;obtain⟨a,rfl,ob⟩:=h2;have hk:upd H2 Dd o0 a=H2 a:=b8 fun z=>by obtain⟨u,eu,_⟩:=z3 ob;rw[z,hn] at eu;cases eu
    split at ew
    ·cases ew;exact⟨a,rfl,n6 g hk ob⟩
    ·rename_i nk;cases ew;refine L1 (n6 g hk ob) fun z=>?_;rcases z with z|⟨i2,w2,d2,e1,e2,e3⟩
     ·exact z.2 ⟨j,_,c,xB ej,q,rfl,h1⟩
     ·rcases D0 r hl e1 e2 e3 with ⟨_,_,e⟩|⟨j2,a2,w0,l2,_,_,ej2,q2,ow2,qs2,e⟩
      ·cases e;obtain⟨u,eu,_⟩:=z3 ob;rw[hn] at eu;cases eu
      ·cases e
       have:=r.inj j j2 _ w0 c d2 a q rfl h1 q2 ow2 qs2
       subst this;rw[l2] at nk;simp at nk
   | l c=>
    simp only[capW] at ew;obtain⟨a,rfl,ob⟩:=h2;have hk:upd H2 Dd o0 a=H2 a:=b8 fun z=>by obtain⟨u,eu,_⟩:=z3 ob;rw[z,hn] at eu;cases eu
    split at ew
    ·cases ew;exact⟨a,rfl,n6 g hk ob⟩
    ·rename_i nk;cases ew;refine L1 (n6 g hk ob) fun z=>?_;rcases z with z|⟨i2,w2,d2,e1,e2,e3⟩
     ·exact z.2 ⟨j,_,c,xB ej,q,rfl,h1⟩
     ·rcases D0 r hl e1 e2 e3 with ⟨_,_,e⟩|⟨j2,a2,w0,l2,_,_,ej2,q2,ow2,qs2,e⟩
      ·cases e;obtain⟨u,eu,_⟩:=z3 ob;rw[hn] at eu;cases eu
      ·cases e
       have:=r.inj j j2 _ w0 c d2 a q rfl h1 q2 ow2 qs2
       subst this;rw[l2] at nk;simp at nk
  ·have hi':i=js.length:=by
    have:=(zE.mp e).1
    rw[zO,hcl] at this;simp at this;walk_at "o"
   subst hi';rw[acc1] at e;cases e;exact⟨.ref Dd,acc2,Dd,rfl,hob _ _ o4⟩
 ·rcases D0 r hl e1 e2 e3 with ⟨rfl,_,e⟩|⟨j,a,w0,l1,_,_,_,q,ow,qs,e⟩
  ·cases e;rcases D0 r hl e4 e5 e6 with ⟨rfl,_,_⟩|⟨j,a,w0,l1,_,_,_,q,ow,qs,e⟩
   ·rfl
   ·cases e;obtain⟨u,eu,_⟩:=r.owMu ⟨j,w0,d',q,ow,qs⟩;rw[hn] at eu;cases eu
  ·cases e;rcases D0 r hl e4 e5 e6 with ⟨rfl,_,e⟩|⟨j',a',w0',l1',_,_,_,q',ow',qs',e⟩
   ·cases e;obtain⟨u,eu,_⟩:=r.owMu ⟨j,w0,d,q,ow,qs⟩;rw[hn] at eu;cases eu
   ·rw[l1] at l1';cases l1';rfl
 ·by_cases hi:i<js.length
  ·rw[zU (by walk_at "o")] at e
   obtain⟨j,w0,ej,q,ew⟩:=K7 e;cases w0<;>simp only[capW] at ew<;>first|cases ew|(split at ew<;>cases ew)
  ·rw[zZ (by walk_at "o")] at e
   cases q:i-(capE (li.map (·.2)) js ρ).length with
   | zero=>rw[q] at e;cases e
   | succ n=>rw[q] at e;simp at e
 ·by_cases hi:i<js.length
  ·have e':=e;rw[zU (by walk_at "o")] at e'
   obtain⟨j,w0,ej,q,ew⟩:=K7 e';obtain⟨v,h1,h2⟩:=r.slot j w0 q;have e3:(capS js σ++[some (V.ref Dd)])[i]? =some (some v):=by rw[zU (by walk_at "o")];exact L9 ej h1
   rcases D0 r hl e rfl e3 with ⟨rfl,_⟩|⟨j,a,w0,l1,_,_,_,q,ow,qs,rfl⟩
   ·walk_at "o"
   ·exact⟨a,e3,zN _ (A8.mpr ⟨j,l1,qs⟩)⟩
  ·have hi':i=js.length:=by
    have:=(zE.mp e).1
    rw[zO,hcl] at this;simp at this;walk_at "o"
   subst hi';exact⟨Dd,acc2,zR⟩
 ·rcases qG.mp e with e|e
  ·cases e;exact⟨_,acc1,acc2⟩
  ·obtain⟨j,e1,e2⟩:=A8.mp e;obtain⟨w0,d,_,_,q1,q2⟩:=lnt2 e1 e2;exact⟨d,q1,q2⟩
end
structure Tst (Y:Cx) (ifs:List Expr) (t:FT):Prop where
 to:∀(pins:List (Addr×PySem.Obj)) (s:Shared) (σ:L2.St) (H:Hp) (P:List (D×V)) (O:Av) (L:List (Option Nat×Addr)) (ρ ρ':Ev) (k:Bool) (Q:Bool->Hp->Prop),Inv Y pins σ H s->Rep Y P O L ρ σ H->t ρ=some (k,ρ')->(∀H',Rep Y P O L ρ' σ H'->Q k H')->
  wpAny (model Y.prog Y.w) Y.A (forIn ifs true fun c r=>if r=true then do let ok <-isTrue c Y.env (eval c Y.env);pure (ForInStep.yield ok) else pure (ForInStep.yield r)) (TP Y pins σ Q) Fa s
theorem P5 {Y:Cx}:Tst Y [] (fun ρ=>some (true,ρ)):=⟨fun pins s σ H P O L ρ ρ' k Q I r e q=>by cases e;exact wpAny_tests_nil ⟨H,I,q H r⟩⟩
theorem a11 {Y:Cx}{c:Expr}{t:FT}(hx:Y.xe=Fa)(h:QT Y c t):Tst Y [c] t:=⟨fun pins s σ H P O L ρ ρ' k Q I r e q=>by
 have z:=h.to pins s σ H Q I ⟨P,O,L,ρ,k,ρ',r,e,q⟩;rw[hx] at z
 exact wpAny_tests_one z⟩
def WksB (li:Option (Nat×Nat)) (K:PySem.W.Frag) (P:List (D×V)) (O:Av) (ρ:Ev) (σ:L2.St) (H:Hp) (xs:List D) (J:It):Prop:=∀(Y:Cx) (O':Av) (L:List (Option Nat×Addr)) (ρ':Ev) (σ':L2.St) (H':Hp),Y.K=K->Y.H₀=H->Rep Y P O' L ρ' σ' H'->(∀b,O' b->AvO O ρ σ b)->(li=none->∀i b,(i,b)∈L->H b=none)->
 (∀(i:Nat) (x:D),xs[i]? =some x->J.go i H'/\∀v H'',J.yld i H' v H''->Same H' H''/\Den K (AvO O' ρ' σ') H'' x v)/\J.stop xs.length H'
def tIB (X:Cx) (li:Option (Nat×Nat)) (fi:FI):TI:=fun σ H R=>∃P O L ρ xs ρ',Rep X P O L ρ σ H/\fi ρ=some (xs,ρ')/\∀J H1 P',Rep X P' O L ρ' σ H1->Holds P' P->WksB li X.K P' O ρ' σ H1 xs J->R J H1
theorem tIBe {X:Cx}{li:Option (Nat×Nat)}{fi:FI}{σ:L2.St}{H:Hp}{R:It->Hp->Prop}{C:Prop}(h:tIB X li fi σ H R)(k:∀P O L ρ xs ρ',Rep X P O L ρ σ H->fi ρ=some (xs,ρ')->(∀J H1 P',Rep X P' O L ρ' σ H1->Holds P' P->WksB li X.K P' O ρ' σ H1 xs J->R J H1)->C):C:=by
 obtain⟨P,O,L,ρ,w,ρ',r,e,q⟩:=h;exact k P O L ρ w ρ' r e q
structure QIB (X:Cx) (li:Option (Nat×Nat)) (tg iter:Expr) (fi:FI):Prop where
 to:PI X tg iter (tIB X li fi)
theorem Wks.b {li:Option (Nat×Nat)}{K:PySem.W.Frag}{P:List (D×V)}{O:Av}{ρ:Ev}{σ:L2.St}{H:Hp}{xs:List D}{J:It}(w:Wks K P xs J):WksB li K P O ρ σ H xs J:=fun Y O' L ρ' σ' H' hY _ r _ _=>w Y O' L ρ' σ' H' hY r
theorem a0g {X:Cx}{li:Option (Nat×Nat)}{tg iter:Expr}{fi:FI}(h:QI X tg iter fi):QIB X li tg iter fi:=⟨PI.weak h.to fun σ H R h0=>tIBe h0 fun P O L ρ xs ρ' r e q=>⟨P,O,L,ρ,xs,ρ',r,e,fun J H1 P' r1 hh w=>q J H1 P' r1 hh w.b⟩⟩
def fiName (i:Nat):FI:=fun ρ=>match ρ[i]? with
 | some (some (.v d))=>(items d).map fun xs=>(xs,ρ)
 | some (some (.r _))=>none
 | some (some w)=>match w.own with
  | some (.lst xs)=>some (xs,ρ)
  | _=>none
 | _=>none
theorem a7J {Y:Cx}{P:List (D×V)}{O O':Av}{L:List (Option Nat×Addr)}{ρ ρ':Ev}{σ σ':L2.St}{H H':Hp}(hH:Y.H₀=H)(r:Rep Y P O' L ρ' σ' H')(ho:∀b,O' b->AvO O ρ σ b)(hn:∀i b,(i,b)∈L->H b=none):Go (AvO O ρ σ) (AvO O' ρ' σ') (fun _=>False) H H' where
 k:=fun b o e _=>r.same b o (by rw[hH];exact e) fun i m=>by rw[hn i b m] at e;cases e
 m:=fun _ z=>z.elim
 n:=fun b z=>by
  rcases z with z|⟨i,w,d,e1,e2,e3⟩
  ·exact .inl (ho b z)
  ·cases w with
   | o c=>
    have z:=r.new i c b e1 e3;unfold hz at z;split at z
    ·rename_i m;exact .inr (hn none b m)
    ·exact .inr (by rw[<-hH];exact z)
   | l c=>obtain⟨b',q1,q2⟩:=r.lnt i c e1;rw[e3] at q1;cases q1;exact .inr (hn (some i) b q2)
   | _=>cases e2
theorem a0u {X:Cx}{tg:Expr}{pos:Pos}(i:Nat){x:Str}(hN:X.N[i]? =some x:=by rfl)(hv:Vis X.env.scope x:=by first|exact Or.inl rfl|exact Or.inr (Or.inl rfl)|exact Or.inr (Or.inr rfl))(hd:(x==("__debug__":Str))=false:=by decide)(hcd:(x==("__classdict__":Str))=false:=by decide):QIB X none tg (.Name x pos) (fiName i):=⟨PI.weak (a3I (a4h hN hv hd hcd)) fun σ H R h0=>tIBe h0 fun P O L ρ xs ρ' r e q=>by
 unfold fiName at e;split at e
 ·rename_i d0 e0;obtain⟨v,h1,h2⟩:=r.slot i _ e0;have h2:Den X.K (AvO O ρ σ) H d0 v:=h2;obtain⟨ys,e3,e⟩:=oms e;cases e;have r3:=r.more (p:=(d0,v)) h2;have hh:Holds ((d0,v)::P) P:=fun p hp=>zN _ hp;refine⟨v,h1,?_⟩;cases d0 with
  | tup zs=>
   cases e3;have z:=h2;rw[Den] at z;obtain⟨a,vs,rfl,hq,l⟩:=z;refine .inr ⟨a,rfl,⟨vs,hq⟩,q _ H _ r3 hh (Wks.b fun Y O' L' ρ' σ' Hh hY rr=>?_)⟩;have z:=rr.head;rw[hY] at z;rw[Den] at z;obtain⟨a',vs,ea,hq,l⟩:=z;cases ea;refine⟨fun i x ex=>?_,vs,hq,by rw[<-a8 l];exact zC _⟩
   obtain⟨v0,hv,dv⟩:=r6 l ex;exact⟨⟨vs,v0,hq,hv⟩,fun w H' ⟨y1,y2⟩=>by subst y1;have:=y2 vs hq;rw[hv] at this;cases this;exact⟨Same.refl _,dv⟩⟩
  | lst zs=>
   cases e3;obtain⟨a,vs,rfl,hq,l⟩:=A9 h2;refine .inl ⟨a,rfl,⟨vs,hq⟩,q _ H _ r3 hh (Wks.b fun Y O' L' ρ' σ' Hh hY rr=>?_)⟩;have z:=rr.head;rw[hY] at z;obtain⟨a',vs,ea,hq,l⟩:=A9 z;cases ea;refine⟨fun i x ex=>?_,vs,hq,by rw[<-a8 l];exact zC _⟩
   obtain⟨v0,hv,dv⟩:=r6 l ex;exact⟨⟨vs,v0,hq,hv⟩,fun w H' ⟨y1,y2⟩=>by subst y1;have:=y2 vs hq;rw[hv] at this;cases this;exact⟨Same.refl _,dv⟩⟩
  | _=>cases e3
 ·cases e
 ·rename_i w0 _ _ e0;cases ew:w0.own with
  | none=>rw[ew] at e;cases e
  | some c=>
   rw[ew] at e;cases c with
   | lst zs=>
    cases e;obtain⟨a,h1,h2⟩:=r.obj e0 ew;refine⟨.ref a,h1,?_⟩;obtain⟨vs,h4,lz⟩:=h2;refine .inl ⟨a,rfl,⟨vs,.inl (.inl h4)⟩,q _ H P r (fun p hp=>hp) fun Y O' L' ρ2 σ2 Hh hY hH rr ho hn=>?_⟩;have g:=a7J hH rr ho (hn rfl);have l2:=m7 g _ _ lz;have h5:Hh a=some (.lst vs):=g.k a _ h4 id;have hq:SqL X.K Hh a vs:=.inl (.inl h5);refine⟨fun i x ex=>?_,vs,hq,by rw[<-a8 lz];exact zC _⟩
    obtain⟨v0,hv,dv⟩:=r6 l2 ex;exact⟨⟨vs,v0,hq,hv⟩,fun w H' ⟨y1,y2⟩=>by subst y1;have:=y2 vs hq;rw[hv] at this;cases this;exact⟨Same.refl _,dv⟩⟩
   | _=>cases e
 ·cases e⟩
def appTo (k:Nat) (p:W×Ev):Option Ev:=(takeAll p.2 [p.1.fz]).bind fun q=>match q.1,ownAt q.2 k with
 | [d],some (.lst zs)=>if zs.length<lim then some (setOwn q.2 k (.lst (zs++[d]))) else none
 | _,_=>none
def turnC (k:Nat) (gf:FG) (t:FT) (fe:FX):D->Ev->Option Ev:=fun x ρ=>(gf x ρ).bind fun ρ1=>(t ρ1).bind fun p=>if p.1=true then(fe p.2).bind (appTo k) else some p.2
def loopC (st:D->Ev->Option Ev):List D->Ev->Option Ev
 | [],ρ=>some ρ
 | x::xs,ρ=>(st x ρ).bind (loopC st xs)
section
variable {X:Cx}{pins:List (Addr×PySem.Obj)}{σ:L2.St}{H2:Hp}{s2:Shared}{scope:Scope}{cl:List (Str×Addr)}{N:List Str}{js:List (Option Nat)}{fp:List Addr}{it:Addr}{tn:Nat->Heap->Prop}{J:It}{elt tg iter:Expr}{ifs:List Expr}{pos:Pos}{P:List (D×V)}{O:Av}{L:List (Option Nat×Addr)}{ρ ρe:Ev}{xs:List D}{gf:FG}{t:FT}{fe:FX}{Qq:Value->Shared->Prop}{use:Option (Value->Sem Unit)}{li:Option (Nat×Nat)}
def turnG (gf:FG) (t:FT) (stp:Ev->Option Ev):D->Ev->Option Ev:=fun x ρ=>(gf x ρ).bind fun ρ1=>(t ρ1).bind fun p=>if p.1=true then stp p.2 else some p.2
theorem a3h {new:Sem Value}{ce:Expr}{ob0:PySem.Obj}{o0:HO}{d0:D}{stp:Ev->Option Ev}{el:Env->Addr->Shared->(Shared->Prop)->Prop}
  (hnew:∀{Q:Value->Shared->Prop},Q (.ref s2.heap.objs.size) {s2 with heap:=s2.heap.push ob0}->wpAny (model X.prog X.w) X.A new Q X.xe s2) (hob:∀A H a,H a=some o0->Obj X.K A H a d0) (hok:HOk X.K X.prog X.w (upd H2 s2.heap.objs.size o0) (s2.heap.push ob0))
  (hloop:∀{Dd:Addr} {env:Env} {R:Result->Shared->Prop} {s:Shared} (I:Nat->Shared->Prop),(∀n s,I n s->wpAny (model X.prog X.w) X.A (pyNext (.ref it)) (fun r s1=>match r with
   | none=>R (.ok .next) s1
   | some v=>wpAny (model X.prog X.w) X.A (letOwnedTupleGo tg (.ref it) v) (fun _ s2=>wpAny (model X.prog X.w) X.A (assign tg env v) (fun _ s3=>
     wpAny (model X.prog X.w) X.A (forIn ifs true fun c r=>if r=true then do let ok <-isTrue c env (eval c env);pure (ForInStep.yield ok) else pure (ForInStep.yield r)) (fun ok s4=>
      if ok=true then el env Dd s4 (fun s6=>∃m,m<n/\I m s6) else ∃m,m<n/\I m s4) Fa s3) Fa s2) Fa s1) Fa s)->∀n,I n s->codeAny (model X.prog X.w) X.A (.compLoop ce 0 (.ref it) (.ref Dd) env) R s)
  (hstart:∀{acc:Value} {env:Env} {R:Result->Shared->Prop} {s:Shared},codeAny (model X.prog X.w) X.A (.compLoop ce 0 (.ref it) acc env) R s->wpAny (model X.prog X.w) X.A (pyIter (.ref it)) (fun it' s'=>codeAny (model X.prog X.w) X.A (.compLoop ce 0 it' acc env) R s') (notedBy (model X.prog X.w) X.A env fun x s'=>R (.error x) s') s->codeAny (model X.prog X.w) X.A (.compStart ce 0 (.ref it) acc env) R s)
  (hE:∀{C Dd:Addr} {qs:List (Addr×PySem.Obj)} {σ6:L2.St} {H7:Hp} {s7:Shared} {O':Av} {L':List (Option Nat×Addr)} {ρ2 ρt:Ev} {K:Shared->Prop},(some js.length,Dd)∈L'->Inv (blk X scope cl s2 H2 fp C (N++[accN])) qs σ6 H7 s7->Rep (blk X scope cl s2 H2 fp C (N++[accN])) P O' L' ρ2 σ6 H7->stp ρ2=some ρt->(∀{s8 H8},Inv (blk X scope cl s2 H2 fp C (N++[accN])) qs σ6 H8 s8->Rep (blk X scope cl s2 H2 fp C (N++[accN])) P O' L' ρt σ6 H8->K s8)->el (compEnvC scope cl C X.env) Dd s7 K)
  (hcalm:X.calm=true) (I2:Inv X pins σ H2 s2) (T:Turn X.prog X.w X.K tg J fp it tn) (st2:tn 0 s2.heap) (f2:∀y∈fp,FpOk X pins H2 y) (b:Blk X scope cl N js) (r:Rep X P O L ρ σ H2) (hl:LiOk li js ρ) (wk:WksB li X.K P O ρ σ H2 xs J)
  (hg:∀C,QG (blk X scope cl s2 H2 fp C (N++[accN])) tg gf) (ht:∀C,Tst (blk X scope cl s2 H2 fp C (N++[accN])) ifs t)
  (e:loopC (turnG gf t stp) xs (capE (li.map (·.2)) js ρ++[some (.l d0)])=some ρe)
  (fin:∀(Dd C:Addr) (σe:L2.St) (He:Hp) (s1:Shared),H2 Dd=none->s2.heap.objs.size<=C->Inv (blk X scope cl s2 H2 fp C (N++[accN])) [] σe He s1->Rep (blk X scope cl s2 H2 fp C (N++[accN])) P (fun b=>AvO O ρ σ b/\¬Capd ρ σ js b) ((some js.length,Dd)::lentL li σ) ρe σe He->
   compPost (model X.prog X.w) X.A X.xe use Qq (.ref Dd) C (.ok .next) s1):
  wpAny (model X.prog X.w) X.A new (fun acc s3=>wpAny (model X.prog X.w) X.A (newFunctionEnv scope X.env.globals cl [] X.env.qual none .none (some X.env)) (fun cenv s4=>
   codeAny (model X.prog X.w) X.A (.compStart ce 0 (.ref it) acc {cenv with scope:=relabel scope X.env}) (compPost (model X.prog X.w) X.A X.xe use Qq acc cenv.locals) s4) X.xe s3) X.xe s2:=by
 have fl:∀y∈fp,y<s2.heap.objs.size:=fun y hy=>by obtain⟨o,eo,_⟩:=T.obj _ _ st2 y hy;exact qA eo
 refine hnew (wpAny_newFunctionEnv b.cell (by intro y hy;simp at hy) (fun h' hns hsb=>?_) b.kind)
 dsimp only at hns hsb ⊢;generalize hH:s2.heap.push ob0=H3 at hok hns hsb ⊢;have hC:H3.objs.size=s2.heap.objs.size+1:=by rw[<-hH,Heap.size_push]
 have ne:s2.heap.objs.size≠H3.objs.size:=by rw[hC];exact zW (Nat.lt_succ_self _)
 have leC:s2.heap.objs.size<=H3.objs.size:=by rw[hC];exact Nat.le_succ _
 have kp3:∀y o,s2.heap.get? y=some o->H3.get? y=some o:=fun y o e=>hH▸zI _ e;have kp4:∀y o,H3.get? y=some o->h'.get? y=some o:=fun y o e=>hsb.extBut y o (zW (qA e)) (zI _ e);have hDn:H2 s2.heap.objs.size=none:=I2.hok.fresh (zC _);have I4:=a53 (s4:={s2 with heap:=h',toks:=s2.toks+([]:List (Str×Value)).length}) (Dd:=s2.heap.objs.size) (C:=H3.objs.size) I2 b f2 fl leC (zC _) ne rfl I2.bare (fun y o e=>kp4 y o (kp3 y o e)) hns (hok.kept kp4)
 have R4:=a54 (d0:=d0) (o0:=o0) (fun A H=>hob A H _) (scope:=scope) (cl:=cl) (N:=N) (s2:=s2) (fp:=fp) (C:=H3.objs.size) (Dd:=s2.heap.objs.size) r hl hDn;have hfree:∀{H':Hp},(∀y∈fp,H' y=none)->∀y∈fp,FpOk (blk X scope cl s2 H2 fp H3.objs.size (N++[accN])) [] H' y:=fun hn y hy=>
  ⟨hn y hy,zW (zG (fl y hy) leC),fun z=>(qG.mp (I2.stkSub y z)).elim (f2 y hy).2.1 (f2 y hy).2.2.1,.inl hy,fun x c ec=>(f2 y hy).2.2.2.2.1 x c (b.sub x c ec),fun p hp=>absurd (show p∈([]:List (Addr×PySem.Obj)) from hp) (by simp)⟩
 obtain⟨gg,pg,kg⟩:=(hg H3.objs.size).to;have loop:∀s5:Shared,s5={s2 with heap:=h',toks:=s2.toks+([]:List (Str×Value)).length}->
   codeAny (model X.prog X.w) X.A (.compLoop ce 0 (.ref it) (.ref s2.heap.objs.size) (compEnvC scope cl H3.objs.size X.env))
    (compPost (model X.prog X.w) X.A X.xe use Qq (.ref s2.heap.objs.size) H3.objs.size) s5:=by
  rintro s5 rfl
  let Y:=blk X scope cl s2 H2 fp H3.objs.size (N++[accN])
  let O':Av:=fun b=>AvO O ρ σ b/\¬Capd ρ σ js b
  let L':=(some js.length,s2.heap.objs.size)::lentL li σ
  refine hloop (fun n s=>∃i σ' H' ρ',n=xs.length-i/\i<=xs.length/\Inv Y [] σ' H' s/\tn i s.heap/\(∀y∈fp,H' y=none)/\Rep Y P O' L' ρ' σ' H'/\loopC (turnG gf t stp) (xs.drop i) ρ'=some ρe) ?_ xs.length
   ⟨0,_,_,_,by simp,qW _,I4,T.keep 0 _ _ st2 fun y hy o eo=>kp4 y o (kp3 y o eo),fun y hy=>by rw[b8 (zW (fl y hy))];exact(f2 y hy).1,R4,by simpa using e⟩
  rintro n s ⟨i,σ',H',ρ',rfl,hi,I,st,fr,rp,el⟩;obtain⟨wi,ws⟩:=wk Y O' L' ρ' σ' H' rfl rfl rp (fun b z=>z.1) (fun z i b m=>by subst z;exact(qG.mp m).elim (fun m=>by cases m;exact hDn) (fun m=>by cases m))
  by_cases hlt:i<xs.length
  ·obtain⟨go,yl⟩:=wi i xs[i] (by simp[hlt])
   refine qD (T.item Y rfl rfl rfl hcalm i [] s σ' H' Fa I (hfree fr) st go) (fun r s1 ⟨u,hr,h1⟩=>?_) fun _ _ z=>z;subst hr;refine qD h1 (fun _ s3 ⟨x,H5,I5,r5,y5,st5,fr5⟩=>?_) fun _ _ z=>z;obtain⟨sm5,dx⟩:=yl x H5 y5
   replace rp:=rp.grow sm5
   rw[List.drop_eq_getElem_cons hlt,loopC] at el;cases e1:turnG gf t stp xs[i] ρ' with
   | none=>rw[e1] at el;cases el
   | some ρt=>
    rw[e1] at el;simp only[bind_some] at el;unfold turnG at e1;cases e2:gf xs[i] ρ' with
    | none=>rw[e2] at e1;cases e1
    | some ρ1=>
     rw[e2] at e1;simp only[bind_some] at e1;obtain⟨⟨k,ρ2⟩,e3,e1⟩:=obs e1;dsimp only at e1;have I5':=I5.pinned (hfree fr5) (T.obj _ _ st5);have gq:=kg P O' L' xs[i] x ρ' ρ1 σ' H5 (fun σ2 Hh=>Rep Y P O' L' ρ1 σ2 Hh) rp dx e2 (fun σ2 H2' rp2=>rp2);refine qD (pg _ s3 σ' H5 x u _ I5' r5 gq) (fun _ s6 ⟨σ6,H6,I6,rp6⟩=>?_) fun _ _ z=>z;have back:∀{s7:Shared} {H7:Hp} {ρ7:Ev},Inv Y ([]++pinsAt fp s3.heap) σ6 H7 s7->Rep Y P O' L' ρ7 σ6 H7->loopC (turnG gf t stp) (xs.drop (i+1)) ρ7=some ρe->
       ∃m,m<xs.length-i/\∃i σ' H' ρ',m=xs.length-i/\i<=xs.length/\Inv Y [] σ' H' s7/\tn i s7.heap/\(∀y∈fp,H' y=none)/\Rep Y P O' L' ρ' σ' H'/\loopC (turnG gf t stp) (xs.drop i) ρ'=some ρe:=fun{s7 H7 ρ7} I7 rp7 e7=>by
      refine⟨xs.length-(i+1),by walk_at "o",i+1,σ6,H7,ρ7,rfl,hlt,I7.unpinned,T.keep _ _ _ st5 fun y hy o eo=>(I7.pin (y,o) (qM _ (qM _ (C2 hy eo)))).1,fun y hy=>?_,rp7,e7⟩
      obtain⟨o,eo,_⟩:=T.obj _ _ st5 y hy;exact(I7.pin (y,o) (qM _ (qM _ (C2 hy eo)))).2.1
     refine qD ((ht H3.objs.size).to _ s6 σ6 H6 P O' L' ρ1 ρ2 k (fun k' Hh=>k'=k/\Rep Y P O' L' ρ2 σ6 Hh) I6 rp6 e3 (fun H' rr=>⟨rfl,rr⟩)) (fun ok s7 ⟨H7,I7,hk,rp7⟩=>?_) fun _ _ z=>z;subst hk;cases ok with
     | false=>
      rw[if_neg zS] at e1 ⊢;cases e1;exact back I7 rp7 el
     | true=>
      rw[if_pos rfl] at e1 ⊢;exact hE zR I7 rp7 e1 fun I8 rp8=>back I8 rp8 el
  ·have hie:i=xs.length:=by walk_at "o"
   subst hie;refine qD (T.done Y rfl rfl rfl hcalm _ [] s σ' H' Fa I (hfree fr) st ws) (fun r s1 ⟨hr,I1⟩=>?_) fun _ _ z=>z;subst hr;rw[List.drop_eq_nil_of_le (zC _),loopC] at el;cases el;exact fin _ _ σ' H' s1 hDn leC I1 rp
 exact hstart (loop _ rfl) (T.self _ 0 _ _ _ (T.keep 0 _ _ st2 fun y hy o eo=>kp4 y o (kp3 y o eo)) (loop _ rfl))
theorem a5v (hcalm:X.calm=true)(I2:Inv X pins σ H2 s2)(T:Turn X.prog X.w X.K tg J fp it tn)(st2:tn 0 s2.heap)(f2:∀y∈fp,FpOk X pins H2 y)(b:Blk X scope cl N js)(r:Rep X P O L ρ σ H2)(hl:LiOk li js ρ)(wk:WksB li X.K P O ρ σ H2 xs J)
  (hg:∀C,QG (blk X scope cl s2 H2 fp C (N++[accN])) tg gf) (ht:∀C,Tst (blk X scope cl s2 H2 fp C (N++[accN])) ifs t) (he:∀C,QX (blk X scope cl s2 H2 fp C (N++[accN])) elt fe)
  (e:loopC (turnC js.length gf t fe) xs (capE (li.map (·.2)) js ρ++[some (.l (.lst []))])=some ρe)
  (fin:∀(Dd C:Addr) (σe:L2.St) (He:Hp) (s1:Shared),H2 Dd=none->s2.heap.objs.size<=C->Inv (blk X scope cl s2 H2 fp C (N++[accN])) [] σe He s1->Rep (blk X scope cl s2 H2 fp C (N++[accN])) P (fun b=>AvO O ρ σ b/\¬Capd ρ σ js b) ((some js.length,Dd)::lentL li σ) ρe σe He->
   compPost (model X.prog X.w) X.A X.xe use Qq (.ref Dd) C (.ok .next) s1):
  wpAny (model X.prog X.w) X.A (newList []) (fun acc s3=>wpAny (model X.prog X.w) X.A (newFunctionEnv scope X.env.globals cl [] X.env.qual none .none (some X.env)) (fun cenv s4=>
   codeAny (model X.prog X.w) X.A (.compStart (.ListComp elt [⟨tg,iter,ifs,0⟩] scope pos) 0 (.ref it) acc {cenv with scope:=relabel scope X.env}) (compPost (model X.prog X.w) X.A X.xe use Qq acc cenv.locals) s4) X.xe s3) X.xe s2:=
 a3h (new:=newList []) (ob0:={cls:=.type "list",dict:=none,data:=.seq ([]:List Value).toArray}) (o0:=.lst []) (d0:=.lst []) (stp:=fun ρ=>(fe ρ).bind (appTo js.length)) (el:=fun env a s K=>wpAny (model X.prog X.w) X.A (eval elt env) (fun x s5=>wpAny (model X.prog X.w) X.A (call (.builtin "list.append") [.ref a,x]) (fun _ s6=>K s6) Fa s5) Fa s)
  (fun h=>jC h) (fun _ _ _ e=>⟨[],e,c9⟩) (I2.hok.laid (fun y o e=>zI _ e) (zC _) ⟨qW _,[],0,.nil,qK _ rfl⟩) (fun I t n h=>a3k I t n h) codeAny_compStart_list
  (fun{C Dd qs σ6 H7 s7 O' L' ρ2 ρt K} hL I7 rp7 e1 back=>by
   obtain⟨⟨w,ρ3⟩,e4,e1⟩:=obs e1;simp only[appTo] at e1;obtain⟨⟨ds,ρ4⟩,e5,e1⟩:=obs e1;dsimp only at e1;split at e1
   ·rename_i d zs e6;split at e1
    ·rename_i hl;cases e1;refine qD ((he C).to _ s7 σ6 H7 (fun v H8=>Rep (blk X scope cl s2 H2 fp C (N++[accN])) P O' L' ρ4 σ6 H8/\Den X.K (AvO O' ρ4 σ6) H8 d v) I7 ⟨P,O',L',ρ2,w,ρ3,rp7,e4,fun v H8 H8' r8 s8 d8=>?_⟩) (fun u8 s8 ⟨v8,H8,I8,r8,rp8,d8⟩=>?_) fun _ _ z=>z
     ·obtain⟨r9,l9,_⟩:=l5 (vs:=[v]) (r8.grow s8) e5 ⟨v,[],rfl,d8.fz r8 s8,rfl⟩;obtain⟨v',ev,h'⟩:=denL1 l9;cases ev;exact⟨r9,h'⟩
     ·obtain⟨d0,q1,q2⟩:=rp8.lnd js.length Dd hL;have e6':=e6;unfold ownAt at e6';rw[q1] at e6';cases e6';obtain⟨a,h1,vs,h4,lz⟩:=rp8.obj q1 rfl;rw[q2] at h1;cases h1;have h9:=U7 _ s8 σ6 H8 (.ref Dd) [v8] (.ref Dd) [u8] (fun v H9=>H9=upd H8 Dd (.lst (vs++[v8]))) I8 rfl (.cons r8 .nil) ⟨_,vs,v8,rfl,rfl,h4,by rw[<-a8 lz];exact zG hl v5,rfl⟩
      refine qD h9 (fun _ s9 ⟨v9,H9,I9,_,e9⟩=>?_) fun _ _ z=>z;subst e9;have g0:Go (AvO O' ρ4 σ6) (AvO O' ρ4 σ6) (fun b=>b=Dd) H8 (upd H8 Dd (.lst (vs++[v8]))):=⟨fun b o eb nb=>by rw[b8 nb];exact eb,fun b z=>by rw[z];exact⟨.inr ⟨js.length,_,_,q1,rfl,q2⟩,_,h4,trivial⟩,fun b z=>.inl z⟩
      exact back I9 (rp8.mut (d:=.lst (zs++[d])) e6 q2 (fun b o eb nb=>by rw[b8 nb];exact eb) ⟨_,o4,m7 g0 _ _ (o7 lz (b9 d8 c9))⟩)
    ·cases e1
   ·cases e1) hcalm I2 T st2 f2 b r hl wk hg ht e fin
theorem a4j {C:Addr}{σe:L2.St}{He:Hp}{s1:Shared}{h9:Heap}(I2:Inv X pins σ H2 s2)(f2:∀y∈fp,FpOk X pins H2 y)(leC:s2.heap.objs.size<=C)(I1:Inv (blk X scope cl s2 H2 fp C (N++[accN])) [] σe He s1)(hs9:∀y,y≠C->h9.get? y=s1.heap.get? y):
  Inv X pins σ He {s1 with heap:=h9}:=by
 have neC:∀y,He y≠none->y≠C:=fun y z w=>z (by rw[w];exact I1.free)
 have inS:∀y o,s2.heap.get? y=some o->y≠C:=fun y o e0=>zW (zG (qA e0) leC);have B:=I1.base
 have un:Un (frs X.stack) fp H2 He s2.heap h9:=⟨fun y o e0 n hb hx=>(hs9 y (inS y o e0)).trans (B.keep y o e0 n hb hx),fun y o e0 n hb hx=>by
   obtain⟨sl',z⟩:=B.slot y o e0 n hb hx;exact⟨sl',(hs9 y (inS y o e0)).trans z⟩,B.free,fun y o e0 hx=>by
   obtain⟨o',z⟩:=B.there y o e0 hx
   exact⟨o',(hs9 y (inS y o e0)).trans z⟩,B.tups,B.frzs,B.tbls⟩
 have hok:HOk X.K X.prog X.w He h9:=fun y u0 q0=>(I1.hok y u0 q0).stay (fun c v hc z=>(hs9 c (neC c (by
   rcases hc with w|w
   ·rw[w,q0];exact fun z=>nomatch z
   ·rw[w];exact fun z=>nomatch z))).trans z) (fun _ z=>z) fun _ _ z=>z
 exact I2.call' (s':={s1 with heap:=h9}) (ch:=fp) I1.os un hok I1.bare (fun y hy=>⟨(f2 y hy).2.2.2.1,(f2 y hy).2.1,(f2 y hy).2.2.2.2.1,(f2 y hy).2.2.2.2.2⟩)
end
def capR (js:List (Option Nat)):List W:=js.filterMap fun o=>o.map W.r
def backG (li:Option (Nat×Nat)) (js:List (Option Nat)) (ρe ρ1:Ev) (d:D):Option (W×Ev):=match li with
 | none=>if lfC d=true then some (.o d,ρ1) else(frzL (capR js) ρ1).map fun ρ2=>(.o d,ρ2)
 | some (i,j)=>if lfC d=true then(ownAt ρe i).bind fun c=>if lfC c=true then some (.o d,setOwn ρ1 j c) else none else none
def liJ (li:Option (Nat×Nat)) (js:List (Option Nat)):Bool:=match li with
 | none=>true
 | some (i,j)=>js[i]? == some (some j)&&(List.range js.length).all fun k=>js[k]? != some (some j)||k==i
def liB (li:Option (Nat×Nat)) (ρ:Ev):Bool:=match li with
 | none=>true
 | some (_,j)=>(ownAt ρ j).isSome
def fComp (fi:FI) (li:Option (Nat×Nat)) (js:List (Option Nat)) (gf:FG) (t:FT) (fe:FX):FX:=fun ρ=>(fi ρ).bind fun p=>if liB li p.2=true then
  (loopC (turnC js.length gf t fe) p.1 (capE (li.map (·.2)) js p.2++[some (.l (.lst []))])).bind fun ρe=>match ownAt ρe js.length with
   | some (.lst ys)=>backG li js ρe p.2 (.lst ys)
   | _=>none
 else none
section
variable {X:Cx}{pins:List (Addr×PySem.Obj)}{σ σe:L2.St}{H2 He:Hp}{s2:Shared}{scope:Scope}{cl:List (Str×Addr)}{N:List Str}{js:List (Option Nat)}{fp:List Addr}{Dd C:Addr}{elt tg iter:Expr}{ifs:List Expr}{pos:Pos}{P:List (D×V)}{O:Av}{L:List (Option Nat×Addr)}{ρ ρ2 ρe:Ev}{w:W}{ys:List D}{fi:FI}{gf:FG}{t:FT}{fe:FX}{li:Option (Nat×Nat)}
theorem li_ok (h:liJ li js=true)(hb:liB li ρ=true):LiOk li js ρ:=by
 cases li with
 | none=>exact⟨nofun,nofun,nofun⟩
 | some p=>
  obtain⟨i,j⟩:=p;simp only[liJ,jQ,beq_iff_eq,all_eq_true,mem_range,Bool.or_eq_true,bne_iff_ne] at h;simp only[liB,isSome_iff_exists] at hb;refine⟨fun i' j' e=>by cases e;exact hb,fun i' j' e=>by cases e;exact h.1,fun i' j' k e ek=>?_⟩
  cases e;rcases h.2 k (zE.mp ek).1 with z|z
  ·exact absurd ek z
  ·exact z
theorem a3L {j:Nat}:W.r j∈capR js↔some j∈js:=by
 unfold capR;rw[List.mem_filterMap];constructor
 ·rintro⟨o,h1,h2⟩;cases o with
  | none=>cases h2
  | some k=>cases h2;exact h1
 ·exact fun h=>⟨some j,h,rfl⟩
theorem a5J (r:Rep X P O L ρ σ H2)(hl:LiOk li js ρ)(hn:H2 Dd=none)(rp:Rep (blk X scope cl s2 H2 fp C (N++[accN])) P (fun b=>AvO O ρ σ b/\¬Capd ρ σ js b) ((some js.length,Dd)::lentL li σ) ρe σe He)
  {d0:D} (ey:ownAt ρe js.length=some d0) (e:backG li js ρe ρ d0=some (w,ρ2)):∃Hx,Rep X P O L ρ2 σ Hx/\Same Hx He/\DenW X.K (AvO O ρ2 σ) σ Hx He w (.ref Dd):=by
 obtain⟨c0,q0,ob⟩:=rp.lents js.length Dd zR;rw[ey] at q0;cases q0;cases li with
 | none=>
  have sm:Same H2 He:=fun b o eb=>rp.same b o eb fun i m=>by
   rcases qG.mp m with m|m
   ·cases m;rw[hn] at eb;cases eb
   ·cases m
  unfold backG at e;simp only at e;split at e
  ·rename_i hf;cases e;exact⟨H2,r,sm,Dd,rfl,hn,J5 (d:=d0) (fun _ _ e _=>e) hf rfl ob⟩
  ·obtain⟨ρ3,e4,e⟩:=oms e;cases e;obtain⟨r2,k2⟩:=B6 r e4;refine⟨H2,r2,sm,Dd,rfl,hn,n6 (n5 fun b z=>?_) rfl ob⟩;rcases z with z|z
   ·obtain⟨z1,z2⟩:=J3 r k2 z;exact .inl ⟨z1,fun⟨j,w,d,m,q⟩=>z2 ⟨j,w,d,a3L.mpr m,q⟩⟩
   ·exact .inr ⟨js.length,by rw[z];exact zR⟩
 | some p=>
  obtain⟨i,j⟩:=p;unfold backG at e;simp only at e;split at e
  ·rename_i hf;cases e5:ownAt ρe i with
   | none=>rw[e5] at e;cases e
   | some c=>
    rw[e5] at e;simp only[bind_some] at e;split at e
    ·rename_i hc;cases e;obtain⟨c1,ec1⟩:=hl.own i j rfl;obtain⟨w0,q1,ow⟩:=l6 ec1;obtain⟨a,h1,oba⟩:=r.obj q1 ow;obtain⟨u0,eu0,_⟩:=z3 oba;have na:a≠Dd:=fun z=>by rw[z,hn] at eu0;cases eu0
     have mem:(some i,a)∈lentL (some (i,j)) σ:=A8.mpr ⟨j,rfl,h1⟩;obtain⟨c2,ec2,ob2⟩:=rp.lents i a (zN _ mem);rw[e5] at ec2;cases ec2;obtain⟨ur,eur,mur⟩:=z3 ob;have keep:∀b o,H2 b=some o->b≠a->He b=some o:=fun b o eb nb=>rp.same b o eb fun k m=>by
      rcases qG.mp m with m|m
      ·cases m;rw[hn] at eb;cases eb
      ·cases k with
       | none=>exact T9 m
       | some k=>
        obtain⟨j',e1,e2⟩:=A8.mp m;cases e1;rw[h1] at e2;cases e2;exact nb rfl
     refine⟨fun b=>if b=Dd then none else He b,r.mut ec1 h1 (fun b o eb nb=>?_) (J5 (fun b o eb nm=>?_) hc (if_neg na) ob2),fun b o eb=>?_,Dd,rfl,if_pos rfl,J5 (d:=d0) (fun _ _ e _=>e) hf rfl ob⟩
     ·have:b≠Dd:=fun z=>by rw[z,hn] at eb;cases eb
      show(if b=Dd then none else He b)=some o;rw[if_neg this];exact keep b o eb nb
     ·have:b≠Dd:=fun z=>by rw[z,eur] at eb;cases eb;exact nm mur
      show(if b=Dd then none else He b)=some o;rw[if_neg this];exact eb
     ·dsimp only at eb;split at eb
      ·cases eb
      ·exact eb
    ·cases e
  ·cases e
theorem a08 {Q:VK}{Qq:Value->Shared->Prop}{use:Option (Value->Sem Unit)}{H:Hp}{s:Shared}{newPos:Pos}(hc:X.calm=true)(b:Blk X scope cl N js)(hj:liJ li js=true)(hi:QIB X li tg iter fi)
  (hg:∀s2 H2 fp C,QG (blk X scope cl s2 H2 fp C (N++[accN])) tg gf) (ht:∀s2 H2 fp C,Tst (blk X scope cl s2 H2 fp C (N++[accN])) ifs t) (he:∀s2 H2 fp C,QX (blk X scope cl s2 H2 fp C (N++[accN])) elt fe) (hs:∀x,foldedSetIterable iter X.env x=pure x)
  (I:Inv X pins σ H s) (h:tX X (fComp fi li js gf t fe) σ H Q)
  (fin:∀(C:Addr) (v:V) (He:Hp) (s1:Shared),Q v He->(∀h9:Heap,(∀y,y≠C->h9.get? y=s1.heap.get? y)->Inv X pins σ He {s1 with heap:=h9})->FpOk X pins He C->(∃m,s1.heap.Ns C m)->∀vv,RelV v vv->compPost (model X.prog X.w) X.A X.xe use Qq vv C (.ok .next) s1):
  wpAny (model X.prog X.w) X.A (comprehension (.ListComp elt [⟨tg,iter,ifs,0⟩] scope pos) scope X.env newPos (newList []) false (eval iter X.env) use) Qq X.xe s:=by
 obtain⟨P,O,L,ρ,w,ρ',r,e,q⟩:=h;unfold fComp at e;obtain⟨⟨xs,ρ1⟩,e1,e⟩:=obs e;dsimp only at e;split at e
 ·rename_i hb;cases e2:loopC (turnC js.length gf t fe) xs (capE (li.map (·.2)) js ρ1++[some (.l (.lst []))]) with
  | none=>rw[e2] at e;cases e
  | some ρe=>
   rw[e2] at e;simp only[bind_some] at e;split at e
   ·rename_i ys ey;have hl:=li_ok hj hb;refine wpAny_comprehension_free rfl hs b.clos b.kind b.nms ?_;refine qD (hi.to pins s σ H _ I ⟨P,O,L,ρ,xs,ρ1,r,e1,fun J H1 P' r1 hh wk=>(⟨P',r1,hh,wk⟩:∃P',Rep X P' O L ρ1 σ H1/\Holds P' P/\WksB li X.K P' O ρ1 σ H1 xs J)⟩) (fun v s1 h1=>qD h1 (fun itv s2 h2=>?_) fun _ _ z=>z) fun _ _ z=>z;obtain⟨it,fp,tn,J,H2,rfl,I2,T,st2,f2,P',r1,hh,wk⟩:=h2;refine a5v hc I2 T st2 f2 b r1 hl wk (hg s2 H2 fp) (ht s2 H2 fp) (he s2 H2 fp) e2 fun Dd C σe He s3 hn leC I1 rp=>?_;obtain⟨Hx,rx,sx,dx⟩:=a5J r1 hl hn rp ey e;obtain⟨m,hm,_⟩:=id I1.loc;refine fin C (.ref Dd) He s3 (q _ Hx He (rx.holds hh) sx dx) (fun h9 k9=>a4j I2 f2 leC I1 k9) ?_ ⟨m,hm⟩ (.ref Dd) rfl;exact I2.fpOk leC I1.free
   ·cases e
 ·cases e
theorem Q0 (hc:X.calm=true)(b:Blk X scope cl N js)(hi:QIB X li tg iter fi)(hg:∀s2 H2 fp C,QG (blk X scope cl s2 H2 fp C (N++[accN])) tg gf)(ht:∀s2 H2 fp C,Tst (blk X scope cl s2 H2 fp C (N++[accN])) ifs t)(he:∀s2 H2 fp C,QX (blk X scope cl s2 H2 fp C (N++[accN])) elt fe)
  (hj:liJ li js=true:=by rfl) (hs:∀x,foldedSetIterable iter X.env x=pure x:=by intro _;rfl):QX X (.ListComp elt [⟨tg,iter,ifs,0⟩] scope pos) (fComp fi li js gf t fe):=⟨fun pins s σ H Q I h=>by
 rw[eval_ListComp];refine a08 (use:=none) hc b hj hi hg ht he hs I h fun C v He s1 hq back fp ⟨m,hm⟩ vv rv=>?_
 exact⟨m,hm,fun h9 k9=>⟨v,He,back h9 fun y ny=>k9.2 y ny,rv,hq⟩⟩⟩
def UseOk (X:Cx) (pins:List (Addr×PySem.Obj)) (σ:L2.St) (Q:VK) (u:Value->Sem Unit) (Rr:Shared->Prop):Prop:=
 ∀(C:Addr) (m:Str->Option Value) (s':Shared) (H':Hp) (v:V) (vv:Value),FpOk X pins H' C->s'.heap.Ns C m->Inv X pins σ H' s'->RelV v vv->Q v H'->
  wpAny (model X.prog X.w) X.A (u vv) (fun _ s2=>∃m,s2.heap.Ns C m/\∀h',Heap.SameBut C s2.heap h'->Rr {s2 with heap:=h'}) X.xe s'
structure QXU (X:Cx) (e:Expr) (f:FX):Prop where
 to:∀(pins:List (Addr×PySem.Obj)) (s:Shared) (σ:L2.St) (H:Hp) (Q:VK) (u:Value->Sem Unit) (Rr:Shared->Prop),Inv X pins σ H s->tX X f σ H Q->UseOk X pins σ Q u Rr->
  wpAny (model X.prog X.w) X.A (evalThenUse e X.env u) (fun _ s'=>Rr s') X.xe s
theorem a39 {M:Model}{A:Around}{E:Value->Shared->Prop}{s:Shared}{env:Env}{elt:Expr}{g:Comprehension}{gs:List Comprehension}{scope:Scope}{pos:Pos}{u:Value->Sem Unit}{Rr:Shared->Prop}
  (h:wpAny M A (comprehension (.ListComp elt (g::gs) scope pos) scope env (firstIterPos (g::gs) pos) (newList []) (firstAsync (g::gs)) (firstIter (g::gs) env) (some u)) (fun _ s'=>Rr s') E s):
  wpAny M A (evalThenUse (.ListComp elt (g::gs) scope pos) env u) (fun _ s'=>Rr s') E s:=by
 show wpAny M A (do let _ <-comprehension (.ListComp elt (g::gs) scope pos) scope env (firstIterPos (g::gs) pos) (newList []) (firstAsync (g::gs)) (firstIter (g::gs) env) (some u)) _ _ s
 exact zA (qD h (fun _ s' hq=>zD hq) fun _ _ e=>e)
theorem a0Q (hc:X.calm=true)(b:Blk X scope cl N js)(hi:QIB X li tg iter fi)(hg:∀s2 H2 fp C,QG (blk X scope cl s2 H2 fp C (N++[accN])) tg gf)(ht:∀s2 H2 fp C,Tst (blk X scope cl s2 H2 fp C (N++[accN])) ifs t)(he:∀s2 H2 fp C,QX (blk X scope cl s2 H2 fp C (N++[accN])) elt fe)
  (hj:liJ li js=true:=by rfl) (hs:∀x,foldedSetIterable iter X.env x=pure x:=by intro _;rfl):QXU X (.ListComp elt [⟨tg,iter,ifs,0⟩] scope pos) (fComp fi li js gf t fe):=⟨fun pins s σ H Q u Rr I h hU=>by
 refine a39 (a08 (use:=some u) hc b hj hi hg ht he hs I h fun C v He s1 hq back fp ⟨m,hm⟩ vv rv=>?_)
 exact hU C m s1 He v vv fp hm (back s1.heap fun y _=>rfl) rv hq⟩
end
theorem a3b {prog:Program}{w:World}{A:Around}(hh:A.handled=none){l I:Addr}{its:Array Value}(ne:l≠I):
  Walks prog w A I [I,l] [I] its.size (fun i v=>its[i]? =some v) (fun i h=>h.IsListIter I l i/\h.IsList l its) where
 sub:=fun b hb=>by rw[zV.mp hb];exact zR
 frame:=fun i h h' ⟨⟨o,e,r⟩,⟨o2,e2,r2⟩⟩ k=>⟨⟨o,k I zR o e,r⟩,⟨o2,k l (zN _ zR) o2 e2,r2⟩⟩
 item:=fun i s Q E hi ⟨h1,h2⟩ q=>wpAny_pyNext_list_item h1 h2 (x:=its[i]) (by simp[hi]) fun h' hit hs=>q its[i] h' s.toks (by simp[hi]) ⟨hit,h2.extBut hs.extBut ne⟩ fun b o hb e=>hs.extBut b o (fun z=>hb (by rw[z];exact zV.mpr rfl)) e
 done:=fun s Q E ⟨h1,h2⟩ q=>wpAny_pyNext_list_end hh h1 h2 (by simp) fun h' hx=>q h' s.toks fun b o hb e=>hx b o (fun z=>hb (by rw[z];exact zV.mpr rfl)) e
 self:=fun i s Q E ⟨h1,_⟩ q=>wpAny_pyIter_listiter h1 q
theorem a5c {bs:List Bool}{its:List Value}(r:Vals (bs.map V.bl) its){i:Nat}{v:Value}(e:its.toArray[i]? =some v):v= .bool (bs.getD i false):=by
 rw[List.getElem?_toArray] at e
 induction bs generalizing its i with
 | nil=>cases r;simp at e
 | cons b bs ih=>
  cases r with
  | cons r1 r2=>
   cases i with
   | zero=>simp at e;subst e;exact r1
   | succ i=>exact ih r2 (by simpa using e)
theorem a3f (bs:List Bool)(n:Nat)(hn:n=bs.length):(List.range n).all (fun i=>bs.getD i false)=bs.all id:=by
 subst hn;apply Bool.eq_iff_iff.mpr;simp only[all_eq_true,mem_range,id];constructor
 ·intro h x hx;obtain⟨i,hi,e⟩:=List.mem_iff_getElem.mp hx
  have:=h i hi
  rw[xD,jY hi] at this;simpa [e] using this
 ·intro h i hi;rw[xD,jY hi];exact h _ (List.getElem_mem hi)
section
variable {X:Cx}
theorem a3l (hc:X.calm=true):CallR X (.builtin "all") (fun xs H Q=>∃(p:Addr) (bs:List Bool),xs=[.ref p]/\SqL X.K H p (bs.map V.bl)/\Q (.bl (bs.all id)) H):=by
 intro pins s σ H xs us Q I r h;obtain⟨p,bs,rfl,hq,q⟩:=h;obtain⟨u,rfl,ru⟩:=vals1 r;cases ru;obtain⟨its,rv,⟨o,m,h1,h2,_,h4⟩,hz⟩:=I.list hq;have hl:s.heap.IsList p its.toArray:=⟨o,h1,h2,m,h4⟩;have ne:p≠s.heap.objs.size:=zW (qA h1);refine call_all_walk (wpAny_pyIter_list hl ⟨s.heap.objs.size,_,_,_,_,_,fun i=>bs.getD i false,rfl,a3b (show X.A.in1.handled=none from I.ok.hd hc) ne,⟨⟨_,qK _ rfl,rfl,rfl⟩,hl.push _⟩,fun i v s' Q' E' hv hq'=>?_,fun h' tk hk=>?_⟩)
 ·rw[a5c rv hv];exact wpAny_truthy_bool hq'
 ·have I1:Inv X pins σ H {s with heap:=h',toks:=tk}:=I.kept (t':=tk) fun b ob e=>hk b ob (fun z=>absurd (qA e) (by rw[zV.mp z];exact xN _)) (zI _ e)
  refine⟨.bl _,H,I1,?_,q⟩;show Value.bool _=Value.bool _;rw[a3f bs _ (by rw[zP,<-rv.length,zH])]
end
section
variable {h:FX}
theorem a0C (i:Int):∀ns:List Int,inV (.int i) (ns.map V.int)=decide (i∈ns)
 | []=>rfl
 | n::ns=>by
  have ih:=a0C i ns;unfold inV at ih ⊢;rw[zQ,any_cons,ih];show((n==i)||_)=_
  by_cases h:n=i
  ·simp[h]
  ·have h':¬i=n:=fun z=>h z.symm;simp[h,h']
theorem W3:∀ns:List Int,(ns.map V.int).all flatV=true
 | []=>rfl
 | n::ns=>by rw[zQ,all_cons,W3 ns];rfl
end
section
variable {prog:Program}{w:World}{A:Around}{E:Value->Shared->Prop}{s:Shared}
theorem a1s {t sl:Addr}{items:Array Value}{vl vu:Value}{lo hi:Option Int}{Q:Value->Shared->Prop}(ht:IsTup s.heap t items)(hs:s.heap.IsSliceOf sl vl vu .none)(pl:IsPart vl lo)(pu:IsPart vu hi)
  (hw:HT.sIx items.size 0 lo=0/\HT.sIx items.size items.size hi=items.size) (h:Q (.ref t) s):wpAny (model prog w) A (getItem (.ref t) (.ref sl)) Q E s:=by
 obtain⟨os,hos,hcs,hds⟩:=id hs;have hTs:s.TypeIs (.ref sl) "slice":=⟨os,hos,hcs⟩;unfold getItem
 try with_reducible refine qO ?_
 first|refine zA (zD ?_)|skip
 refine zA (wpAny_sequenceKey ht.typeIs (by decide) ?_)
 refine zA (jI (name:=Str.ofString "__getitem__") ht.typeIs qQ
  (jF qQ ht.typeIs entry_tuple_getitem ?_ (args_tuple_getitem _ _)))
 show wpAny _ _ (Builtin.Tuple.tupleItemsOf (.ref t) >>=_) _ _ s;refine zA (tupleItemsOf_ ht ?_);refine zA (wpAny_typeOf hTs ?_);rw[if_pos (by decide)]
 refine zA (HT.sliceApplied_gen hs pl pu ?_);show wpAny _ _ (if(((HT.sIx items.size 0 lo:Nat):Int)==0&&(1:Int)==1&&(HT.sIx items.size items.size hi-HT.sIx items.size 0 lo)==items.size)=true then _ else _) _ _ s;rw[if_pos (by rw[hw.1,hw.2];simp)]
 unfold Builtin.Tuple.tupleIsExact;refine zA (zA (wpAny_typeOf ht.typeIs (zD ?_)));rw[if_pos (by decide)]
 first
  | exact zA (jN (zD ⟨_,rfl,zD h⟩))
  | exact zA (jN (zA (zD (zD ⟨_,rfl,zD h⟩))))
end
section
variable {X:Cx}{a b e:Expr}{es:List Expr}{pos p:Pos}{f g h:FX}{t u:FT}{fa:FA}{x:Str}
def rSlF (K:PySem.W.Frag):V->Option Int->Option Int->Hp->VK->Prop:=fun x lo hi H Q=>∃a xs,x= .ref a/\SqT K H a xs/\(HT.sIx xs.length 0 lo=0/\HT.sIx xs.length xs.length hi=xs.length)/\Q (.ref a) H
theorem a5M:SlR X (rSlF X.K):=by
 intro pins s σ H x v vl vu lo hi sl Q I rx hs pl pu h;obtain⟨a,xs,rfl,hx,hw,q⟩:=h;cases rx;obtain⟨its,r,ht,hz⟩:=I.tuple hx;have hlen:its.toArray.size=xs.length:=by rw[zP];exact r.length.symm
 refine⟨"tuple",_,PyProof.Rows.slot_tuple_getitem.lookup,ht.typeIs,?_⟩;exact a1s ht hs pl pu (by rw[hlen];exact hw) ⟨.ref a,H,I,rfl,q⟩
theorem qx_b {id:String}{r:List V->Hp->VK->Prop}{k:List D->Option W}(hc:CallR X (.builtin id) r)(hk:PrA X k r)(hm:X.mg x=none)(ha:QA X (e::es) fa)(hv:bootBuiltins x=some (.builtin id):=by rfl)(hg:Gl X x:=by rfl)(hn:x≠"__name__":=by decide)(hdb:(x==("__debug__":Str))=false:=by decide)
  (he:starEach (e::es) X.env=(false,eval e X.env)::starEach es X.env:=by rfl) (hpl:(backTo pos (starEach es X.env)).any (·.1)=false:=by rfl):QX X (.Call (.Name x p) (e::es) [] pos) (fCall k fa):=a00 hc hk hv hm ha hg hn hdb he hpl
theorem qx_t {T:String}{r:List V->Hp->VK->Prop}{k:List D->Option W}(hc:CallR X (.type T) r)(hk:PrA X k r)(hm:X.mg x=none)(ha:QA X (e::es) fa)(hv:bootBuiltins x=some (.type T):=by rfl)(hg:Gl X x:=by rfl)(hn:x≠"__name__":=by decide)(hdb:(x==("__debug__":Str))=false:=by decide)
  (he:starEach (e::es) X.env=(false,eval e X.env)::starEach es X.env:=by rfl) (hpl:(backTo pos (starEach es X.env)).any (·.1)=false:=by rfl):QX X (.Call (.Name x p) (e::es) [] pos) (fCall k fa):=a0w hc hk hv hm ha hg hn hdb he hpl
def k1 (g:D->Option W):List D->Option W
 | [d]=>g d
 | _=>none
theorem pr1 {g:D->Option W}{r:List V->Hp->VK->Prop}(h:∀(A:Av) (d:D) (w:W) (v:V) (H:Hp) (Q:VK),g d=some w->DenR X.K A H d v->(∀z H',Same H H'->DenW X.K A [] H H' w z->Q z H')->r [v] H Q):PrA X (k1 g) r:=fun A ds w vs H Q _ e l q=>by
 unfold k1 at e;split at e
 ·obtain⟨v,rfl,h1⟩:=denRL1 l;exact h A _ w v H Q e h1 q
 ·cases e
def k2 (g:Int->Int->D):List D->Option W
 | [.int i,.int j]=>some (.v (g i j))
 | _=>none
theorem pr2 {g:Int->Int->Int}{r:List V->Hp->VK->Prop}(h:∀i j (H:Hp) (Q:VK),Q (.int (g i j)) H->r [.int i,.int j] H Q):PrA X (k2 fun i j=>.int (g i j)) r:=fun A ds w vs H Q _ e l q=>by
 unfold k2 at e;split at e
 ·rename_i i j;cases e;obtain⟨v,v',rfl,h1,h2⟩:=denRL2 l;rw[g4 h1,g4 h2];exact h i j H Q (q _ H (Same.refl H) w9)
 ·cases e
def gLen (d:D):Option W:=(items d).map fun xs=>.v (.int xs.length)
theorem F2:PrA X (k1 gLen) (fun xs H Q=>∃p ys,xs=[.ref p]/\(SqL X.K H p ys\/SqT X.K H p ys)/\Q (.int ys.length) H):=pr1 fun A d w v H Q e h q=>by
 unfold gLen at e;obtain⟨xs,e1,e⟩:=oms e;cases e;obtain⟨a,ws,rfl,hq,lw⟩:=B0 e1 h;exact⟨a,ws,rfl,hq,by rw[<-a8 lw];exact q _ H (Same.refl H) w9⟩
def gAbs:D->Option W
 | .int i=>some (.v (.int (if i<0 then -i else i)))
 | _=>none
theorem a49:PrA X (k1 gAbs) (fun xs H Q=>∃i,xs=[.int i]/\Q (.int (if i<0 then -i else i)) H):=pr1 fun A d w v H Q e h q=>by
 cases d<;>simp only[gAbs] at e<;>cases e
 exact⟨_,by rw[g4 h],q _ H (Same.refl H) w9⟩
abbrev gMax:=k2 fun i j=>.int (if j>i then j else i)
abbrev gMin:=k2 fun i j=>.int (if j<i then j else i)
theorem a7O:PrA X gMax (fun xs H Q=>∃i j,xs=[.int i,.int j]/\Q (.int (if j>i then j else i)) H):=pr2 fun i j H Q q=>⟨i,j,rfl,q⟩
theorem a8e:PrA X gMin (fun xs H Q=>∃i j,xs=[.int i,.int j]/\Q (.int (if j<i then j else i)) H):=pr2 fun i j H Q q=>⟨i,j,rfl,q⟩
def gInt:D->Option W
 | .bl b=>some (.v (.int (if b then 1 else 0)))
 | _=>none
def gTuple (d:D):Option W:=(items d).map fun xs=>.v (.tup xs)
theorem M0:PrA X (k1 gTuple) (fun xs H Q=>∃p ys,xs=[.ref p]/\((SqL X.K H p ys/\∀l,H l=none->Q (.ref l) (upd H l (.tup ys)))\/(SqT X.K H p ys/\Q (.ref p) H))):=pr1 fun A d w v H Q e h q=>by
 cases d<;>simp only[gTuple,items,Option.map_none] at e<;>first|cases e|skip
 ·rename_i xs;obtain⟨a,vs,rfl,hq,l⟩:=t4 h;exact⟨a,vs,rfl,.inr ⟨hq,q _ H (Same.refl H) h⟩⟩
 ·rename_i xs;obtain⟨a,vs,rfl,hq,l⟩:=h;exact⟨a,vs,rfl,.inl ⟨hq,fun l' hl=>q _ _ (j6 hl _) (K9 hl l)⟩⟩
def gList (d:D):Option W:=(items d).map fun xs=>.o (.lst xs)
theorem a50:PrA X (k1 gList) (fun xs H Q=>∃p ys,xs=[.ref p]/\(SqL X.K H p ys\/SqT X.K H p ys)/\∀l,H l=none->Q (.ref l) (upd H l (.lst ys))):=pr1 fun A d w v H Q e h q=>by
 unfold gList at e;obtain⟨xs,e1,e⟩:=oms e;cases e;obtain⟨a,ws,rfl,hq,lw⟩:=B0 e1 h;exact⟨a,ws,rfl,hq,fun l hl=>q _ _ (j6 hl _) (y0 hl lw)⟩
def intsOf:List D->Option (List Int)
 | []=>some []
 | .int i::ds=>(intsOf ds).map fun is=>i::is
 | _=>none
theorem t9:∀{ds:List D} {is:List Int},intsOf ds=some is->ds=is.map D.int
 | [],is,e=>by cases e;rfl
 | .int i::ds,is,e=>by
  rw[intsOf] at e;cases e1:intsOf ds with
  | none=>rw[e1] at e;cases e
  | some js=>rw[e1] at e;cases e;rw[zQ,<-t9 e1]
 | .non::ds,is,e=>by cases e
 | .bl _::ds,is,e=>by cases e
 | .str _::ds,is,e=>by cases e
 | .tup _::ds,is,e=>by cases e
 | .lst _::ds,is,e=>by cases e
 | .dT _ _::ds,is,e=>by cases e
 | .dK _ _::ds,is,e=>by cases e
 | .exn _::ds,is,e=>by cases e
 | .fn _::ds,is,e=>by cases e
theorem R6:∀is:List Int,intsOf (is.map D.int)=some is
 | []=>rfl
 | i::is=>by rw[zQ,intsOf,R6 is];rfl
theorem p0 {K:PySem.W.Frag}{A:Av}{H:Hp}:∀{is:List Int} {vs:List V},DenL K A H (is.map D.int) vs->vs=is.map V.int
 | [],vs,l=>by rw[map_nil,DenL] at l;exact l
 | i::is,vs,l=>by
  rw[zQ,DenL] at l;obtain⟨v,r,rfl,h,l⟩:=l;rw[C5.mp h,p0 l];rfl
theorem G0 {K:PySem.W.Frag}{A:Av}{H:Hp}:∀ns:List Int,DenL K A H (ns.map D.int) (ns.map V.int)
 | []=>by rw[map_nil,map_nil];exact c9
 | n::ns=>by rw[zQ,zQ];exact b9 (by rw[Den]) (G0 ns)
def boolsOf:List D->Option (List Bool)
 | []=>some []
 | .bl i::ds=>(boolsOf ds).map fun is=>i::is
 | _=>none
theorem Q2:∀{ds:List D} {is:List Bool},boolsOf ds=some is->ds=is.map D.bl
 | [],is,e=>by cases e;rfl
 | .bl i::ds,is,e=>by
  rw[boolsOf] at e;cases e1:boolsOf ds with
  | none=>rw[e1] at e;cases e
  | some js=>rw[e1] at e;cases e;rw[zQ,<-Q2 e1]
 | .non::ds,is,e=>by cases e
 | .int _::ds,is,e=>by cases e
 | .str _::ds,is,e=>by cases e
 | .tup _::ds,is,e=>by cases e
 | .lst _::ds,is,e=>by cases e
 | .dT _ _::ds,is,e=>by cases e
 | .dK _ _::ds,is,e=>by cases e
 | .exn _::ds,is,e=>by cases e
 | .fn _::ds,is,e=>by cases e
theorem O2:∀is:List Bool,boolsOf (is.map D.bl)=some is
 | []=>rfl
 | i::is=>by rw[zQ,boolsOf,O2 is];rfl
theorem J1 {K:PySem.W.Frag}{A:Av}{H:Hp}:∀{is:List Bool} {vs:List V},DenL K A H (is.map D.bl) vs->vs=is.map V.bl
 | [],vs,l=>by rw[map_nil,DenL] at l;exact l
 | i::is,vs,l=>by
  rw[zQ,DenL] at l;obtain⟨v,r,rfl,h,l⟩:=l;rw[Q4.mp h,J1 l];rfl
def gBools (r:List Bool->Bool):D->Option W
 | .lst xs=>(boolsOf xs).map fun bs=>.v (.bl (r bs))
 | _=>none
theorem a3Q {r:List Bool->Bool}:PrA X (k1 (gBools r)) (fun xs H Q=>∃(p:Addr) (bs:List Bool),xs=[.ref p]/\SqL X.K H p (bs.map V.bl)/\Q (.bl (r bs)) H):=pr1 fun A d w v H Q e h q=>by
 cases d with
 | lst xs=>
  simp only[gBools] at e;obtain⟨bs,e1,e⟩:=oms e;cases e;obtain⟨a,vs,rfl,hq,l⟩:=h;rw[Q2 e1] at l;rw[J1 l] at hq;exact⟨a,bs,rfl,hq,q _ H (Same.refl H) t3⟩
 | _=>cases e
def oLtT:D->D->Option W
 | .int i,.int j=>some (.v (.bl (decide (i<j))))
 | .tup xs,.tup ys=>(intsOf xs).bind fun ns=>(intsOf ys).map fun ms=>.v (.bl (HT.lexLt ns ms))
 | _,_=>none
theorem kLtT:Pr2 X oLtT (fun v u H Q=>rI0 (fun i j=>.bl (decide (i<j))) v u H Q\/rLtT X.K v u H Q):=by
 intro A x y w v u H Q _ e hx hy q;unfold oLtT at e;split at e
 ·cases e;exact .inl ⟨_,_,g4 hx,g4 hy,q _ H (Same.refl H) t3⟩
 ·rename_i xs ys;cases e1:intsOf xs with
  | none=>rw[e1] at e;cases e
  | some ns=>
   cases e2:intsOf ys with
   | none=>rw[e1,e2] at e;cases e
   | some ms=>
    rw[e1,e2] at e;cases e;obtain⟨a,vs,rfl,h1,l1⟩:=t4 hx;obtain⟨b,us,rfl,h2,l2⟩:=t4 hy;rw[t9 e1] at l1;rw[t9 e2] at l2;rw[p0 l1] at h1;rw[p0 l2] at h2;exact .inr ⟨a,b,ns,ms,rfl,rfl,h1,h2,q _ H (Same.refl H) t3⟩
 ·cases e
theorem a5k {k:Nat}(hr:Room k X.A)(ha:QX X a f)(hb:QX X b g):QT X (.Compare a [.Lt] [b] pos) (fTest (fBin oLtT f g)):=M9 (op_lt.or (a77 (by have:=hr.units;walk_at "o"))) kLtT ha hb
def oInI (neg:Bool) (x y:D):Option W:=match x with
 | .int i=>(items y).bind fun ys=>(intsOf ys).map fun ns=>.v (.bl (if neg then !decide (i∈ns) else decide (i∈ns)))
 | _=>none
theorem kInI {neg:Bool}:Pr2 X (oInI neg) (rIn X.K neg):=by
 intro A x y w v u H Q _ e hx hy q;cases x with
 | int i=>
  simp only[oInI] at e;cases e1:items y with
  | none=>rw[e1] at e;cases e
  | some ys=>
   rw[e1] at e;simp only[bind_some] at e;obtain⟨ns,e2,e⟩:=oms e;cases e;obtain⟨p,vs,rfl,hq,l⟩:=B0 e1 hy;rw[t9 e2] at l;rw[p0 l] at hq;rw[g4 hx];exact⟨p,ns.map V.int,rfl,hq,rfl,W3 ns,by rw[a0C];exact q _ H (Same.refl H) t3⟩
 | _=>cases e
def fChain (o o':D->D->Option W) (f g h:FX):FX:=fun ρ=>(f ρ).bind fun p=>(g p.2).bind fun q=>(dr q.2 p.1.fz).bind fun x=>(dr q.2 q.1.fz).bind fun y=>(o x y).bind fun d=>match d with
 | .v (.bl k)=>if k=true then(h q.2).bind fun z=>(dr z.2 q.1.fz).bind fun y=>(dr z.2 z.1.fz).bind fun z'=>(o' y z').map fun w=>(w,z.2) else some (.v (.bl false),q.2)
 | _=>none
abbrev FO:=Ev->Option (Option Int×Ev)
def tO (X:Cx) (f:FO):TO:=fun σ H Q=>∃P O L ρ o ρ',Rep X P O L ρ σ H/\f ρ=some (o,ρ')/\∀H',Rep X P O L ρ' σ H'->Q o H'
theorem tOe {X:Cx}{f:FO}{σ:L2.St}{H:Hp}{Q:Option Int->Hp->Prop}{C:Prop}(h:tO X f σ H Q)(k:∀P O L ρ o ρ',Rep X P O L ρ σ H->f ρ=some (o,ρ')->(∀H',Rep X P O L ρ' σ H'->Q o H')->C):C:=by
 obtain⟨P,O,L,ρ,w,ρ',r,e,q⟩:=h;exact k P O L ρ w ρ' r e q
structure QO (X:Cx) (e:Option Expr) (f:FO):Prop where
 to:PO X e (tO X f)
theorem PO.weak {X:Cx}{e:Option Expr}{t u:TO}(h:PO X e t)(w:∀σ H Q,u σ H Q->t σ H Q):PO X e u:=fun pins s σ H Q I q=>h pins s σ H Q I (w σ H Q q)
def fO0:FO:=fun ρ=>some (none,ρ)
def fO1 (f:FX):FO:=fun ρ=>(f ρ).bind fun p=>match p.1 with|.v (.int i)=>some (some i,p.2)|_=>none
theorem a5K:QO X none fO0:=⟨PO.weak a6a fun σ H Q h0=>tOe h0 fun P O L ρ o ρ' r e q=>by cases e;exact q H r⟩
theorem a52 (ha:QX X e f):QO X (some e) (fO1 f):=⟨PO.weak (a5L ha.to) fun σ H Q h0=>tOe h0 fun P O L ρ o ρ' r e q=>by
 unfold fO1 at e;obtain⟨⟨w,ρ1⟩,e1,e⟩:=obs e;dsimp only at e;split at e
 ·rename_i i;cases e;refine⟨P,O,L,ρ,_,_,r,e1,fun v H1 H' r1 s1 d1=>⟨i,?_,q H' (r1.grow s1)⟩⟩;have d1:Den X.K (AvO O ρ' σ) H' (.int i) v:=d1;exact C5.mp d1
 ·cases e⟩
def cutD (xs:List D) (lo hi:Option Int):List D:=(xs.drop (HT.sIx xs.length 0 lo)).take (HT.sIx xs.length xs.length hi-HT.sIx xs.length 0 lo)
theorem a07 {K:PySem.W.Frag}{A:Av}{H:Hp}{xs:List D}{vs:List V}(lo hi:Option Int)(l:DenL K A H xs vs):DenL K A H (cutD xs lo hi) (cutV vs lo hi):=by
 unfold cutD cutV;rw[a8 l];exact X6 _ (U5 _ l)
def slD (x:D) (lo hi:Option Int):Option W:=match x with
 | .tup xs=>some (.v (.tup (cutD xs lo hi)))
 | .lst xs=>some (.o (.lst (cutD xs lo hi)))
 | _=>none
def fSl (f:FX) (lo hi:FO):FX:=fun ρ=>(f ρ).bind fun p=>(lo p.2).bind fun l=>(hi l.2).bind fun u=>(dr u.2 p.1.fz).bind fun x=>(slD x l.1 u.1).map fun w=>(w,u.2)
theorem a5z {lo hi:Option Expr}{fl fu:FO}{p2:Pos}(ha:QX X a f)(hl:QO X lo fl)(hu:QO X hi fu):QX X (.Subscript a (.Slice lo hi none p2) pos) (fSl f fl fu):=⟨PE.weak (a4i ((a6l.or a8b).or a5M) ha.to hl.to hu.to) fun σ H Q h0=>tXe h0 fun P O L ρ w ρ' r e q=>by
 unfold fSl at e;obtain⟨⟨w1,ρ1⟩,e1,e⟩:=obs e;dsimp only at e;obtain⟨⟨l,ρ2⟩,e2,e⟩:=obs e;dsimp only at e;obtain⟨⟨u,ρ3⟩,e3,e⟩:=obs e;dsimp only at e;refine⟨P,O,L,ρ,w1,ρ1,r,e1,fun v H1 H1' r1 s1 d1=>?_⟩;obtain⟨P',r1',k1⟩:=hold (r1.grow s1) (d1.fz r1 s1);refine⟨P',O,L,ρ1,l,ρ2,r1',e2,fun H2 r2=>⟨P',O,L,ρ2,u,ρ3,r2,e3,fun H3 r3=>?_⟩⟩;obtain⟨r4,d4⟩:=k1 ρ3 H3 r3;cases e4:dr ρ3 w1.fz with
 | none=>rw[e4] at e;cases e
 | some x=>
  rw[e4] at e;simp only[bind_some] at e;have dx:=E6 r4 e4 d4;cases x with
  | tup xs=>
   cases e;obtain⟨a,vs,ev,hq,la⟩:=t4 dx
   by_cases hn:HT.sIx xs.length 0 l=0/\HT.sIx xs.length xs.length u=xs.length
   ·refine .inr ⟨a,vs,ev,hq,by rw[<-a8 la];exact hn,q _ H3 H3 r4 (Same.refl _) ?_⟩
    have ec:cutD xs l u=xs:=by
     unfold cutD;rw[hn.1,hn.2,xF,Nat.sub_zero,take_length]
    rw[ec,<-ev];exact dx
   ·exact .inl (.inr ⟨a,vs,ev,hq,by rw[<-a8 la];exact hn,fun p hp=>q _ H3 _ r4 (j6 hp _) (K9 hp (a07 l u la))⟩)
  | lst xs=>
   cases e;obtain⟨a,vs,ev,hq,la⟩:=dx;exact .inl (.inl ⟨a,vs,ev,hq,fun p hp=>q _ H3 _ r4 (j6 hp _) (y0 hp (a07 l u la))⟩)
  | _=>cases e⟩
end
section
variable {X:Cx}{a b e o:Expr}{es:List Expr}{pos p apos:Pos}{f h:FX}{fa:FA}{x:Str}
theorem a20 (i:Nat){pos':Pos}(hN:X.N.Nodup)(ha:QXU X e f)(hi:X.N[i]? =some x:=by rfl)(hx:Loc X.env.scope x:=by first|exact Or.inl rfl|exact Or.inr rfl)(hs:swapsWith e (some (.Name x pos')) pos.line X.env=pure true:=by rfl)(hf:X.fn x=true\/X.env.scope.names.lookup x=some .local:=by first|exact .inl rfl|exact .inr rfl):
  QS X (.Assign [.Name x pos'] e pos) (fAsg i f):=⟨fun pins s σ H E I h0=>tSe h0 fun P O L ρ r rp e0 q=>by
 unfold fAsg at e0;obtain⟨⟨w,ρ1⟩,e1,e0⟩:=obs e0;dsimp only at e0;obtain⟨ρ2,e2,e0⟩:=oms e0;cases e0;rw[exec_Assign_Name_used _ _ _ _ hs];refine zA (wpAny_standAt (zA (qD (ha.to pins s σ H (fun v H'=>∃H1,Rep X P O L ρ1 σ H1/\Same H1 H'/\DenW X.K (AvO O ρ1 σ) σ H1 H' w v) (assign (.Name x pos') X.env) (fun s'=>SP X pins E .next s') I ⟨P,O,L,ρ,w,ρ1,rp,e1,fun v H1 H' r1 s1 d1=>⟨H1,r1,s1,d1⟩⟩ ?_) (fun _ s' h=>zD h) fun _ _ z=>z)));intro C m s' H' v vv fp hn I' rv ⟨H1,r1,sm,dv⟩;obtain⟨o,es,ep,ho,hd,hk⟩:=hn;obtain⟨f0,f1,f2,f3,f4,f5⟩:=fp;have I2:Inv X (pins++[(C,o)]) σ H' s':=I'.pins_of fun p hp=>(jM.mp hp).elim (fun z=>I'.pin p (qM _ z)) fun z=>by
  rw[zV.mp z];exact⟨ho,f0,f1,f2,fun w z=>by rw[hd] at z;cases z⟩
 refine qD (a1U hN hi hx hf (pins++[(C,o)]) s' σ H' v vv (fun σ2 H2=>σ2=σ.set i (some v)/\H2=H') I2 rv ⟨rfl,rfl⟩) (fun _ s2 ⟨σ2,H2,I3,e2',e3⟩=>?_) fun _ _ z=>z;subst e2' e3;have pc:=I3.pin (C,o) (qM _ (qM _ (zV.mpr rfl)));refine⟨m,⟨o,es,ep,pc.1,hd,hk⟩,fun h' hs'=>?_⟩
 exact⟨_,_,(I3.unpinned).turned (t':=s2.toks) (it:=C) (fun b o' hb eb=>(hs'.2 b hb).trans eb) f0 f1 f3 f4 f5,q _ _ (a1T r1 sm dv e2)⟩⟩
def isLst:Option D->Bool
 | some (.lst _)=>true
 | _=>false
def fMut (op:List D->List D->Option (W×List D)) (f:FX) (fa:FA):FX:=fun ρ=>(f ρ).bind fun p=>match p.1 with
 | .r i=>if isLst (ownAt p.2 i)=true then(fa p.2).bind fun q=>(takeAll q.2 q.1).bind fun z=>match ownAt z.2 i with
  | some (.lst xs)=>(op xs z.1).map fun y=>(y.1,setOwn z.2 i (.lst y.2))
  | _=>none
  else none
 | _=>none
def PrM (X:Cx) (op:List D->List D->Option (W×List D)) (r:V->List V->Hp->VK->Prop):Prop:=∀(A:Av) (a:Addr) (xs ds:List D) (w:W) (ys:List D) (us vs:List V) (H:Hp) (Q:VK),H a=some (.lst us)->DenL X.K A H xs us->DenL X.K A H ds vs->op xs ds=some (w,ys)->
 (∀z ws,DenL X.K A H ys ws->DenW X.K A [] H H w z->Q z (upd H a (.lst ws)))->(w= .v .non\/∃d,w= .v d)->r (.ref a) vs H Q
theorem a4f {op:List D->List D->Option (W×List D)}{r:V->List V->Hp->VK->Prop}(hk:PrM X op r)(hw:∀xs ds w ys,op xs ds=some (w,ys)->∃d,w= .v d):∀σ H Q,tX X (fMut op f fa) σ H Q->tBM X.K "list" r (tX X f) (tA X fa) σ H Q:=fun σ H Q h0=>tXe h0 fun P O L ρ w ρ' rp e q=>by
 unfold fMut at e;obtain⟨⟨w1,ρ1⟩,e1,e⟩:=obs e;dsimp only at e;split at e
 ·rename_i i;split at e
  ·rename_i hl;refine⟨P,O,L,ρ,_,ρ1,rp,e1,fun v H1 H1' r1 s1 d1=>?_⟩;have d1:σ[i]? =some (some v):=d1;have r1':=r1.grow s1;refine⟨?_,?_⟩
   ·unfold isLst at hl;split at hl
    ·rename_i xs e2;obtain⟨w0,q0,ow⟩:=l6 e2;obtain⟨a,h1,vs,h2,_⟩:=r1'.obj q0 ow;rw[d1] at h1;cases h1;exact .inl ⟨rfl,vs,.inl (.inl h2)⟩
    ·cases hl
   ·obtain⟨⟨ws,ρ2⟩,e3,e⟩:=obs e;dsimp only at e;obtain⟨⟨ds,ρ3⟩,e4,e⟩:=obs e;dsimp only at e;split at e
    ·rename_i xs e5;obtain⟨⟨wy,ys⟩,e6,e⟩:=oms e;cases e;refine⟨P,O,L,ρ1,ws,ρ2,r1',e3,fun vs H2 r2 l2=>?_⟩;obtain⟨r3,l3,_⟩:=l5 r2 e4 l2;obtain⟨w0,q0,ow⟩:=l6 e5;obtain⟨a,h1,us,h2,l⟩:=r3.obj q0 ow;rw[d1] at h1;cases h1;refine hk _ a xs ds _ ys us vs H2 Q h2 l l3 e6 (fun z wz lz dz=>?_) (.inr (hw _ _ _ _ e6));have g0:Go (AvO O ρ3 σ) (AvO O ρ3 σ) (fun b=>b=a) H2 (upd H2 a (.lst wz)):=⟨fun b o eb nb=>by rw[b8 nb];exact eb,fun b z=>by rw[z];exact⟨.inr ⟨i,w0,_,q0,ow,d1⟩,_,h2,trivial⟩,fun b z=>.inl z⟩
     have r4:Rep X P O L (setOwn ρ3 i (.lst ys)) σ (upd H2 a (.lst wz)):=r3.mut (d:=.lst ys) e5 d1 (fun b o eb nb=>by rw[b8 nb];exact eb) ⟨wz,o4,m7 g0 _ _ lz⟩
     refine q z _ _ r4 (Same.refl _) ?_;obtain⟨d,rfl⟩:=hw _ _ _ _ e6;have av:∀b,AvO O (setOwn ρ3 i (.lst ys)) σ b->AvO O ρ3 σ b:=fun b z=>z.imp id fun z=>(G8 e5 b).mp z;exact j8 (n5 av) _ _ (j8 g0 _ _ dz)
    ·cases e
  ·cases e
 ·cases e
def mApp (xs ds:List D):Option (W×List D):=match ds with
 | [d]=>if xs.length<lim then some (.v .non,xs++[d]) else none
 | _=>none
theorem a3w:PrM X mApp rAppend:=fun A a xs ds w ys us vs H Q h l l' e q _=>by
 unfold mApp at e;split at e
 ·split at e
  ·rename_i d hl;cases e;obtain⟨v,rfl,hv⟩:=denL1 l';exact⟨a,us,v,rfl,rfl,h,by rw[<-a8 l];exact zG hl v5,q _ _ (o7 l (b9 hv c9)) T3⟩
  ·cases e
 ·cases e
theorem a78:∀xs ds w ys,mApp xs ds=some (w,ys)->∃d,w= .v d:=fun xs ds w ys e=>by
 unfold mApp at e;split at e
 ·split at e
  ·cases e;exact⟨_,rfl⟩
  ·cases e
 ·cases e
theorem a3p (ho:QX X o f)(ha:QA X (e::es) fa)(hbase:attributeBase o "append" X.env (eval o X.env)=eval o X.env:=by rfl)
  (hfew:((backTo pos (starEach (e::es) X.env)).all (fun x=>!x.1)&&(backToKw pos (keywordEach [] X.env)).all (fun x=>x.1.isSome)&&decide ((e::es).length+([]:List Keyword).length+(if([]:List Keyword).isEmpty then 0 else 1)<30))=true:=by rfl)
  (hline:(apos.endLine==pos.line)=true:=by rfl) (hs:starEach (e::es) X.env=(false,eval e X.env)::starEach es X.env:=by rfl) (hpl:(backTo pos (starEach es X.env)).any (·.1)=false:=by rfl):QX X (.Call (.Attribute o "append" apos) (e::es) [] pos) (fMut mApp f fa):=
 ⟨PE.weak (pe_bm PySem.F.plainAttrs_list PySem.F.slot_list_append PySem.F.type_list_append U7 ho.to ha.to hbase hfew hline hs hpl) (a4f a3w a78)⟩
end
section
variable {P:Program}{w:World}{K:PySem.W.Frag}{mg:Str->Option Value}{base:Heap}
def spLaw (K:PySem.W.Frag):Sp:=fun vs H Q _=>∃(a:Addr) (ns:List Int),vs=[.ref a]/\((∃o,H a=some (.frz o (.lst (ns.map V.int))))\/SqL K (fun _=>none) a (ns.map V.int))/\ns.length<=63/\∀H',Q (.bl true) H'
theorem a7Q {st:Stmt}{f:Addr}{fd:FuncData}{N ps:List Str}{k np n:Nat}{G:FS}(F:Fun K "law" "law" st f fd)(S:FnScope N ps (defScope st))(hp:ps.length=np)(hn:N.length=n)
  (body:∀(cdv:Value) (A:Around) (outer:List Env) (s:Shared) (H:Hp) (E:XK),Room k (A.deeper (envOfC "law" (defScope st) s.heap.objs.size f cdv))->
   QSs (cxOf CX0 P w K mg base N "law" (defScope st) f cdv A outer s H E).nox (defBody st) G)
  (h:∀ns:List Int,ns.length<=63->runD np n G [.lst (ns.map D.int)]=some (.v (.bl true))):FnOk P w K mg base CX0 (k+1) f fd ps (spLaw K):=by
 have den:∀(H:Hp) (a:Addr) (ns:List Int),((∃o,H a=some (.frz o (.lst (ns.map V.int))))\/SqL K (fun _=>none) a (ns.map V.int))->DenL K (fun _=>False) H [.lst (ns.map D.int)] [.ref a]:=fun H a ns hq=>by
  refine b9 ?_ c9;rw[Den];exact⟨a,_,rfl,.inr hq,G0 ns⟩
 refine F.ok S (fun vs H Q E ⟨a,ns,ev,hq,hl,q⟩=>?_) (fun cdv A outer s H vs Q E hr ⟨a,ns,ev,hq,hl,q⟩=>⟨_,(body cdv A outer s H E hr).to,?_⟩)
 ·have e:=h ns hl;unfold runD at e;split at e
  ·rename_i hl';rw[ev,hp,<-hl'];rfl
  ·cases e
 ·have e:=h ns hl;unfold runD at e;split at e
  ·rename_i hl';cases e1:G (start0 n [.lst (ns.map D.int)]) with
   | none=>rw[e1] at e;cases e
   | some r=>
    rw[e1] at e;refine⟨[],fun _=>False,[],_,r,V2 rfl hn (fun b z=>z.elim) (by rw[ev];exact den H a ns hq),e1,?_⟩
    cases r with
    | rt d' ρ'=>cases e;exact fun v H' s' _ d1=>by rw[Q3 d1];exact q H'
    | nx ρ'=>cases e
    | bk ρ'=>cases e
    | ct ρ'=>cases e
  ·cases e
theorem walk {l:PySem.W.OpenLaw}{q:Program}{loose:List Str}{XP:(Str->Option Value)->Heap->Prop}{YP:World->Heap->Prop}{d:DefRec}{K:Params->PySem.W.Frag}(hn:l.most=some 63)(hdf:d.params.defaults=[])
  (hY:∀(w:World) (h:Heap),YP w h->(K w.params).In h)
  (F:∀(w:World) (mg:Str->Option Value) (fa:Addr) (h:Heap),(K w.params).In h->h.Ns mainGlobals mg->mg d.name=some (.ref fa)->
   ∃fd:FuncData,(∀(s:Shared) (u:Value),BindsTo s fd ⟨[u],[]⟩ [("script",u)])/\∀base:Heap,(K w.params).In base->base.Ns mainGlobals mg->FnOk l.prog w (K w.params) mg base CX0 60 fa fd ["script"] (spLaw (K w.params))):
  PySem.W.WalkO q loose XP YP l.row.toRowW d [] (fun f vs=>PySem.call f vs):=
 L2.a5S (n:=63) (k:=60) (x:="script") (CX:=fun _=>CX0) (sp:=fun w=>spLaw (K w.params)) hn (by decide) hdf ⟨rfl,by decide,by decide,rfl⟩ hY F (fun _ H a ns hl hO hS=>⟨a,ns,rfl,(by
  rcases hS with (hS|⟨o,hS⟩)|hS
  ·rcases hO a with z|⟨o,ys,z⟩
   ·rw[z] at hS;cases hS
   ·rw[z] at hS;cases hS
  ·exact .inl ⟨o,hS⟩
  ·exact .inr (.inr hS)),hl,fun _=>rfl⟩) fun _ _ _ _ _ z=>z
end
end Z
set_option maxHeartbeats 1000000
set_option exponentiation.threshold 100000
namespace Z
open PySem L2
theorem a6G {d:D}:lfW (.v d)=lf d:=rfl
theorem a6T {d:D}:lfW (.o d)=lfC d:=rfl
theorem lfC_lst {xs:List D}:lfC (.lst xs)=lfL xs:=rfl
theorem lfC_dT {ks:List (List Key)}{xs:List D}:lfC (.dT ks xs)=lfL xs:=rfl
theorem lfC_dK {ks:List Key}{xs:List D}:lfC (.dK ks xs)=lfL xs:=rfl
def freeO:Option W->Bool
 | some (.l _)=>false
 | _=>true
theorem Q7:freeO none=true:=rfl
theorem a2g {d:D}:freeO (some (.v d))=true:=rfl
theorem a2Y {d:D}:freeO (some (.o d))=true:=rfl
theorem freeO_l {d:D}:freeO (some (.l d))=false:=rfl
theorem free_nil {n:Nat}:freeSlot [] n=true:=rfl
theorem a4n {x:Option W}{ρ:Ev}:freeSlot (x::ρ) 0=freeO x:=by
 unfold freeSlot freeO;rw[xL];cases x with
 | none=>rfl
 | some w=>cases w<;>rfl
theorem a3W {x:Option W}{ρ:Ev}{n:Nat}:freeSlot (x::ρ) (n+1)=freeSlot ρ n:=by
 unfold freeSlot;rw[qT]
theorem X7 {xs:List D}:isLst (some (.lst xs))=true:=rfl
theorem liB_none {ρ:Ev}:liB none ρ=true:=rfl
theorem liB_some {i j:Nat}{ρ:Ev}:liB (some (i,j)) ρ=(ownAt ρ j).isSome:=rfl
theorem own_nil {n:Nat}:ownAt [] n=none:=rfl
theorem a7d {w:W}{ρ:Ev}:ownAt (some w::ρ) 0=w.own:=rfl
theorem own_n {ρ:Ev}:ownAt (none::ρ) 0=none:=rfl
theorem a6S {x:Option W}{ρ:Ev}{n:Nat}:ownAt (x::ρ) (n+1)=ownAt ρ n:=by
 unfold ownAt;rw[qT]
theorem a3G {c d:D}{ρ:Ev}:setOwn (some (.l c)::ρ) 0 d=some (.l d)::ρ:=rfl
theorem a5B {c d:D}{ρ:Ev}:setOwn (some (.o c)::ρ) 0 d=some (.o d)::ρ:=rfl
theorem a5t {x:Option W}{ρ:Ev}{n:Nat}{d:D}:setOwn (x::ρ) (n+1) d=x::setOwn ρ n d:=by
 unfold setOwn;rw[qT]
 split<;>rename_i h<;>simp[h]
theorem frz_nil {n:Nat}:frzAt [] n=none:=rfl
theorem a7n {d:D}{ρ:Ev}:frzAt (some (.o d)::ρ) 0=some (some (.v d)::ρ):=rfl
theorem frz_v {d:D}{ρ:Ev}:frzAt (some (.v d)::ρ) 0=some (some (.v d)::ρ):=rfl
theorem a6U {x:Option W}{ρ:Ev}{n:Nat}:frzAt (x::ρ) (n+1)=(frzAt ρ n).map fun ρ'=>x::ρ':=by
 unfold frzAt;rw[qT]
 split<;>rename_i h<;>simp[h]
abbrev acc (zs:List D):Ev:=[some (.l (.lst zs))]
theorem a1K {B:Ev}{zs:List D}{k:Nat}(h:B.length=k):ownAt (B++acc zs) k=some (.lst zs):=by
 unfold ownAt;rw[zZ (by walk_at "o"),h,jL];rfl
theorem a6g {B:Ev}{zs ys:List D}{k:Nat}(h:B.length=k):setOwn (B++acc zs) k (.lst ys)=B++acc ys:=by
 unfold setOwn;have e:(B++acc zs)[k]? =some (some (.l (.lst zs))):=by rw[zZ (by walk_at "o"),h,jL];rfl
 rw[e];simp only;rw[List.set_append_right _ _ (by walk_at "o"),h,jL];rfl
theorem app_v {B:Ev}{zs:List D}{k:Nat}{w:W}{d:D}(h:B.length=k)(hw:w= .v d\/w= .o d)(hl:zs.length<lim):appTo k (w,B++acc zs)=some (B++acc (zs++[d])):=by
 unfold appTo;have e:w.fz= .v d:=by rcases hw with rfl|rfl<;>rfl
 simp only[e,takeAll,jS,bind_some];rw[a1K h];simp only[if_pos hl,a6g h]
theorem O0 {k:Nat}{gf:FG}{t:FT}{fe:FX}(I:Ev->Prop)(p:D->Bool)(h:D->D)(hI:∀B,I B->B.length=k):∀(xs:List D),(∀x∈xs,∀B zs,I B->∃B' w,I B'/\gf x (B++acc zs)=some (B'++acc zs)/\t (B'++acc zs)=some (p x,B'++acc zs)/\(p x=true->fe (B'++acc zs)=some (w,B'++acc zs)/\(w= .v (h x)\/w= .o (h x))))->
  ∀(B:Ev) (zs:List D),zs.length+xs.length<=lim->I B->∃B',I B'/\loopC (turnC k gf t fe) xs (B++acc zs)=some (B'++acc (zs++(xs.filter p).map h))
 | [],st,B,zs,hl,i=>⟨B,i,by simp[loopC]⟩
 | x::xs,st,B,zs,hl,i=>by
  obtain⟨B1,w,i1,e1,e2,e3⟩:=st x zR B zs i;rw[qC] at hl;cases hp:p x with
  | true=>
   obtain⟨e4,hw⟩:=e3 hp;obtain⟨B2,i2,e5⟩:=O0 I p h hI xs (fun y hy=>st y (zN _ hy)) B1 (zs++[h x]) (by rw[zO,List.length_singleton];walk_at "o") i1
   refine⟨B2,i2,?_⟩;rw[loopC,turnC,e1];have ea:=app_v (zs:=zs) (hI B1 i1) hw (by walk_at "o")
   simp only[bind_some,e2,hp,jD,e4,ea];rw[e5,List.filter_cons_of_pos hp,zQ,qR];rfl
  | false=>
   obtain⟨B2,i2,e5⟩:=O0 I p h hI xs (fun y hy=>st y (zN _ hy)) B1 zs (by walk_at "o") i1
   refine⟨B2,i2,?_⟩;rw[loopC,turnC,e1];simp only[bind_some,e2,hp,qZ,xA];rw[e5,List.filter_cons_of_neg (by rw[hp];exact zS)]
theorem L8 {fi:FI}{js:List (Option Nat)}{gf:FG}{t:FT}{fe:FX}{ρ ρ1:Ev}{xs:List D}(I:Ev->Prop)(p:D->Bool)(h:D->D)(ei:fi ρ=some (xs,ρ1))(hI:∀B,I B->B.length=js.length)(h0:I (capE none js ρ1))(hl:xs.length<=lim)(hf:lfL ((xs.filter p).map h)=true)
  (st:∀x∈xs,∀B zs,I B->∃B' w,I B'/\gf x (B++acc zs)=some (B'++acc zs)/\t (B'++acc zs)=some (p x,B'++acc zs)/\(p x=true->fe (B'++acc zs)=some (w,B'++acc zs)/\(w= .v (h x)\/w= .o (h x)))):
  fComp fi none js gf t fe ρ=some (.o (.lst ((xs.filter p).map h)),ρ1):=by
 obtain⟨B',i',e⟩:=O0 I p h hI xs st (capE none js ρ1) [] (by rw[length_nil];walk_at "o") h0
 unfold fComp;rw[ei];simp only[bind_some,liB,jD,Option.map_none];rw[show capE none js ρ1++[some (.l (.lst []))]=capE none js ρ1++acc [] from rfl,e];simp only[bind_some,nil_append,a1K (hI B' i'),backG,lfC,hf,jD]
theorem G4 {α:Type}(xs:List α):xs.filter (fun _=>true)=xs:=by induction xs with
 | nil=>rfl
 | cons x xs ih=>rw[List.filter_cons_of_pos rfl,ih]
theorem a5Y {a b:Int}{m n:Nat}(ha:a.natAbs<2^m)(hb:b.natAbs<2^n)(h:m+n<=8000):(a*b).natAbs<big:=by
 rw[xG];unfold big;have h1:a.natAbs*b.natAbs<2^m*2^n:=Nat.mul_lt_mul'' ha hb;rw[<-Nat.pow_add] at h1;exact zG h1 (zT (by decide) h)
theorem a0b {a b:Int}{m n:Nat}(ha:a.natAbs<2^m)(hb:b.natAbs<2^n)(hm:m<=8000)(hn:n<=8000):mOk a b:=
 .inr (.inr ⟨zG ha (zT (by decide) hm),zG hb (zT (by decide) hn)⟩)
theorem a5i (m n:Nat)(h:0<n):Nat.gcd m n=Nat.gcd n (m%n):=by
 rw[Nat.gcd_comm m n,Nat.gcd_rec n m,Nat.gcd_comm]
abbrev gcC (j:Nat):FT:=fTest (fBin oGt (fVar j) (fC (.int 0)))
abbrev gcB (i j:Nat):FS:=fPar i j (fCons (fVar j) (fCons (fMod (fVar i) (fVar j)) fNil))
theorem set2 {ρ:Ev}{i j:Nat}(hij:i≠j)(a b c d:Option W):(((ρ.set i a).set j b).set i c).set j d=(ρ.set i c).set j d:=by
 apply ext_getElem?;intro l;simp only[List.getElem?_set,length_set]
 by_cases h1:j=l<;>by_cases h2:i=l<;>simp[h1,h2]
theorem U8 {i j:Nat}(hij:i≠j):∀(k m n:Nat) (ρ:Ev),n<=k->ρ[i]? =some (some (.v (.int (m:Nat))))->ρ[j]? =some (some (.v (.int (n:Nat))))->whileF (gcC j) (gcB i j) (k+1) ρ=some (.nx ((ρ.set i (some (.v (.int (Nat.gcd m n:Nat))))).set j (some (.v (.int 0)))))
 | k,m,n,ρ,hk,h1,h2=>by
  have tst:gcC j ρ=some (decide ((0:Int)<(n:Int)),ρ):=by
   simp only[gcC,fTest,fBin,fVar,h2,fC,bind_some,W.fz,dr,oI0,jS]
  rw[whileF,tst]
  by_cases hn:0<n
  ·have bd:gcB i j ρ=some (.nx ((ρ.set i (some (.v (.int (n:Nat))))).set j (some (.v (.int ((m%n:Nat):Int)))))):=by
    have f1:freeSlot ρ i=true:=by simp only[freeSlot,h1]
    have f2:freeSlot (ρ.set i (some (.v (.int (n:Nat))))) j=true:=by simp only[freeSlot,zL hij,h2]
    have p:(0:Int)<(n:Nat):=by walk_at "o"
    simp only[gcB,fPar,fCons,fNil,fVar,h1,h2,fBin,bind_some,W.fz,dr,oI,p,jD,jS,takeAll,f1,f2,and_self];rfl
   have d:decide ((0:Int)<(n:Int))=true:=by simp;walk_at "o"
   simp only[bind_some,d,jD,bd];cases k with
   | zero=>walk_at "o"
   | succ k=>
    have hlt:m%n<n:=Nat.mod_lt m hn;have li:i<ρ.length:=(zE.mp h1).1;have lj:j<ρ.length:=(zE.mp h2).1;rw[U8 hij k n (m%n) _ (by walk_at "o") (by rw[zL (qN hij)];exact l8 li) (l8 (by simpa using lj)),set2 hij,<-a5i m n hn]
  ·have hn0:n=0:=by walk_at "o"
   subst hn0;have d:decide ((0:Int)<((0:Nat):Int))=false:=by decide
   simp only[bind_some,d,qZ,xA,Nat.gcd_zero_right];congr 2;apply ext_getElem?;intro l
   by_cases lj:l=j
   ·subst lj;rw[l8 (by have:=(zE.mp h2).1;simpa using this)];exact h2
   ·rw[zL (qN lj)]
    by_cases li:l=i
    ·subst li;rw[l8 (zE.mp h1).1];exact h1
    ·rw[zL (qN li)]
theorem a0J {i j:Nat}(hij:i≠j){a b:Int}{ρ:Ev}(ha:0<=a)(hb:0<=b)(h1:ρ[i]? =some (some (.v (.int a))))(h2:ρ[j]? =some (some (.v (.int b)))):whileV (gcC j) (gcB i j) ρ=some (.nx ((ρ.set i (some (.v (.int (Int.gcd a b:Nat))))).set j (some (.v (.int 0))))):=by
 obtain⟨m,rfl⟩:=Int.eq_ofNat_of_zero_le ha;obtain⟨n,rfl⟩:=Int.eq_ofNat_of_zero_le hb;exact a27 (U8 hij n m n ρ (zC _) h1 h2)
def ratD (q:Rat):D:=.tup [.int q.num,.int q.den]
def Sz (n:Nat) (q:Rat):Prop:=q.num.natAbs<2^n/\q.den<2^n
theorem Sz.mono {m n:Nat}{q:Rat}(h:Sz m q)(hm:m<=n):Sz n q:=⟨zG h.1 (zT (by decide) hm),zG h.2 (zT (by decide) hm)⟩
theorem w5 {t b:Int}(hb:0<b):(Rat.divInt t b).num=t/(Int.gcd t b:Nat)/\((Rat.divInt t b).den:Int)=b/(Int.gcd t b:Nat):=by
 obtain⟨n,rfl⟩:=Int.eq_ofNat_of_zero_le (Int.le_of_lt hb);have hn:n≠0:=by walk_at "o"
 rw[Rat.divInt_ofNat,<-Rat.normalize_eq_mkRat hn,Rat.normalize_eq];exact⟨rfl,by simp[Int.gcd]⟩
theorem l7 (q:Rat):Rat.divInt q.num q.den=q:=Rat.num_divInt_den q
theorem C9 (p q:Rat):Rat.divInt (p.num*q.den+q.num*p.den) (p.den*q.den)=p+q:=by
 rw[<-Rat.divInt_add_divInt _ _ (by have:=p.den_nz;walk_at "o") (by have:=q.den_nz;walk_at "o"),l7,l7]
section
variable {ρ ρ1 ρ2:Ev}{op:D->D->Option W}{o:D->Option W}{f g h:FX}{t u:FT}{fa:FA}{F G:FS}{i j:Nat}{d e x y:D}{w z:W}{ws:List W}{ds xs ys:List D}{r:R}{k b:Bool}
def varO (i:Nat) (ρ:Ev):Option (Option W)->Option (W×Ev)
 | some (some (.v d))=>some (.v d,ρ)
 | some (some (.r _))=>none
 | some (some _)=>some (.r i,ρ)
 | _=>none
theorem a6I:fVar i ρ=varO i ρ ρ[i]?:=by unfold fVar varO;split<;>simp_all
theorem a2s:varO i ρ (some (some (.v d)))=some (.v d,ρ):=rfl
theorem a2w:varO i ρ (some (some (.o d)))=some (.r i,ρ):=rfl
theorem a2p:varO i ρ (some (some (.l d)))=some (.r i,ρ):=rfl
theorem r_c:fC d ρ=some (.v d,ρ):=rfl
def drO:Option (Option W)->Option D
 | some (some (.v d))=>some d
 | some (some w)=>w.own
 | _=>none
theorem a4e:dr ρ (.v d)=some d:=rfl
theorem a4N:dr ρ (.r i)=drO ρ[i]?:=by unfold dr drO;rfl
theorem r_drO_v:drO (some (some (.v d)))=some d:=rfl
theorem a2t:drO (some (some (.o d)))=some d:=rfl
theorem a2X:drO (some (some (.l d)))=some d:=rfl
theorem a30:(W.v d).fz= .v d:=rfl
theorem a5d:(W.o d).fz= .v d:=rfl
theorem a5p:(W.r i).fz= .r i:=rfl
def drsC (ρ:Ev) (ws:List W):Option D->Option (List D)
 | some d=>(drs ρ ws).map fun ds=>d::ds
 | none=>none
theorem a2y:drs ρ []=some []:=rfl
theorem a2H:drs ρ (w::ws)=drsC ρ ws (dr ρ w):=by rw[drs];unfold drsC;cases dr ρ w<;>rfl
theorem a4q:drsC ρ ws (some d)=(drs ρ ws).map fun ds=>d::ds:=rfl
def bin2 (op:D->D->Option W) (g:FX):Option (W×Ev)->Option (W×Ev)
 | some p=>(g p.2).bind fun q=>(dr q.2 p.1.fz).bind fun x=>(dr q.2 q.1.fz).bind fun y=>(op x y).map fun w=>(w,q.2)
 | none=>none
def bin3 (op:D->D->Option W) (w:W):Option (W×Ev)->Option (W×Ev)
 | some q=>(dr q.2 w.fz).bind fun x=>(dr q.2 q.1.fz).bind fun y=>(op x y).map fun w=>(w,q.2)
 | none=>none
def bin4 (op:D->D->Option W) (ρ:Ev):Option D->Option D->Option (W×Ev)
 | some x,some y=>(op x y).map fun w=>(w,ρ)
 | _,_=>none
def withE (ρ:Ev):Option W->Option (W×Ev)
 | some w=>some (w,ρ)
 | none=>none
theorem a7m:fBin op f g ρ=bin2 op g (f ρ):=by unfold fBin bin2;cases f ρ<;>rfl
theorem a5y:bin2 op g (some (w,ρ))=bin3 op w (g ρ):=by unfold bin2 bin3;dsimp only;cases g ρ<;>rfl
theorem a34:bin3 op w (some (z,ρ))=bin4 op ρ (dr ρ w.fz) (dr ρ z.fz):=by unfold bin3 bin4;dsimp only;cases dr ρ w.fz<;>cases dr ρ z.fz<;>rfl
theorem a47:bin4 op ρ (some x) (some y)=withE ρ (op x y):=by unfold bin4 withE;dsimp only;cases op x y<;>rfl
theorem a4k:withE ρ (some w)=some (w,ρ):=rfl
def un2 (o:D->Option W):Option (W×Ev)->Option (W×Ev)
 | some p=>(dr p.2 p.1.fz).bind fun x=>(o x).map fun w=>(w,p.2)
 | none=>none
def un3 (o:D->Option W) (ρ:Ev):Option D->Option (W×Ev)
 | some x=>withE ρ (o x)
 | none=>none
theorem r_un:fUn o f ρ=un2 o (f ρ):=by unfold fUn un2;cases f ρ<;>rfl
theorem a7q:un2 o (some (w,ρ))=un3 o ρ (dr ρ w.fz):=by unfold un2 un3 withE;dsimp only;cases dr ρ w.fz with
 | none=>rfl
 | some x=>simp only[bind_some];cases o x<;>rfl
theorem a6N:un3 o ρ (some x)=withE ρ (o x):=rfl
def tstO:Option (W×Ev)->Option (Bool×Ev)
 | some (.v (.bl k),ρ)=>some (k,ρ)
 | _=>none
theorem T5:fTest f ρ=tstO (f ρ):=by
 unfold fTest tstO;cases f ρ with
 | none=>rfl
 | some p=>
  obtain⟨w,ρ⟩:=p;cases w with
  | v d=>cases d<;>rfl
  | _=>rfl
theorem a4A:tstO (some (.v (.bl k),ρ))=some (k,ρ):=rfl
def tru2:Option (W×Ev)->Option (Bool×Ev)
 | some p=>(dr p.2 p.1.fz).bind fun d=>(truth d).map fun k=>(k,p.2)
 | none=>none
def tru3 (ρ:Ev):Option D->Option (Bool×Ev)
 | some d=>(truth d).map fun k=>(k,ρ)
 | none=>none
theorem a4E:fTru f ρ=tru2 (f ρ):=by unfold fTru tru2;cases f ρ<;>rfl
theorem a5C:tru2 (some (w,ρ))=tru3 ρ (dr ρ w.fz):=by unfold tru2 tru3;dsimp only;cases dr ρ w.fz<;>rfl
theorem a0X:tru3 ρ (some (.bl k))=some (k,ρ):=rfl
theorem a8C:tru3 ρ (some (.tup xs))=some (!xs.isEmpty,ρ):=rfl
theorem a8B:tru3 ρ (some (.lst xs))=some (!xs.isEmpty,ρ):=rfl
theorem a8G:tru3 ρ (some .non)=some (false,ρ):=rfl
def notO:Option (Bool×Ev)->Option (Bool×Ev)
 | some p=>some (!p.1,p.2)
 | none=>none
theorem a6w:fNot t ρ=notO (t ρ):=by unfold fNot notO;cases t ρ<;>rfl
theorem a40:notO (some (k,ρ))=some (!k,ρ):=rfl
def andO (u:FT):Option (Bool×Ev)->Option (Bool×Ev)
 | some (true,ρ)=>u ρ
 | some (false,ρ)=>some (false,ρ)
 | none=>none
def orO (u:FT):Option (Bool×Ev)->Option (Bool×Ev)
 | some (true,ρ)=>some (true,ρ)
 | some (false,ρ)=>u ρ
 | none=>none
theorem a6L:fAnd t u ρ=andO u (t ρ):=by unfold fAnd andO;cases t ρ with
 | none=>rfl
 | some p=>obtain⟨k,ρ⟩:=p;cases k<;>rfl
theorem r_or:fOr t u ρ=orO u (t ρ):=by unfold fOr orO;cases t ρ with
 | none=>rfl
 | some p=>obtain⟨k,ρ⟩:=p;cases k<;>rfl
theorem a16:andO u (some (true,ρ))=u ρ:=id rfl
theorem a2R:andO u (some (false,ρ))=some (false,ρ):=rfl
theorem r_or_t:orO u (some (true,ρ))=some (true,ρ):=rfl
theorem a5e:orO u (some (false,ρ))=u ρ:=id rfl
def andV (g:FX):Option (Bool×Ev)->Option (W×Ev)
 | some (true,ρ)=>g ρ
 | some (false,ρ)=>some (.v (.bl false),ρ)
 | none=>none
def orV (g:FX):Option (Bool×Ev)->Option (W×Ev)
 | some (true,ρ)=>some (.v (.bl true),ρ)
 | some (false,ρ)=>g ρ
 | none=>none
def notV:Option (Bool×Ev)->Option (W×Ev)
 | some (k,ρ)=>some (.v (.bl (!k)),ρ)
 | none=>none
def ifV (f g:FX):Option (Bool×Ev)->Option (W×Ev)
 | some (true,ρ)=>f ρ
 | some (false,ρ)=>g ρ
 | none=>none
theorem a5u:fAndV f g ρ=andV g (tstO (f ρ)):=by unfold fAndV andV;rw[T5];cases tstO (f ρ) with
 | none=>rfl
 | some p=>obtain⟨k,ρ⟩:=p;cases k<;>rfl
theorem r_orV:fOrV f g ρ=orV g (tstO (f ρ)):=by unfold fOrV orV;rw[T5];cases tstO (f ρ) with
 | none=>rfl
 | some p=>obtain⟨k,ρ⟩:=p;cases k<;>rfl
theorem r_notV:fNotV f ρ=notV (tstO (f ρ)):=by unfold fNotV notV;rw[T5];cases tstO (f ρ)<;>rfl
theorem r_if:fIf t f g ρ=ifV f g (t ρ):=by unfold fIf ifV;cases t ρ with
 | none=>rfl
 | some p=>obtain⟨k,ρ⟩:=p;cases k<;>rfl
theorem a0W:andV g (some (true,ρ))=g ρ:=id rfl
theorem r_andV_f:andV g (some (false,ρ))=some (.v (.bl false),ρ):=rfl
theorem r_orV_t:orV g (some (true,ρ))=some (.v (.bl true),ρ):=rfl
theorem r_orV_f:orV g (some (false,ρ))=g ρ:=id rfl
theorem r_notV_s:notV (some (k,ρ))=some (.v (.bl (!k)),ρ):=rfl
theorem r_if_t:ifV f g (some (true,ρ))=f ρ:=id rfl
theorem r_if_f:ifV f g (some (false,ρ))=g ρ:=id rfl
def cons2 (fa:FA):Option (W×Ev)->Option (List W×Ev)
 | some p=>(fa p.2).map fun q=>(p.1.fz::q.1,q.2)
 | none=>none
def cons3 (w:W):Option (List W×Ev)->Option (List W×Ev)
 | some q=>some (w::q.1,q.2)
 | none=>none
theorem a7h:fNil ρ=some ([],ρ):=rfl
theorem a4o:fCons f fa ρ=cons2 fa (f ρ):=by unfold fCons cons2;cases f ρ<;>rfl
theorem a2I:cons2 fa (some (w,ρ))=cons3 w.fz (fa ρ):=by unfold cons2 cons3;dsimp only;cases fa ρ<;>rfl
theorem a25:cons3 w (some (ws,ρ))=some (w::ws,ρ):=rfl
def takC (d:D):Option (List D×Ev)->Option (List D×Ev)
 | some p=>some (d::p.1,p.2)
 | none=>none
def takR (i:Nat) (ws:List W):Option Ev->Option (List D×Ev)
 | some ρ1=>match ρ1[i]? with
  | some (some (.v d))=>(takeAll ρ1 ws).map fun p=>(d::p.1,p.2)
  | _=>none
 | none=>none
def takS (ρ:Ev) (ws:List W):Option (Option W)->Option (List D×Ev)
 | some (some (.v d))=>takC d (takeAll ρ ws)
 | _=>none
theorem a14:takeAll ρ []=some ([],ρ):=rfl
theorem a2e:takeAll ρ (.v d::ws)=takC d (takeAll ρ ws):=by rw[takeAll];unfold takC;cases takeAll ρ ws<;>rfl
theorem a2K:takeAll ρ (.r i::ws)=takR i ws (frzAt ρ i):=by rw[takeAll];unfold takR;cases frzAt ρ i<;>rfl
theorem a4g:takC d (some (ds,ρ))=some (d::ds,ρ):=rfl
theorem a3Z:takR i ws (some ρ)=takS ρ ws ρ[i]?:=by
 unfold takR takS;dsimp only
 split
 ·unfold takC;cases takeAll ρ ws<;>rfl
 ·rfl
theorem a4I:takS ρ ws (some (some (.v d)))=takC d (takeAll ρ ws):=rfl
def disp2 (mk:List D->W):Option (List W×Ev)->Option (W×Ev)
 | some p=>(takeAll p.2 p.1).bind fun q=>if q.1.length<=lim then some (mk q.1,q.2) else none
 | none=>none
def disp3 (mk:List D->W):Option (List D×Ev)->Option (W×Ev)
 | some q=>if q.1.length<=lim then some (mk q.1,q.2) else none
 | none=>none
theorem a6D:fTup fa ρ=disp2 (fun ds=>.v (.tup ds)) (fa ρ):=by unfold fTup disp2;cases fa ρ<;>rfl
theorem a6J:fLst fa ρ=disp2 (fun ds=>.o (.lst ds)) (fa ρ):=by unfold fLst disp2;cases fa ρ<;>rfl
theorem a24 {mk:List D->W}:disp2 mk (some (ws,ρ))=disp3 mk (takeAll ρ ws):=by unfold disp2 disp3;dsimp only;cases takeAll ρ ws<;>rfl
theorem a21 {mk:List D->W}:disp3 mk (some (ds,ρ))=if ds.length<=lim then some (mk ds,ρ) else none:=rfl
def call2 (k:List D->Option W):Option (List W×Ev)->Option (W×Ev)
 | some p=>(drs p.2 p.1).bind fun ds=>(k ds).map fun w=>(w,p.2)
 | none=>none
def call3 (k:List D->Option W) (ρ:Ev):Option (List D)->Option (W×Ev)
 | some ds=>withE ρ (k ds)
 | none=>none
theorem a37 {k:List D->Option W}:fCall k fa ρ=call2 k (fa ρ):=by unfold fCall call2;cases fa ρ<;>rfl
theorem a2T {k:List D->Option W}:call2 k (some (ws,ρ))=call3 k ρ (drs ρ ws):=by
 unfold call2 call3 withE;dsimp only;cases drs ρ ws with
 | none=>rfl
 | some ds=>simp only[bind_some];cases k ds<;>rfl
theorem a2c {k:List D->Option W}:call3 k ρ (some ds)=withE ρ (k ds):=rfl
theorem r_k1 {g:D->Option W}:k1 g [d]=g d:=rfl
theorem r_k2 {g:Int->Int->D}{i j:Int}:k2 g [.int i,.int j]=some (.v (g i j)):=rfl
def def2 (g:List D->Option W):Option (List W×Ev)->Option (W×Ev)
 | some p=>(drs p.2 p.1).bind fun ds=>(g ds).bind fun w=>if lfW w=true then some (w,p.2) else(frzL p.1 p.2).map fun ρ2=>(w,ρ2)
 | none=>none
def def3 (g:List D->Option W) (ws:List W) (ρ:Ev):Option (List D)->Option (W×Ev)
 | some ds=>(g ds).bind fun w=>if lfW w=true then some (w,ρ) else(frzL ws ρ).map fun ρ2=>(w,ρ2)
 | none=>none
def def4 (ws:List W) (ρ:Ev):Option W->Option (W×Ev)
 | some w=>if lfW w=true then some (w,ρ) else(frzL ws ρ).map fun ρ2=>(w,ρ2)
 | none=>none
theorem a65 {g:List D->Option W}:fDef g fa ρ=def2 g (fa ρ):=by unfold fDef def2;cases fa ρ<;>rfl
theorem a5E {g:List D->Option W}:def2 g (some (ws,ρ))=def3 g ws ρ (drs ρ ws):=by unfold def2 def3;dsimp only;cases drs ρ ws<;>rfl
theorem a5m {g:List D->Option W}:def3 g ws ρ (some ds)=def4 ws ρ (g ds):=by unfold def3 def4;dsimp only;cases g ds<;>rfl
theorem a4d:def4 ws ρ (some w)=if lfW w=true then some (w,ρ) else(frzL ws ρ).map fun ρ2=>(w,ρ2):=rfl
def dl2 (g:D->List D->Option (W×D)):Option (List W×Ev)->Option (W×Ev)
 | some (.r i::ws,ρ)=>(ownAt ρ i).bind fun c=>(drs ρ ws).bind fun ds=>(g c ds).bind fun z=>if noR i ws=true/\lfC z.2=true then(if lfW z.1=true then some (z.1,setOwn ρ i z.2) else(frzL ws (setOwn ρ i z.2)).map fun ρ2=>(z.1,ρ2)) else none
 | _=>none
def dl3 (g:D->List D->Option (W×D)) (i:Nat) (ws:List W) (ρ:Ev):Option D->Option (List D)->Option (W×Ev)
 | some c,some ds=>(g c ds).bind fun z=>if noR i ws=true/\lfC z.2=true then(if lfW z.1=true then some (z.1,setOwn ρ i z.2) else(frzL ws (setOwn ρ i z.2)).map fun ρ2=>(z.1,ρ2)) else none
 | _,_=>none
def dl4 (i:Nat) (ws:List W) (ρ:Ev):Option (W×D)->Option (W×Ev)
 | some z=>if noR i ws=true/\lfC z.2=true then(if lfW z.1=true then some (z.1,setOwn ρ i z.2) else(frzL ws (setOwn ρ i z.2)).map fun ρ2=>(z.1,ρ2)) else none
 | none=>none
theorem r_dl {g:D->List D->Option (W×D)}:fDefL g fa ρ=dl2 g (fa ρ):=by
 unfold fDefL dl2;cases fa ρ with
 | none=>rfl
 | some p=>
  obtain⟨ws,ρ⟩:=p;cases ws with
  | nil=>rfl
  | cons w ws=>cases w<;>rfl
theorem a6H {g:D->List D->Option (W×D)}:dl2 g (some (.r i::ws,ρ))=dl3 g i ws ρ (ownAt ρ i) (drs ρ ws):=by unfold dl2 dl3;dsimp only;cases ownAt ρ i<;>cases drs ρ ws<;>rfl
theorem a6M {g:D->List D->Option (W×D)}:dl3 g i ws ρ (some d) (some ds)=dl4 i ws ρ (g d ds):=by unfold dl3 dl4;dsimp only;cases g d ds<;>rfl
theorem a7e:dl4 i ws ρ (some (w,d))=if noR i ws=true/\lfC d=true then(if lfW w=true then some (w,setOwn ρ i d) else(frzL ws (setOwn ρ i d)).map fun ρ2=>(w,ρ2)) else none:=rfl
def sl2 (lo hi:FO):Option (W×Ev)->Option (W×Ev)
 | some p=>(lo p.2).bind fun l=>(hi l.2).bind fun u=>(dr u.2 p.1.fz).bind fun x=>(slD x l.1 u.1).map fun w=>(w,u.2)
 | none=>none
def sl3 (hi:FO) (w:W):Option (Option Int×Ev)->Option (W×Ev)
 | some l=>(hi l.2).bind fun u=>(dr u.2 w.fz).bind fun x=>(slD x l.1 u.1).map fun w=>(w,u.2)
 | none=>none
def sl4 (w:W) (l:Option Int):Option (Option Int×Ev)->Option (W×Ev)
 | some u=>(dr u.2 w.fz).bind fun x=>(slD x l u.1).map fun w=>(w,u.2)
 | none=>none
def sl5 (l u:Option Int) (ρ:Ev):Option D->Option (W×Ev)
 | some x=>withE ρ (slD x l u)
 | none=>none
theorem r_sl {lo hi:FO}:fSl f lo hi ρ=sl2 lo hi (f ρ):=by unfold fSl sl2;cases f ρ<;>rfl
theorem a7g {lo hi:FO}:sl2 lo hi (some (w,ρ))=sl3 hi w (lo ρ):=by unfold sl2 sl3;dsimp only;cases lo ρ<;>rfl
theorem a68 {hi:FO}{l:Option Int}:sl3 hi w (some (l,ρ))=sl4 w l (hi ρ):=by unfold sl3 sl4;dsimp only;cases hi ρ<;>rfl
theorem a7b {l u:Option Int}:sl4 w l (some (u,ρ))=sl5 l u ρ (dr ρ w.fz):=by
 unfold sl4 sl5 withE;dsimp only;cases dr ρ w.fz with
 | none=>rfl
 | some x=>simp only[bind_some];cases slD x l u<;>rfl
theorem a60 {l u:Option Int}:sl5 l u ρ (some x)=withE ρ (slD x l u):=rfl
theorem r_sl_t {l u:Option Int}:slD (.tup xs) l u=some (.v (.tup (cutD xs l u))):=rfl
theorem a5h {l u:Option Int}:slD (.lst xs) l u=some (.o (.lst (cutD xs l u))):=rfl
def o1O:Option (W×Ev)->Option (Option Int×Ev)
 | some (.v (.int i),ρ)=>some (some i,ρ)
 | _=>none
theorem r_o0:fO0 ρ=some (none,ρ):=rfl
theorem r_o1:fO1 f ρ=o1O (f ρ):=by
 unfold fO1 o1O;cases f ρ with
 | none=>rfl
 | some p=>
  obtain⟨w,ρ⟩:=p;cases w with
  | v d=>cases d<;>rfl
  | _=>rfl
theorem a7a {n:Int}:o1O (some (.v (.int n),ρ))=some (some n,ρ):=rfl
def thnO (G:FS):Option R->Option R
 | some (.nx ρ)=>G ρ
 | o=>o
theorem a45:fThen F G ρ=thnO G (F ρ):=by unfold fThen thnO;cases F ρ with
 | none=>rfl
 | some r=>cases r<;>rfl
theorem U6:thnO G (some (.nx ρ))=G ρ:=id rfl
theorem V8:thnO G (some (.rt w ρ))=some (.rt w ρ):=id rfl
theorem a8H:thnO G (some (.bk ρ))=some (.bk ρ):=rfl
theorem a8E:thnO G (some (.ct ρ))=some (.ct ρ):=rfl
def retO:Option (W×Ev)->Option R
 | some p=>retW p.2 p.1
 | none=>none
def retS (ρ:Ev):Option (Option W)->Option R
 | some (some (.o d))=>some (.rt (.o d) ρ)
 | some (some (.v d))=>some (.rt (.v d) ρ)
 | _=>none
theorem a63:fRet f ρ=retO (f ρ):=by unfold fRet retO;cases f ρ<;>rfl
theorem a1X:retO (some (.v d,ρ))=some (.rt (.v d) ρ):=rfl
theorem a15:retO (some (.o d,ρ))=some (.rt (.o d) ρ):=rfl
theorem a2O:retO (some (.r i,ρ))=retS ρ ρ[i]?:=by unfold retO retS;first|(dsimp only[retW];done)|(dsimp only[retW];rfl)
theorem a0F:retS ρ (some (some (.o d)))=some (.rt (.o d) ρ):=rfl
theorem r_retS_v:retS ρ (some (some (.v d)))=some (.rt (.v d) ρ):=rfl
def ifO (F G:FS):Option (Bool×Ev)->Option R
 | some (true,ρ)=>F ρ
 | some (false,ρ)=>G ρ
 | none=>none
theorem r_ifS:fIfS t F G ρ=ifO F G (t ρ):=by unfold fIfS ifO;cases t ρ with
 | none=>rfl
 | some p=>obtain⟨k,ρ⟩:=p;cases k<;>rfl
theorem a2x:ifO F G (some (true,ρ))=F ρ:=id rfl
theorem a2G:ifO F G (some (false,ρ))=G ρ:=id rfl
def asgO (i:Nat):Option (W×Ev)->Option R
 | some p=>(bindW p.2 i p.1).map .nx
 | none=>none
def bndO (i j:Nat):Option Ev->Option R
 | some ρ1=>match ρ1[j]? with
  | some (some (.v d))=>if freeSlot ρ1 i=true then some (.nx (ρ1.set i (some (.v d)))) else none
  | _=>none
 | none=>none
def bndS (i:Nat) (ρ:Ev):Option (Option W)->Option R
 | some (some (.v d))=>if freeSlot ρ i=true then some (.nx (ρ.set i (some (.v d)))) else none
 | _=>none
theorem a7s:fAsg i f ρ=asgO i (f ρ):=by unfold fAsg asgO;cases f ρ<;>rfl
theorem a2j:asgO i (some (.v d,ρ))=if freeSlot ρ i=true then some (.nx (ρ.set i (some (.v d)))) else none:=by unfold asgO;dsimp only[bindW];split<;>rfl
theorem a18:asgO i (some (.o d,ρ))=if freeSlot ρ i=true then some (.nx (ρ.set i (some (.o d)))) else none:=by unfold asgO;dsimp only[bindW];split<;>rfl
theorem r_asg_r:asgO i (some (.r j,ρ))=bndO i j (frzAt ρ j):=by
 unfold asgO bndO;dsimp only[bindW];cases frzAt ρ j with
 | none=>rfl
 | some ρ1=>
  simp only[bind_some];cases q:ρ1[j]? with
  | none=>rfl
  | some o=>
   cases o with
   | none=>rfl
   | some w=>
    cases w with
    | v d=>dsimp only;split<;>rfl
    | _=>rfl
theorem r_bndO:bndO i j (some ρ)=bndS i ρ ρ[j]?:=by
 unfold bndO bndS;rfl
theorem r_bndS:bndS i ρ (some (some (.v d)))=if freeSlot ρ i=true then some (.nx (ρ.set i (some (.v d)))) else none:=rfl
def agO2 (gf:FG):Option (W×Ev)->Option R
 | some p=>(takeAll p.2 [p.1.fz]).bind fun q=>match q.1 with
  | [d]=>(gf d q.2).map .nx
  | _=>none
 | none=>none
def agO3 (gf:FG):Option (List D×Ev)->Option R
 | some ([d],ρ)=>(gf d ρ).map .nx
 | _=>none
def nxO:Option Ev->Option R
 | some ρ=>some (.nx ρ)
 | none=>none
theorem r_ag {gf:FG}:fAsgG f gf ρ=agO2 gf (f ρ):=by unfold fAsgG agO2;cases f ρ<;>rfl
theorem a61 {gf:FG}:agO2 gf (some (w,ρ))=agO3 gf (takeAll ρ [w.fz]):=by
 unfold agO2 agO3;dsimp only;cases takeAll ρ [w.fz] with
 | none=>rfl
 | some p=>
  obtain⟨ds,ρ⟩:=p
  match ds with
  | []=>rfl
  | [_]=>rfl
  | _::_::_=>rfl
theorem a6Z {gf:FG}:agO3 gf (some ([d],ρ))=nxO (gf d ρ):=by unfold agO3 nxO;dsimp only;cases gf d ρ<;>rfl
theorem a62:nxO (some ρ)=some (.nx ρ):=rfl
theorem a2f:gfName i d ρ=if freeSlot ρ i=true then some (ρ.set i (some (.v d))) else none:=rfl
def gcO (gs:FGs) (ds:List D):Option Ev->Option Ev
 | some ρ=>gs ds ρ
 | none=>none
theorem a3J:gfNil [] ρ=some ρ:=rfl
theorem a2k {gf:FG}{gs:FGs}:gfCons gf gs (d::ds) ρ=gcO gs ds (gf d ρ):=by unfold gfCons gcO;dsimp only;cases gf d ρ<;>rfl
theorem a6V {gs:FGs}:gcO gs ds (some ρ)=gs ds ρ:=id rfl
theorem a46 {gs:FGs}:gfTup gs (.tup ds) ρ=gs ds ρ:=rfl
def gs2 (g:FX) (d:D):Option (W×Ev)->Option Ev
 | some (.r j,ρ)=>(g ρ).bind fun q=>(dr q.2 q.1.fz).bind fun k=>match k,ownAt q.2 j with
  | .int k,some (.lst xs)=>(ixN xs.length k).map fun n=>setOwn q.2 j (.lst (xs.set n d))
  | _,_=>none
 | _=>none
def gs3 (j:Nat) (d:D):Option (W×Ev)->Option Ev
 | some q=>(dr q.2 q.1.fz).bind fun k=>match k,ownAt q.2 j with
  | .int k,some (.lst xs)=>(ixN xs.length k).map fun n=>setOwn q.2 j (.lst (xs.set n d))
  | _,_=>none
 | none=>none
def gs4 (j:Nat) (d:D) (ρ:Ev):Option D->Option D->Option Ev
 | some (.int k),some (.lst xs)=>(ixN xs.length k).map fun n=>setOwn ρ j (.lst (xs.set n d))
 | _,_=>none
theorem r_gs:gfSub f g d ρ=gs2 g d (f ρ):=by
 unfold gfSub gs2;cases f ρ with
 | none=>rfl
 | some p=>obtain⟨w,ρ⟩:=p;cases w<;>rfl
theorem a6y:gs2 g d (some (.r j,ρ))=gs3 j d (g ρ):=by unfold gs2 gs3;dsimp only;cases g ρ<;>rfl
theorem a6A:gs3 j d (some (w,ρ))=gs4 j d ρ (dr ρ w.fz) (ownAt ρ j):=by
 unfold gs3 gs4;dsimp only;cases dr ρ w.fz with
 | none=>rfl
 | some k=>
  simp only[bind_some];cases k with
  | int n=>cases ownAt ρ j with
   | none=>rfl
   | some c=>cases c<;>rfl
  | _=>rfl
theorem a7j {n:Int}:gs4 j d ρ (some (.int n)) (some (.lst xs))=(ixN xs.length n).map fun n=>setOwn ρ j (.lst (xs.set n d)):=rfl
def dropO:Option (W×Ev)->Option R
 | some p=>some (.nx p.2)
 | none=>none
theorem a4t:fDrop f ρ=dropO (f ρ):=by unfold fDrop dropO;cases f ρ<;>rfl
theorem a2b:dropO (some (w,ρ))=some (.nx ρ):=rfl
def par2 (i j:Nat):Option (List W×Ev)->Option R
 | some p=>(takeAll p.2 p.1).bind fun q=>match q.1 with
  | [d,d']=>if freeSlot q.2 i=true/\freeSlot (q.2.set i (some (.v d))) j=true then some (.nx ((q.2.set i (some (.v d))).set j (some (.v d')))) else none
  | _=>none
 | none=>none
def par3 (i j:Nat):Option (List D×Ev)->Option R
 | some ([d,d'],ρ)=>if freeSlot ρ i=true/\freeSlot (ρ.set i (some (.v d))) j=true then some (.nx ((ρ.set i (some (.v d))).set j (some (.v d')))) else none
 | _=>none
theorem r_par:fPar i j fa ρ=par2 i j (fa ρ):=by unfold fPar par2;cases fa ρ<;>rfl
theorem r_par2:par2 i j (some (ws,ρ))=par3 i j (takeAll ρ ws):=by
 unfold par2 par3;dsimp only;cases takeAll ρ ws with
 | none=>rfl
 | some p=>
  obtain⟨ds,ρ⟩:=p
  match ds with
  | []=>rfl
  | [_]=>rfl
  | [_,_]=>rfl
  | _::_::_::_=>rfl
theorem r_par3:par3 i j (some ([d,e],ρ))=if freeSlot ρ i=true/\freeSlot (ρ.set i (some (.v d))) j=true then some (.nx ((ρ.set i (some (.v d))).set j (some (.v e)))) else none:=rfl
def is2:Option (W×Ev)->Option (List D×Ev)
 | some p=>(takeAll p.2 [p.1.fz]).bind fun q=>match q.1 with
  | [d]=>(items d).map fun xs=>(xs,q.2)
  | _=>none
 | none=>none
def is3:Option (List D×Ev)->Option (List D×Ev)
 | some ([.tup xs],ρ)=>some (xs,ρ)
 | some ([.lst xs],ρ)=>some (xs,ρ)
 | _=>none
theorem r_is:fiSeq f ρ=is2 (f ρ):=by unfold fiSeq is2;cases f ρ<;>rfl
theorem a7k:is2 (some (w,ρ))=is3 (takeAll ρ [w.fz]):=by
 unfold is2 is3;dsimp only;cases takeAll ρ [w.fz] with
 | none=>rfl
 | some p=>
  obtain⟨ds,ρ⟩:=p
  match ds with
  | []=>rfl
  | [d]=>cases d<;>rfl
  | _::_::_=>simp
theorem a43:is3 (some ([.tup xs],ρ))=some (xs,ρ):=rfl
theorem a5s:is3 (some ([.lst xs],ρ))=some (xs,ρ):=rfl
def forO (gf:FG) (b:FS):Option (List D×Ev)->Option R
 | some p=>loopF (turnF gf b) p.1 p.2
 | none=>none
theorem a6Y {fi:FI}{gf:FG}:fFor fi gf F ρ=forO gf F (fi ρ):=by unfold fFor forO;cases fi ρ<;>rfl
theorem a3X {gf:FG}:forO gf F (some (xs,ρ))=loopF (turnF gf F) xs ρ:=id rfl
def turnO (b:FS):Option Ev->Option R
 | some ρ=>b ρ
 | none=>none
theorem a4V {gf:FG}:turnF gf F d ρ=turnO F (gf d ρ):=by unfold turnF turnO;cases gf d ρ<;>rfl
theorem a2M:turnO F (some ρ)=F ρ:=id rfl
def mu2 (op:List D->List D->Option (W×List D)) (fa:FA):Option (W×Ev)->Option (W×Ev)
 | some (.r i,ρ)=>if isLst (ownAt ρ i)=true then(fa ρ).bind fun q=>(takeAll q.2 q.1).bind fun z=>match ownAt z.2 i with
  | some (.lst xs)=>(op xs z.1).map fun y=>(y.1,setOwn z.2 i (.lst y.2))
  | _=>none
  else none
 | _=>none
def mu3 (op:List D->List D->Option (W×List D)) (i:Nat):Option (List W×Ev)->Option (W×Ev)
 | some q=>(takeAll q.2 q.1).bind fun z=>match ownAt z.2 i with
  | some (.lst xs)=>(op xs z.1).map fun y=>(y.1,setOwn z.2 i (.lst y.2))
  | _=>none
 | none=>none
def mu4 (op:List D->List D->Option (W×List D)) (i:Nat):Option (List D×Ev)->Option (W×Ev)
 | some z=>match ownAt z.2 i with
  | some (.lst xs)=>(op xs z.1).map fun y=>(y.1,setOwn z.2 i (.lst y.2))
  | _=>none
 | none=>none
def mu5 (op:List D->List D->Option (W×List D)) (i:Nat) (ds:List D) (ρ:Ev):Option D->Option (W×Ev)
 | some (.lst xs)=>(op xs ds).map fun y=>(y.1,setOwn ρ i (.lst y.2))
 | _=>none
def mu6 (i:Nat) (ρ:Ev):Option (W×List D)->Option (W×Ev)
 | some y=>some (y.1,setOwn ρ i (.lst y.2))
 | none=>none
variable {om:List D->List D->Option (W×List D)}
theorem r_mu:fMut om f fa ρ=mu2 om fa (f ρ):=by
 unfold fMut mu2;cases f ρ with
 | none=>rfl
 | some p=>obtain⟨w,ρ⟩:=p;cases w<;>rfl
theorem a6R:mu2 om fa (some (.r i,ρ))=if isLst (ownAt ρ i)=true then mu3 om i (fa ρ) else none:=by unfold mu2 mu3;dsimp only;cases fa ρ<;>rfl
theorem a7r:mu3 om i (some (ws,ρ))=mu4 om i (takeAll ρ ws):=by unfold mu3 mu4;dsimp only;cases takeAll ρ ws<;>rfl
theorem a7o:mu4 om i (some (ds,ρ))=mu5 om i ds ρ (ownAt ρ i):=by unfold mu4 mu5;rfl
theorem a7t:mu5 om i ds ρ (some (.lst xs))=mu6 i ρ (om xs ds):=by unfold mu5 mu6;dsimp only;cases om xs ds<;>rfl
theorem a7p:mu6 i ρ (some (w,xs))=some (w,setOwn ρ i (.lst xs)):=rfl
theorem a6P:mApp xs [d]=if xs.length<lim then some (.v .non,xs++[d]) else none:=rfl
def runO:Option R->Option W
 | some (.rt w _)=>some w
 | some (.nx _)=>some (.v .non)
 | _=>none
theorem a6W {np n:Nat}:runD np n G ds=if ds.length=np then runO (G (start0 n ds)) else none:=by
 unfold runD runO
 split
 ·cases G (start0 n ds) with
  | none=>rfl
  | some r=>cases r<;>rfl
 ·rfl
theorem a1f:runO (some (.rt w ρ))=some w:=rfl
theorem r_run_nx:runO (some (.nx ρ))=some (.v .non):=rfl
def runLO:Option R->Option (W×D)
 | some (.rt w ρ)=>(ownAt ρ 0).map fun c=>(w,c)
 | some (.nx ρ)=>(ownAt ρ 0).map fun c=>(.v .non,c)
 | _=>none
theorem a4H {np n:Nat}:runL np n G d ds=if ds.length+1=np then runLO (G (some (.l d)::start0 (n-1) ds)) else none:=by
 unfold runL runLO
 split
 ·cases G (some (.l d)::start0 (n-1) ds) with
  | none=>rfl
  | some r=>cases r<;>rfl
 ·rfl
theorem V9:runLO (some (.rt w ρ))=(ownAt ρ 0).map fun c=>(w,c):=rfl
theorem a8F:runLO (some (.nx ρ))=(ownAt ρ 0).map fun c=>(.v .non,c):=rfl
variable {m n:Int}
theorem o_i0 {g:Int->Int->D}:oI0 g (.int m) (.int n)=some (.v (g m n)):=rfl
theorem o_i {C:Int->Int->Prop} [∀i j,Decidable (C i j)] {g:Int->Int->D}:oI C g (.int m) (.int n)=if C m n then some (.v (g m n)) else none:=rfl
theorem a10:oAdd (.int m) (.int n)=some (.v (.int (m+n))):=rfl
theorem a2N:oAdd (.lst xs) (.lst ys)=if xs.length+ys.length<=lim then some (.o (.lst (xs++ys))) else none:=rfl
theorem o_add_t:oAdd (.tup xs) (.tup ys)=if xs≠[]/\xs.length+ys.length<=lim then some (.v (.tup (xs++ys))) else none:=by
 by_cases h:xs≠[]/\xs.length+ys.length<=lim
 ·rw[if_pos h];exact if_pos h
 ·rw[if_neg h];exact if_neg h
theorem o_neg:oNeg (.int m)=some (.v (.int (-m))):=rfl
theorem a38:oLtT (.int m) (.int n)=some (.v (.bl (decide (m<n)))):=rfl
theorem a4c:oIx (.tup xs) (.int n)=(atI xs n).map .v:=rfl
theorem a44:oIx (.lst xs) (.int n)=(atI xs n).map .v:=rfl
theorem a2C:gLen (.tup xs)=some (.v (.int xs.length)):=rfl
theorem a2u:gLen (.lst xs)=some (.v (.int xs.length)):=rfl
theorem a7c:gAbs (.int m)=some (.v (.int (if m<0 then -m else m))):=rfl
theorem o_int:gInt (.bl b)=some (.v (.int (if b then 1 else 0))):=rfl
theorem a8z:gTuple (.tup xs)=some (.v (.tup xs)):=rfl
theorem V4:gTuple (.lst xs)=some (.v (.tup xs)):=rfl
theorem o_list_t:gList (.tup xs)=some (.o (.lst xs)):=rfl
theorem o_list_l:gList (.lst xs)=some (.o (.lst xs)):=rfl
theorem o_d2 {q:D->D->Option Bool}{neg:Bool}:oD2 q neg x y=(q x y).map fun k=>.v (.bl (if neg then !k else k)):=rfl
theorem a_0:atI (d::ds) 0=some d:=m8 (j:=0) rfl
theorem a_1:atI (d::e::ds) 1=some e:=m8 (j:=1) rfl
theorem a_2:atI (d::e::x::ds) 2=some x:=m8 (j:=2) rfl
end
open PySem PySem.Spec PyProof.Rows L2
def kd:D->Bool
 | .lst _=>true
 | _=>false
section
variable {p:Pos}{fa:FA}
def zipD (xs ys:List D):List D:=List.zipWith (fun x y=>.tup [x,y]) xs ys
def enumD (xs:List D):List D:=xs.mapIdx fun(i:Nat) x=>.tup [.int i,x]
def fiZip (fa:FA):FI:=fun ρ=>(fa ρ).bind fun p=>(takeAll p.2 p.1).bind fun q=>match q.1 with
 | [x,y]=>(items x).bind fun xs=>(items y).map fun ys=>(zipD xs ys,q.2)
 | _=>none
def fiEnum (fa:FA):FI:=fun ρ=>(fa ρ).bind fun p=>(takeAll p.2 p.1).bind fun q=>match q.1 with
 | [x]=>(items x).map fun xs=>(enumD xs,q.2)
 | _=>none
end
section
variable {X:Cx}{e o:Expr}{pos p:Pos}{f:FX}{fa:FA}
def fListR (fa:FA):FX:=fun ρ=>(fa ρ).bind fun p=>match p.1 with
 | [.v (.int n)]=>if 0<=n/\n<=1000 then some (.o (.lst (rngD 0 n.toNat)),p.2) else none
 | _=>none
def fCnt (f:FX) (fa:FA):FX:=fun ρ=>(f ρ).bind fun p=>(dr p.2 p.1.fz).bind fun d=>match d with
 | .tup _=>(fa p.2).bind fun q=>(dr q.2 p.1.fz).bind fun y=>match y,q.1 with
  | .tup xs,[.v (.int i)]=>(intsOf xs).map fun ns=>(.v (.int (ns.count i:Nat)),q.2)
  | _,_=>none
 | _=>none
def fDNew:FX:=fun ρ=>some (.o (.dK [] []),ρ)
def fDNewT:FX:=fun ρ=>some (.o (.dT [] []),ρ)
theorem a5j:QX X (.Dict [] [] pos) fDNewT:=⟨PE.weak a5a fun σ H Q h0=>tXe h0 fun P O L ρ w ρ' r e q=>by
 cases e
 exact fun p hp=>q _ H _ r (j6 hp _) ⟨p,rfl,hp,[],o4,rfl,c9⟩⟩
end
section
variable {f g:FX}{t:FT}{fa:FA}{ρ ρ1 ρ2:Ev}{w z:W}{ws:List W}{d e x y:D}{xs ys:List D}{i j k:Nat}{m n:Int}{b:Bool}
theorem it_t:items (.tup xs)=some xs:=rfl
theorem it_l:items (.lst xs)=some xs:=rfl
def iz2:Option (List W×Ev)->Option (List D×Ev)
 | some p=>(takeAll p.2 p.1).bind fun q=>match q.1 with
  | [x,y]=>(items x).bind fun xs=>(items y).map fun ys=>(zipD xs ys,q.2)
  | _=>none
 | none=>none
def iz3:Option (List D×Ev)->Option (List D×Ev)
 | some q=>match q.1 with
  | [x,y]=>(items x).bind fun xs=>(items y).map fun ys=>(zipD xs ys,q.2)
  | _=>none
 | none=>none
def iz4 (ρ:Ev):Option (List D)->Option (List D)->Option (List D×Ev)
 | some xs,some ys=>some (zipD xs ys,ρ)
 | _,_=>none
theorem r_iz:fiZip fa ρ=iz2 (fa ρ):=by unfold fiZip iz2;cases fa ρ<;>rfl
theorem r_iz2:iz2 (some (ws,ρ))=iz3 (takeAll ρ ws):=by unfold iz2 iz3;dsimp only;cases takeAll ρ ws<;>rfl
theorem r_iz3:iz3 (some ([x,y],ρ))=iz4 ρ (items x) (items y):=by unfold iz3 iz4;dsimp only;cases items x<;>cases items y<;>rfl
theorem r_iz4:iz4 ρ (some xs) (some ys)=some (zipD xs ys,ρ):=rfl
def ie2:Option (List W×Ev)->Option (List D×Ev)
 | some p=>(takeAll p.2 p.1).bind fun q=>match q.1 with
  | [x]=>(items x).map fun xs=>(enumD xs,q.2)
  | _=>none
 | none=>none
def ie3:Option (List D×Ev)->Option (List D×Ev)
 | some q=>match q.1 with
  | [x]=>(items x).map fun xs=>(enumD xs,q.2)
  | _=>none
 | none=>none
theorem r_ie:fiEnum fa ρ=ie2 (fa ρ):=by unfold fiEnum ie2;cases fa ρ<;>rfl
theorem r_ie2:ie2 (some (ws,ρ))=ie3 (takeAll ρ ws):=by unfold ie2 ie3;dsimp only;cases takeAll ρ ws<;>rfl
theorem r_ie3_t:ie3 (some ([.tup xs],ρ))=some (enumD xs,ρ):=rfl
theorem r_ie3_l:ie3 (some ([.lst xs],ρ))=some (enumD xs,ρ):=rfl
def jr1:Option (List W×Ev)->Option (List D×Ev)
 | some p=>match p.1 with
  | [.v (.int n)]=>if -(2^62)<=n/\n<2^62 then some (rngD 0 n.toNat,p.2) else none
  | _=>none
 | none=>none
def jr2:Option (List W×Ev)->Option (List D×Ev)
 | some p=>match p.1 with
  | [.v (.int m),.v (.int n)]=>if(-(2^62)<=m/\m<2^62)/\-(2^62)<=n/\n<2^62 then some (rngD m (n-m).toNat,p.2) else none
  | _=>none
 | none=>none
def lr2:Option (List W×Ev)->Option (W×Ev)
 | some p=>match p.1 with
  | [.v (.int n)]=>if 0<=n/\n<=1000 then some (.o (.lst (rngD 0 n.toNat)),p.2) else none
  | _=>none
 | none=>none
theorem r_r1:fiR1 fa ρ=jr1 (fa ρ):=by unfold fiR1 jr1;cases fa ρ<;>rfl
theorem a6E:jr1 (some ([.v (.int n)],ρ))=if -(2^62)<=n/\n<2^62 then some (rngD 0 n.toNat,ρ) else none:=rfl
theorem r_r2:fiR2 fa ρ=jr2 (fa ρ):=by unfold fiR2 jr2;cases fa ρ<;>rfl
theorem r_r2s:jr2 (some ([.v (.int m),.v (.int n)],ρ))=if(-(2^62)<=m/\m<2^62)/\-(2^62)<=n/\n<2^62 then some (rngD m (n-m).toNat,ρ) else none:=rfl
theorem r_lr:fListR fa ρ=lr2 (fa ρ):=by unfold fListR lr2;cases fa ρ<;>rfl
theorem r_lr2:lr2 (some ([.v (.int n)],ρ))=if 0<=n/\n<=1000 then some (.o (.lst (rngD 0 n.toNat)),ρ) else none:=rfl
def cn2 (fa:FA):Option (W×Ev)->Option (W×Ev)
 | some p=>(dr p.2 p.1.fz).bind fun d=>match d with
  | .tup _=>(fa p.2).bind fun q=>(dr q.2 p.1.fz).bind fun y=>match y,q.1 with
   | .tup xs,[.v (.int i)]=>(intsOf xs).map fun ns=>(.v (.int (ns.count i:Nat)),q.2)
   | _,_=>none
  | _=>none
 | none=>none
def cn3 (fa:FA) (w:W) (ρ:Ev):Option D->Option (W×Ev)
 | some (.tup _)=>(fa ρ).bind fun q=>(dr q.2 w.fz).bind fun y=>match y,q.1 with
   | .tup xs,[.v (.int i)]=>(intsOf xs).map fun ns=>(.v (.int (ns.count i:Nat)),q.2)
   | _,_=>none
 | _=>none
def cn4 (w:W):Option (List W×Ev)->Option (W×Ev)
 | some q=>(dr q.2 w.fz).bind fun y=>match y,q.1 with
   | .tup xs,[.v (.int i)]=>(intsOf xs).map fun ns=>(.v (.int (ns.count i:Nat)),q.2)
   | _,_=>none
 | _=>none
def cn5 (ws:List W) (ρ:Ev):Option D->Option (W×Ev)
 | some y=>match y,ws with
   | .tup xs,[.v (.int i)]=>(intsOf xs).map fun ns=>(.v (.int (ns.count i:Nat)),ρ)
   | _,_=>none
 | _=>none
theorem r_cn:fCnt f fa ρ=cn2 fa (f ρ):=by unfold fCnt cn2;cases f ρ<;>rfl
theorem r_cn2:cn2 fa (some (w,ρ))=cn3 fa w ρ (dr ρ w.fz):=by
 unfold cn2 cn3;dsimp only;cases dr ρ w.fz with
 | none=>rfl
 | some d=>cases d<;>rfl
theorem r_cn3:cn3 fa w ρ (some (.tup xs))=cn4 w (fa ρ):=by unfold cn3 cn4;cases fa ρ<;>rfl
theorem r_cn4:cn4 w (some (ws,ρ))=cn5 ws ρ (dr ρ w.fz):=by unfold cn4 cn5;dsimp only;cases dr ρ w.fz<;>rfl
theorem r_dnew:fDNew ρ=some (.o (.dK [] []),ρ):=rfl
def ch2 (o o':D->D->Option W) (g h:FX):Option (W×Ev)->Option (W×Ev)
 | some p=>fChain o o' (fun _=>some p) g h p.2
 | none=>none
def ch3 (o o':D->D->Option W) (w:W) (h:FX):Option (W×Ev)->Option (W×Ev)
 | some q=>(dr q.2 w.fz).bind fun x=>(dr q.2 q.1.fz).bind fun y=>(o x y).bind fun d=>match d with
  | .v (.bl k)=>if k=true then(h q.2).bind fun z=>(dr z.2 q.1.fz).bind fun y=>(dr z.2 z.1.fz).bind fun z'=>(o' y z').map fun w=>(w,z.2) else some (.v (.bl false),q.2)
  | _=>none
 | none=>none
def ch4 (o o':D->D->Option W) (h:FX) (w:W) (ρ:Ev):Option D->Option D->Option (W×Ev)
 | some x,some y=>(o x y).bind fun d=>match d with
  | .v (.bl k)=>if k=true then(h ρ).bind fun z=>(dr z.2 w.fz).bind fun y=>(dr z.2 z.1.fz).bind fun z'=>(o' y z').map fun w=>(w,z.2) else some (.v (.bl false),ρ)
  | _=>none
 | _,_=>none
def ch5 (o':D->D->Option W) (h:FX) (w:W) (ρ:Ev):Option W->Option (W×Ev)
 | some (.v (.bl k))=>if k=true then bin3 o' w (h ρ) else some (.v (.bl false),ρ)
 | _=>none
theorem r_ch {o o':D->D->Option W}{h:FX}:fChain o o' f g h ρ=ch2 o o' g h (f ρ):=by unfold ch2;cases e:f ρ with
 | none=>unfold fChain;rw[e];rfl
 | some p=>unfold fChain;rw[e]
theorem r_ch2 {o o':D->D->Option W}{h:FX}:ch2 o o' g h (some (w,ρ))=ch3 o o' w h (g ρ):=by unfold ch2 ch3 fChain;dsimp only[bind_some];cases g ρ<;>rfl
theorem r_ch3 {o o':D->D->Option W}{h:FX}:ch3 o o' w h (some (z,ρ))=ch4 o o' h z ρ (dr ρ w.fz) (dr ρ z.fz):=by
 unfold ch3 ch4;dsimp only;cases dr ρ w.fz<;>cases dr ρ z.fz<;>rfl
theorem r_ch4 {o o':D->D->Option W}{h:FX}:ch4 o o' h w ρ (some x) (some y)=ch5 o' h w ρ (o x y):=by
 unfold ch4 ch5 bin3;dsimp only;cases o x y with
 | none=>rfl
 | some d=>
  dsimp only[bind_some];cases d with
  | v d=>cases d with
   | bl k=>cases h ρ<;>rfl
   | _=>rfl
  | _=>rfl
theorem r_ch5_t {o':D->D->Option W}{h:FX}:ch5 o' h w ρ (some (.v (.bl true)))=bin3 o' w (h ρ):=rfl
theorem r_ch5_f {o':D->D->Option W}{h:FX}:ch5 o' h w ρ (some (.v (.bl false)))=some (.v (.bl false),ρ):=rfl
def tc2 (k:Nat) (t:FT) (fe:FX):Option Ev->Option Ev
 | some ρ1=>(t ρ1).bind fun p=>if p.1=true then(fe p.2).bind (appTo k) else some p.2
 | none=>none
def tc3 (k:Nat) (fe:FX):Option (Bool×Ev)->Option Ev
 | some p=>if p.1=true then(fe p.2).bind (appTo k) else some p.2
 | none=>none
def tc4 (k:Nat):Option (W×Ev)->Option Ev
 | some p=>appTo k p
 | none=>none
def ap2 (k:Nat):Option (List D×Ev)->Option Ev
 | some q=>match q.1,ownAt q.2 k with
  | [d],some (.lst zs)=>if zs.length<lim then some (setOwn q.2 k (.lst (zs++[d]))) else none
  | _,_=>none
 | none=>none
def ap3 (k:Nat) (d:D) (ρ:Ev):Option D->Option Ev
 | some (.lst zs)=>if zs.length<lim then some (setOwn ρ k (.lst (zs++[d]))) else none
 | _=>none
theorem r_tc {gf:FG}{fe:FX}:turnC k gf t fe d ρ=tc2 k t fe (gf d ρ):=by unfold turnC tc2;cases gf d ρ<;>rfl
theorem a66 {fe:FX}:tc2 k t fe (some ρ)=tc3 k fe (t ρ):=by unfold tc2 tc3;dsimp only;cases t ρ<;>rfl
theorem a17 {fe:FX}:tc3 k fe (some (true,ρ))=tc4 k (fe ρ):=by unfold tc3 tc4;simp only[jD];cases fe ρ<;>rfl
theorem a1R {fe:FX}:tc3 k fe (some (false,ρ))=some ρ:=rfl
theorem a69:tc4 k (some (w,ρ))=ap2 k (takeAll ρ [w.fz]):=by
 unfold tc4 appTo ap2;dsimp only;cases takeAll ρ [w.fz]<;>rfl
theorem a7l:ap2 k (some ([d],ρ))=ap3 k d ρ (ownAt ρ k):=by
 unfold ap2 ap3;dsimp only;cases ownAt ρ k with
 | none=>rfl
 | some x=>cases x<;>rfl
theorem a7w:ap3 k d ρ (some (.lst xs))=if xs.length<lim then some (setOwn ρ k (.lst (xs++[d]))) else none:=rfl
theorem a3B {C:Prop}{b:D->FS}{r:Option R}(e:loopF b xs ρ=r)(I:List D->Ev->Prop)(h0:I [] ρ)(st:∀d x ρ,x∈xs->d.length<xs.length->I d ρ->∃ρ',b x ρ=some (.nx ρ')/\I (d++[x]) ρ')(c:∀ρ',r=some (.nx ρ')->I xs ρ'->C):C:=by
 have key:∀(ys done:List D) (ρ:Ev),(∀y∈ys,y∈xs)->done.length+ys.length=xs.length->I done ρ->∃ρ',loopF b ys ρ=some (.nx ρ')/\I (done++ys) ρ':=by
  intro ys
  induction ys with
  | nil=>intro done ρ _ _ h;exact⟨ρ,rfl,by rw[xP];exact h⟩
  | cons y ys ih=>
   intro done ρ hm hl h;rw[qC] at hl;obtain⟨ρ1,e1,i1⟩:=st done y ρ (hm y zR) (by walk_at "o") h
   obtain⟨ρ2,e2,i2⟩:=ih (done++[y]) ρ1 (fun a ha=>hm a (zN _ ha)) (by rw[zO,List.length_singleton];walk_at "o") i1
   exact⟨ρ2,by rw[loopF,e1];exact e2,by rw[qR] at i2;exact i2⟩
 obtain⟨ρ',e',i⟩:=key xs [] ρ (fun _ h=>h) (by simp) h0
 exact c ρ' (e.symm.trans e') (by simpa using i)
theorem W8 {C:Prop}{fi:FI}{js:List (Option Nat)}{gf:FG}{fe:FX}{r:Option (W×Ev)}(e:fComp fi (some (i,j)) js gf t fe ρ=r)(I:List D->Ev->List D->Prop)(ei:fi ρ=some (xs,ρ1))(hl:xs.length<=lim)(hj:(ownAt ρ1 j).isSome=true)
  (hI:∀d B zs,I d B zs->B.length=js.length) (h0:I [] (capE (some j) js ρ1) []) (st:∀d x B zs,x∈xs->I d B zs->zs.length<lim->∃B' zs',turnC js.length gf t fe x (B++acc zs)=some (B'++acc zs')/\I (d++[x]) B' zs'/\zs'.length<=zs.length+1)
  (fin:∀B zs,I xs B zs->lfL zs=true/\∃c,ownAt (B++acc zs) i=some c/\lfC c=true) (c:∀B zs c,I xs B zs->ownAt (B++acc zs) i=some c->r=some (.o (.lst zs),setOwn ρ1 j c)->C):C:=by
 have key:∀(ys done:List D) (B:Ev) (zs:List D),(∀y∈ys,y∈xs)->I done B zs->zs.length+ys.length<=lim->∃B' zs',loopC (turnC js.length gf t fe) ys (B++acc zs)=some (B'++acc zs')/\I (done++ys) B' zs':=by
  intro ys
  induction ys with
  | nil=>intro done B zs _ h _;exact⟨B,zs,rfl,by rw[xP];exact h⟩
  | cons y ys ih=>
   intro done B zs hm h hl;rw[qC] at hl;obtain⟨B1,z1,e1,i1,l1⟩:=st done y B zs (hm y zR) h (by walk_at "o")
   obtain⟨B2,z2,e2,i2⟩:=ih (done++[y]) B1 z1 (fun a ha=>hm a (zN _ ha)) i1 (by walk_at "o")
   exact⟨B2,z2,by rw[loopC,e1];exact e2,by rw[qR] at i2;exact i2⟩
 obtain⟨B,zs,e1,i1⟩:=key xs [] _ [] (fun _ h=>h) h0 (by rw[length_nil];walk_at "o")
 rw[nil_append] at i1;obtain⟨l1,c0,o1,lc⟩:=fin B zs i1;refine c B zs c0 i1 o1 ?_;rw[<-e];unfold fComp;rw[ei];simp only[bind_some,liB,hj,jD,jS];rw[show capE (some j) js ρ1++[some (.l (.lst []))]=capE (some j) js ρ1++acc [] from rfl,e1];simp only[bind_some,a1K (hI _ _ _ i1),backG,show lfC (.lst zs)=true from l1,jD,o1,lc]
theorem v4 (ns:List Int):lfL (ns.map D.int)=true:=by
 induction ns with
 | nil=>rfl
 | cons n ns ih=>rw[zQ,lfL,ih];rfl
theorem K4 (m:Int)(n:Nat):(rngD m n).length=n:=by unfold rngD;simp
theorem P7 {m:Int}{n:Nat}(h:x∈rngD m n):∃i:Int,x= .int i/\m<=i/\i<m+n:=by
 unfold rngD at h;obtain⟨i,hi,rfl⟩:=jJ.mp h;rw[mem_range] at hi;exact⟨_,rfl,by walk_at "o",by walk_at "o"⟩
theorem s0 (h:0<n)(h2:n.natAbs<2^64):dOk n:=⟨h,zG h2 (zT (by decide) (by decide))⟩
end
theorem a0S {o:Option D}:freeO (o.map W.v)=true:=by cases o<;>rfl
def isI:D->Bool
 | .int _=>true
 | .bl _=>true
 | _=>false
def isB:D->Bool
 | .bl _=>true
 | _=>false
def isT:D->Bool
 | .tup _=>true
 | _=>false
def whole:D->Bool
 | .int _=>true
 | _=>false
theorem a7z {d:D}(h:isX d=false):oIsi "int" d=some (.v (.bl (isI d))):=by cases d<;>first|rfl|cases h
theorem a6d {d:D}(h:isX d=false):oIsi "bool" d=some (.v (.bl (isB d))):=by cases d<;>first|rfl|cases h
theorem a4Y {d:D}(h:isX d=false):oIsi "tuple" d=some (.v (.bl (isT d))):=by cases d<;>first|rfl|cases h
def rise:List Int->Bool
 | a::b::r=>decide (a<b)&&rise (b::r)
 | _=>true
theorem a70 {r:List Bool->Bool}{xs:List D}{bs:List Bool}(h:boolsOf xs=some bs):gBools r (.lst xs)=some (.v (.bl (r bs))):=by unfold gBools;simp only[h,jS]
theorem a1a (f:D->Bool)(xs:List D):boolsOf (xs.map fun d=>D.bl (f d))=some (xs.map f):=by
 have:(xs.map fun d=>D.bl (f d))=(xs.map f).map D.bl:=by rw[jK];rfl
 rw[this,O2]
theorem a1P {α:Type}(f:α->Bool)(xs:List α):(xs.map f).all id=xs.all f:=by rw[List.all_map];rfl
theorem a7E {xs:List D}{i:Int}{d:D}(h:0<=i)(e:xs[i.toNat]? =some d):atI xs i=some d:=by
 have:=m8 (j:=i.toNat) e
 rwa [show((i.toNat:Nat):Int)=i by walk_at "o"] at this
theorem a6h {ns:List Int}{i:Int}(h:0<=i)(l:i<ns.length):atI (ns.map D.int) i=some (.int (ns.getD i.toNat 0)):=by
 refine a7E h ?_;rw[qE,xD,jY (by walk_at "o")]
 rfl
theorem G3:∀{xs:List D},(∀x∈xs,lf x=true)->lfL xs=true
 | [],_=>rfl
 | x::xs,h=>by rw[lfL,h x zR,G3 fun y hy=>h y (zN _ hy)];rfl
section
variable {d:D}{ds:List D}{x0:D}{x1:D}{x2:D}{x3:D}{x4:D}{x5:D}{x6:D}{x7:D}{x8:D}{x9:D}{x10:D}{x11:D}{x12:D}
theorem a_3:atI (x0::x1::x2::d::ds) 3=some d:=m8 (j:=3) rfl
theorem a_4:atI (x0::x1::x2::x3::d::ds) 4=some d:=m8 (j:=4) rfl
theorem a_5:atI (x0::x1::x2::x3::x4::d::ds) 5=some d:=m8 (j:=5) rfl
theorem a_6:atI (x0::x1::x2::x3::x4::x5::d::ds) 6=some d:=m8 (j:=6) rfl
theorem a_7:atI (x0::x1::x2::x3::x4::x5::x6::d::ds) 7=some d:=m8 (j:=7) rfl
theorem a_8:atI (x0::x1::x2::x3::x4::x5::x6::x7::d::ds) 8=some d:=m8 (j:=8) rfl
theorem a_9:atI (x0::x1::x2::x3::x4::x5::x6::x7::x8::d::ds) 9=some d:=m8 (j:=9) rfl
theorem a_10:atI (x0::x1::x2::x3::x4::x5::x6::x7::x8::x9::d::ds) 10=some d:=m8 (j:=10) rfl
theorem a_11:atI (x0::x1::x2::x3::x4::x5::x6::x7::x8::x9::x10::d::ds) 11=some d:=m8 (j:=11) rfl
theorem a_12:atI (x0::x1::x2::x3::x4::x5::x6::x7::x8::x9::x10::x11::d::ds) 12=some d:=m8 (j:=12) rfl
theorem a_13:atI (x0::x1::x2::x3::x4::x5::x6::x7::x8::x9::x10::x11::x12::d::ds) 13=some d:=m8 (j:=13) rfl
theorem ix_0 {n:Nat}:ixN (n+1) 0=some 0:=by unfold ixN;rw[if_pos (Int.le_refl _),if_pos (by walk_at "o")];rfl
end
def dkey:D->Option Key
 | .int i=>some (Sum.inl i)
 | .str x=>some (Sum.inr x)
 | _=>none
def dkeys:List D->Option (List Key)
 | []=>some []
 | d::ds=>(dkey d).bind fun k=>(dkeys ds).map fun ks=>k::ks
def tkey:D->Option (List Key)
 | .tup ds=>dkeys ds
 | _=>none
def look {κ:Type} [DecidableEq κ]:List κ->List D->κ->Option D
 | k'::ks,x::xs,k=>if k'=k then some x else look ks xs k
 | _,_,_=>none
def putKs {κ:Type} [DecidableEq κ] (ks:List κ) (k:κ):List κ:=if k∈ks then ks else ks++[k]
def putX {κ α:Type} [DecidableEq κ] (ks:List κ) (xs:List α) (k:κ) (d:α):List α:=if k∈ks then List.zipWith (fun k' x=>if k'=k then d else x) ks xs else xs++[d]
theorem a1e {K:PySem.W.Frag}{A:Av}{H:Hp}{d:D}{k:Key}{v:V}(e:dkey d=some k)(h:DenR K A H d v):v=kV k:=by
 cases d with
 | int i=>cases e;exact g4 h
 | str x=>cases e;exact a06 h
 | _=>cases e
theorem X1 {K:PySem.W.Frag}{A:Av}{H:Hp}:∀{ds:List D} {ks:List Key} {vs:List V},dkeys ds=some ks->DenL K A H ds vs->vs=ks.map kV
 | [],ks,vs,e,l=>by cases e;rw[DenL] at l;rw[l];rfl
 | d::ds,ks,vs,e,l=>by
  rw[DenL] at l;obtain⟨v,r,rfl,h,l⟩:=l;rw[dkeys] at e;cases e1:dkey d with
  | none=>rw[e1] at e;cases e
  | some k=>
   cases e2:dkeys ds with
   | none=>rw[e1,e2] at e;cases e
   | some js=>
    rw[e1,e2] at e;cases e;rw[zQ,<-a1e e1 (A9 h),<-X1 e2 l]
theorem a1c {K:PySem.W.Frag}{A:Av}{H:Hp}{d:D}{k:List Key}{v:V}(e:tkey d=some k)(h:DenR K A H d v):∃b,v= .ref b/\SqT K H b (k.map kV):=by
 cases d with
 | tup ds=>
  obtain⟨b,vs,ev,hq,l⟩:=t4 h;rw[X1 e l] at hq;exact⟨b,ev,hq⟩
 | _=>cases e
theorem S5 {κ:Type} [DecidableEq κ] {K:PySem.W.Frag}{A:Av}{H:Hp}:∀{ks:List κ} {xs:List D} {vs:List V} {k:κ} {x:D},DenL K A H xs vs->look ks xs k=some x->∃v,valV (ks.zip vs) k=some v/\Den K A H x v
 | [],_,_,_,_,_,e=>by simp[look] at e
 | _::_,[],_,_,_,_,e=>by simp[look] at e
 | k'::ks,x0::xs,vs,k,x,l,e=>by
  rw[DenL] at l;obtain⟨v,r,rfl,h,l⟩:=l;simp only[look] at e;rw[jO];split at e
  ·rename_i q;cases e;exact⟨v,K3 (by simpa using q),h⟩
  ·rename_i q;rw[F3 (by simpa using q)]
   exact S5 l e
theorem M6 {κ:Type} [DecidableEq κ] {K:PySem.W.Frag}{A:Av}{H:Hp}:∀{ks:List κ} {xs:List D} {vs:List V} {k:κ},DenL K A H xs vs->ks.length=xs.length->look ks xs k=none->valV (ks.zip vs) k=none
 | [],_,_,_,_,_,_=>by simp[valV]
 | _::_,[],_,_,_,hl,_=>by simp at hl
 | k'::ks,x0::xs,vs,k,l,hl,e=>by
  rw[DenL] at l;obtain⟨v,r,rfl,h,l⟩:=l;simp only[look] at e;rw[jO];split at e
  ·cases e
  ·rename_i q;rw[F3 (by simpa using q)]
   exact M6 l (by simpa using hl) e
theorem a2F {κ:Type} [DecidableEq κ]:∀{ks:List κ} {vs:List V} {k:κ},ks.length=vs.length->((ks.zip vs).any fun kv=>decide (kv.1=k))=decide (k∈ks)
 | [],_,_,_=>by simp
 | _::_,[],_,hl=>by simp at hl
 | k'::ks,v::vs,k,hl=>by
  rw[jO,any_cons,a2F (by simpa using hl)]
  by_cases q:k'=k
  ·simp[q]
  ·have q2:¬k=k':=fun z=>q z.symm;simp[q,q2]
theorem a6i {κ:Type} [DecidableEq κ] {ks:List κ}{vs:List V}{k:κ}{v:V}(hl:ks.length=vs.length):putK (ks.zip vs) k v=(putKs ks k).zip (putX ks vs k v):=by
 unfold putK putKs putX;rw[a2F hl]
 by_cases q:k∈ks
 ·rw[if_pos (by simpa using q),if_pos q,if_pos q]
  clear q
  induction ks generalizing vs with
  | nil=>simp
  | cons k' ks ih=>
   cases vs with
   | nil=>simp at hl
   | cons w vs=>
    have ih':=ih (vs:=vs) (by simpa using hl)
    rw[jO,zQ,List.zipWith_cons_cons,jO,ih']
    by_cases q:k'=k
    ·simp[q]
    ·simp[q]
 ·rw[if_neg (by simpa using q),if_neg q,if_neg q,List.zip_append hl]
  rfl
theorem a0I {κ α:Type} [DecidableEq κ] {ks:List κ}{xs:List α}{k:κ}{d:α}(hl:ks.length=xs.length):(putKs ks k).length=(putX ks xs k d).length:=by
 unfold putKs putX
 split
 ·rw[List.length_zipWith,hl];simp
 ·simp[hl]
theorem a4O {κ:Type} [DecidableEq κ] {K:PySem.W.Frag}{A:Av}{H:Hp}{ks:List κ}{xs:List D}{vs:List V}{k:κ}{d:D}{v:V}(l:DenL K A H xs vs)(h:Den K A H d v):DenL K A H (putX ks xs k d) (putX ks vs k v):=by
 unfold putX
 split
 ·rename_i q;clear q
  induction ks generalizing xs vs with
  | nil=>simp;exact c9
  | cons k' ks ih=>
   cases xs with
   | nil=>rw[DenL] at l;subst l;simp;exact c9
   | cons x xs=>
    rw[DenL] at l;obtain⟨u,r,rfl,hx,l⟩:=l;rw[List.zipWith_cons_cons,List.zipWith_cons_cons];refine b9 ?_ (ih l)
    split
    ·exact h
    ·exact hx
 ·exact o7 l (b9 h c9)
section
variable {X:Cx}{a b c e o:Expr}{es:List Expr}{pos p:Pos}{f g h:FX}{t u:FT}{fa:FA}{x:Str}
theorem a2D {pins:List (Addr×PySem.Obj)}{σ:L2.St}{H:Hp}{s:Shared}{b:Addr}{ks:List Key}(I:Inv X pins σ H s)(q:SqT X.K H b (ks.map kV)):(tupleKind (mixKind X.prog X.w)).is s.heap ks b:=by
 obtain⟨its,r,⟨o,h1,h2,n,h3⟩,_⟩:=I.tuple q;exact⟨o,its.toArray,n,h1,h2,h3,by simpa using G6 r⟩
def DGe (K:PySem.W.Frag) (H:Hp) (a:Addr) (y:V) (r:Option V):Prop:=
 (∃kvs k,H a=some (.dK kvs)/\y=kV k/\r=valV kvs k)\/∃kvs k b,H a=some (.dT kvs)/\y= .ref b/\SqT K H b (k.map kV)/\r=valV kvs k
def lookG (x y:D):Option (Option D):=match x with
 | .dT ks xs=>(tkey y).map fun k=>look ks xs k
 | .dK ks xs=>(dkey y).map fun k=>look ks xs k
 | _=>none
def LkOk (K:PySem.W.Frag) (A:Av) (H:Hp):Option D->Option V->Prop
 | some d,w=>∃z,w=some z/\Den K A H d z
 | none,w=>w=none
theorem U9 {A:Av}{H:Hp}{x y:D}{r:Option D}{v u:V}(e:lookG x y=some r)(hx:DenR X.K A H x v)(hy:DenR X.K A H y u):∃a w,v= .ref a/\DGe X.K H a u w/\LkOk X.K A H r w:=by
 cases x with
 | dT ks xs=>
  simp only[lookG] at e;cases e1:tkey y with
  | none=>rw[e1] at e;cases e
  | some k=>
   rw[e1] at e;obtain⟨b,rfl,hb⟩:=a1c e1 hy;obtain⟨a,vs,rfl,ha,hl,l⟩:=hx;refine⟨a,_,rfl,.inr ⟨_,k,b,ha,rfl,hb,rfl⟩,?_⟩;cases(show look ks xs k=r from qS e);cases e2:look ks xs k with
   | none=>exact M6 l hl e2
   | some d=>exact S5 l e2
 | dK ks xs=>
  simp only[lookG] at e;cases e1:dkey y with
  | none=>rw[e1] at e;cases e
  | some k=>
   rw[e1] at e;obtain⟨a,vs,rfl,ha,hl,l⟩:=hx;refine⟨a,_,rfl,.inl ⟨_,k,ha,a1e e1 hy,rfl⟩,?_⟩;cases(show look ks xs k=r from qS e);cases e2:look ks xs k with
   | none=>exact M6 l hl e2
   | some d=>exact S5 l e2
 | _=>cases e
def rIxD (K:PySem.W.Frag):R2:=fun x y H Q=>∃a v,x= .ref a/\DGe K H a y (some v)/\Q v H
theorem a6o {k:Nat}(hr:Room k X.A):IxR X (rIxD X.K):=by
 intro value slice pins s σ H x y v u Q I rx ry h hs;obtain⟨a,z,rfl,hg,q⟩:=h;cases rx;rcases hg with ⟨kvs,k,ha,rfl,hv⟩|⟨kvs,k,b,ha,rfl,hq,hv⟩
 ·obtain⟨_,hd,vs,rel,dd⟩:=a6K I.hok ha;obtain⟨w',hw,rw'⟩:=RelO.some_of (v:=z) (o:=valueAt vs k) (by rw[hv];exact rel.val k)
  refine xS (x:=w') dd.typeIs PySem.F.slot_dict_getitem.lookup ?_ hs;exact wpAny_getItem_of (a1W ry) dd.mapOf hw ⟨rfl,z,H,I.tok _,rw',q⟩
 ·cases(show u=Value.ref b from ry);obtain⟨_,hd,xs,rel,dd⟩:=a64 I.kIn I.hok ha;obtain⟨w',hw,rw'⟩:=RelO.some_of (v:=z) (o:=(atKey xs k).map (·.2)) (by rw[hv];exact rel.val k)
  obtain⟨p,hp,hp2⟩:=Option.map_eq_some_iff.mp hw;refine xS (x:=w') dd.typeIs PySem.F.slot_dict_getitem.lookup ?_ hs;refine wpAny_getItem_heap (tupleKind_room_in1 (a48 hr)) (a2D I hq) dd hp ?_;rw[hp2];exact⟨rfl,z,H,I.tok _,rw',q⟩
def isDi:D->Bool
 | .dT _ _=>true
 | .dK _ _=>true
 | _=>false
def oIxG (x y:D):Option W:=if isDi x=true then(lookG x y).bind fun r=>r.map .v else oIx x y
theorem j7 {k:Nat}(hr:Room k X.A)(ha:QX X a f)(hb:QX X b g)(hs:PlainIx b:=by intro _ _;rfl):QX X (.Subscript a b pos) (fBin oIxG f g):=⟨PE.weak (pe_ix (a8y.or (a6o hr)) ha.to hb.to hs) (S3 (by
 intro A x y w v u H Q hA e hx hy q;unfold oIxG at e;split at e
 ·obtain⟨r,e1,e⟩:=obs e;obtain⟨a,w',rfl,hg,hm⟩:=U9 e1 hx hy;cases r with
  | none=>cases e
  | some d=>
   cases e;obtain⟨z,rfl,dz⟩:=hm;exact .inr ⟨a,z,rfl,hg,q z H (Same.refl H) dz⟩
 ·exact .inl (k_ix A x y w v u H Q hA e hx hy q)))⟩
def rInD (K:PySem.W.Frag) (neg:Bool):R2:=fun y x H Q=>∃a r,x= .ref a/\DGe K H a y r/\Q (.bl (if neg then !r.isSome else r.isSome)) H
theorem a7B {k:Nat}(hr:Room k X.A):OpR X (compareOp .In) (rInD X.K false):=by
 intro pins s σ H y x u v Q I ry rx h;obtain⟨a,r,rfl,hg,q⟩:=h;cases rx;rcases hg with ⟨kvs,k,e,rfl,rfl⟩|⟨kvs,k,b,e,rfl,hq,rfl⟩
 ·obtain⟨_,hd,vs,rel,dd⟩:=a6K I.hok e;refine wpAny_in_of (a1W ry) hd dd.mapOf ?_;rw[<-(rel.val k).isSome_eq];exact⟨.bl _,H,I.tok _,rfl,q⟩
 ·cases(show u=Value.ref b from ry);obtain⟨_,hd,xs,rel,dd⟩:=a64 I.kIn I.hok e;refine wpAny_in_heap (tupleKind_room_in1 (a48 hr)) (a2D I hq) hd dd ?_;have z:=(rel.val k).isSome_eq;rw[isSome_map] at z;rw[<-z];exact⟨.bl _,H,I.tok _,rfl,q⟩
def intV:Value->Int
 | .int i _=>i
 | _=>0
def readI (h:Heap):Value->Option (List Int)
 | .ref a=>match h.get? a with
  | some o=>match o.data with
   | .seq its _=>some (its.toList.map intV)
   | _=>none
  | none=>none
 | _=>none
theorem V5:∀{k:List Int} {its:List Value},Vals (k.map V.int) its->its.map intV=k
 | [],_,r=>by cases r;rfl
 | i::k,_,r=>by
  cases r with
  | cons r1 r2=>
   obtain⟨t,rfl⟩:=r1;rw[zQ,V5 r2];rfl
theorem N3 {m:Nat}:∀(a b:List Int),deqL (deq m) (a.map D.int) (b.map D.int)=some (decide (a=b))
 | [],[]=>rfl
 | [],_::_=>rfl
 | _::_,[]=>rfl
 | x::a,y::b=>by
  have ih:=N3 (m:=m) a b;have e:deq m (.int x) (.int y)=some (x==y):=by cases m<;>rfl
  simp only[zQ,deqL,e,ih,bind_some,jS];congr 1
  by_cases h:x=y
  ·simp[h]
  ·simp[h]
def tupI (k:List Int):D:=.tup (k.map D.int)
theorem a3Y {m:Nat}(a b:List Int):deq (m+1) (tupI a) (tupI b)=some (decide (a=b)):=N3 a b
def tupsOf:List D->Option (List (List Int))
 | []=>some []
 | .tup ds::xs=>(intsOf ds).bind fun k=>(tupsOf xs).map fun ks=>k::ks
 | _=>none
theorem X3:∀{ds:List D} {ks:List (List Int)},tupsOf ds=some ks->ds=ks.map tupI
 | [],ks,e=>by cases e;rfl
 | .tup d::ds,ks,e=>by
  rw[tupsOf] at e;cases e1:intsOf d with
  | none=>rw[e1] at e;cases e
  | some k=>
   cases e2:tupsOf ds with
   | none=>rw[e1,e2] at e;cases e
   | some js=>rw[e1,e2] at e;cases e;rw[zQ,<-X3 e2,t9 e1];rfl
 | .non::ds,_,e=>by cases e
 | .bl _::ds,_,e=>by cases e
 | .int _::ds,_,e=>by cases e
 | .str _::ds,_,e=>by cases e
 | .lst _::ds,_,e=>by cases e
 | .dT _ _::ds,_,e=>by cases e
 | .dK _ _::ds,_,e=>by cases e
 | .exn _::ds,_,e=>by cases e
 | .fn _::ds,_,e=>by cases e
theorem R9:∀ks:List (List Int),tupsOf (ks.map tupI)=some ks
 | []=>rfl
 | k::ks=>by rw[zQ,show tupI k= .tup (k.map D.int) from rfl,tupsOf,R6,R9 ks];rfl
def rInT (K:PySem.W.Frag) (neg:Bool):R2:=fun x y H Q=>∃(A:Av) (k:List Int) (ks:List (List Int)) (p:Addr) (vs:List V),DenR K A H (tupI k) x/\y= .ref p/\(SqL K H p vs\/SqT K H p vs)/\DenL K A H (ks.map tupI) vs/\Q (.bl (if neg then !decide (k∈ks) else decide (k∈ks))) H
theorem Q8 {k0:Nat}{A:Av}(hr:Room k0 X.A){pins:List (Addr×PySem.Obj)}{σ:L2.St}{H:Hp}{s:Shared}(I:Inv X pins σ H s){k:List Int}{x:V}{v:Value}(hx:DenR X.K A H (tupI k) x)(rx:RelV x v):∀{ks:List (List Int)} {vs:List V} {us:List Value},DenL X.K A H (ks.map tupI) vs->Vals vs us->
  (∀y∈us,SeqAt.EqAt X.A.in1 s y v (decide (readI s.heap y=some k)))/\(us.any fun y=>decide (readI s.heap y=some k))=decide (k∈ks)
 | [],vs,us,l,r=>by
  rw[map_nil,DenL] at l;subst l;cases r;exact⟨fun y hy=>by simp at hy,by simp⟩
 | k'::ks,vs,us,l,r=>by
  rw[zQ,DenL] at l;obtain⟨z,rs,rfl,hz,l⟩:=l;cases r with
  | cons r1 r2=>
   rename_i u us;obtain⟨i1,i2⟩:=Q8 hr I hx rx l r2;have hz':=hz;rw[show tupI k'= .tup (k'.map D.int) from rfl,Den] at hz';obtain⟨c,ws,rfl,hq,lw⟩:=hz';rw[p0 lw] at hq;cases(show u=Value.ref c from r1);obtain⟨its,r3,⟨o,ho,_,n,hd⟩,_⟩:=I.tuple hq;have er:readI s.heap (.ref c)=some k':=by
    unfold readI;dsimp only;rw[ho];dsimp only;rw[hd];dsimp only;rw[V5 r3]
   have eq:SeqAt.EqAt X.A.in1 s (.ref c) v (decide (readI s.heap (.ref c)=some k)):=by
    rw[er];have z:=(Z6 I 20 X.A.in1 (by have:=hr.units;show X.A.units+1+20+1<_;walk_at "o") (tupI k') (tupI k) (.ref c) x (.ref c) v _ (a3Y k' k) (A9 hz) hx rfl rx).1
    have e2:decide (some k'=some k)=decide (k'=k):=by simp
    rw[e2];exact z
   refine⟨fun y hy=>?_,?_⟩
   ·rcases qG.mp hy with rfl|hy
    ·exact eq
    ·exact i1 y hy
   ·rw[any_cons,i2,er]
    by_cases h:k'=k
    ·simp[h]
    ·have h':¬k=k':=fun z=>h z.symm;simp[h,h']
theorem a7T {k0:Nat}(hr:Room k0 X.A):OpR X (compareOp .In) (rInT X.K false):=by
 intro pins s σ H x y v u Q I rx ry ⟨A,k,ks,p,vs,hx,ey,hq,l,q⟩;subst ey;cases ry;rcases hq with hq|hq
 ·obtain⟨its,r,pl,hz⟩:=I.list hq;obtain⟨c1,c2⟩:=Q8 hr I hx rx l r;refine SeqAt.in_listAt (fun y=>decide (readI s.heap y=some k)) pl.isList (fun w hw=>c1 w (by simpa using hw)) ⟨.bl _,H,I,rfl,?_⟩
  rw[show(its.toArray.any fun y=>decide (readI s.heap y=some k))=(its.any fun y=>decide (readI s.heap y=some k)) by simp,c2]
  exact q
 ·obtain⟨its,r,pl,hz⟩:=I.tuple hq;obtain⟨c1,c2⟩:=Q8 hr I hx rx l r;refine SeqAt.in_tupleAt (fun y=>decide (readI s.heap y=some k)) pl (fun w hw=>c1 w (by simpa using hw)) ⟨.bl _,H,I,rfl,?_⟩
  rw[show(its.toArray.any fun y=>decide (readI s.heap y=some k))=(its.any fun y=>decide (readI s.heap y=some k)) by simp,c2]
  exact q
def nb (neg k:Bool):W:=.v (.bl (if neg then !k else k))
def oInG (neg:Bool) (x y:D):Option W:=if isDi y=true then(lookG y x).map fun r=>nb neg r.isSome else match x with
 | .int i=>(items y).bind fun ys=>(intsOf ys).map fun ns=>nb neg (decide (i∈ns))
 | .tup ds=>(intsOf ds).bind fun k=>(items y).bind fun ys=>(tupsOf ys).map fun ks=>nb neg (decide (k∈ks))
 | _=>none
theorem kInG {neg:Bool}:Pr2 X (oInG neg) (fun x y H Q=>rIn X.K neg x y H Q\/rInD X.K neg x y H Q\/rInT X.K neg x y H Q):=by
 intro A x y w v u H Q hA e hx hy q;unfold oInG at e;split at e
 ·obtain⟨r,e1,e⟩:=oms e;cases e;obtain⟨a,w',rfl,hg,hm⟩:=U9 e1 hy hx;have es:w'.isSome=r.isSome:=by
   cases r with
   | none=>rw[show w'=none from hm];rfl
   | some d=>obtain⟨z,rfl,_⟩:=hm;rfl
  refine .inr (.inl ⟨a,w',rfl,hg,?_⟩);rw[es];exact q _ H (Same.refl H) t3
 ·split at e
  ·rename_i i;refine .inl (kInI A (.int i) y w v u H Q hA ?_ hx hy q);unfold oInI;exact e
  ·rename_i ds;cases e1:intsOf ds with
   | none=>rw[e1] at e;cases e
   | some k=>
    rw[e1] at e;simp only[bind_some] at e;cases e2:items y with
    | none=>rw[e2] at e;cases e
    | some ys=>
     rw[e2] at e;simp only[bind_some] at e;obtain⟨ks,e3,e⟩:=oms e;cases e;obtain⟨p,vs,rfl,hq,l⟩:=B0 e2 hy;rw[X3 e3] at l;rw[t9 e1] at hx;exact .inr (.inr ⟨A,k,ks,p,vs,hx,rfl,hq,l,q _ H (Same.refl H) t3⟩)
  ·cases e
theorem a74 {k:Nat}(hr:Room k X.A)(ha:QX X a f)(hb:QX X b g)(hm:behindInMarks .In b=false:=by rfl):QT X (.Compare a [.In] [b] pos) (fTest (fBin (oInG false) f g)):=M9 (a3A.or ((a7B hr).or (a7T hr))) kInG ha hb hm
def fGet (f:FX) (fa:FA):FX:=fun ρ=>(f ρ).bind fun p=>(dr p.2 p.1.fz).bind fun d=>if isDi d=true then(fa p.2).bind fun q=>(takeAll q.2 q.1).bind fun z=>(dr z.2 p.1.fz).bind fun x=>match z.1 with
  | [y,e]=>(lookG x y).map fun r=>(.v (r.getD e),z.2)
  | _=>none
 else none
end
open PySem PySem.W PyProof.Rows
section
variable {n:Nat}
structure PB (n:Nat) (p:Array Nat):Prop where
 perm:p.Perm (List.toArray (List.range n))
 pos:0<n
theorem PB.size {p:Array Nat}(h:PB n p):p.size=n:=by rw[h.perm.size_eq];simp
theorem PB.lt {p:Array Nat}(h:PB n p)(i:Nat):p.getD i 0<n:=by
 by_cases q:i<p.size
 ·have e:p.getD i 0=p[i]:=by simp[Array.getD,q]
  rw[e];have m:p[i]∈p.toList:=by simp
  have:=(jA.mp h.perm).mem_iff.mp m
  simpa using this
 ·have e:p.getD i 0=0:=by simp[Array.getD,q]
  rw[e];exact h.pos
end
def DRaw (h:Heap) (d:Addr) (es:Array DictEntry) (ep:Nat):Prop:=∃o,h.get? d=some o/\o.ExactDict/\o.data= .dict es ep
theorem DRaw.typeIs {s:Shared}{d:Addr}{es:Array DictEntry}{ep:Nat}(x:DRaw s.heap d es ep):s.TypeIs (.ref d) "dict":=let ⟨o,e,c,_⟩:=x;⟨o,e,c.1⟩
theorem DRaw.lt {h:Heap}{d:Addr}{es:Array DictEntry}{ep:Nat}(x:DRaw h d es ep):d<h.objs.size:=let ⟨_,e,_⟩:=x;qA e
theorem DRaw.on {h h':Heap}{d:Addr}{es:Array DictEntry}{ep:Nat}(x:DRaw h d es ep)(k:∀o,h.get? d=some o->h'.get? d=some o):DRaw h' d es ep:=let ⟨o,e,r⟩:=x;⟨o,k o e,r⟩
section
variable {prog:Program}{w:World}{A:Around}{E:Value->Shared->Prop}{s:Shared}{it d:Addr}{es:Array DictEntry}{i ep:Nat}
theorem a0R {Q:Value->Shared->Prop}(ns:(d==sysModules)=false)(hm:DRaw s.heap d es ep)
  (q:Q (.ref s.heap.objs.size) {s with heap:=s.heap.push {cls:=.type "dict_keyiterator",data:=.fields #[.ref d,.int 0 0,.int es.size 0,.int ep 0]}}):wpAny (model prog w) A (pyIter (.ref d)) Q E s:=by
 obtain⟨o,g0,gx,gd⟩:=id hm;have T:=hm.typeIs;refine wpAny_pyIter_slot T F.slot_dict_iter (jF F.slot_dict_iter T F.entry_dict_iter ?_ (F.args_dict_iter_1 _));unfold Builtin.«dict.__iter__»;refine zA ?_;unfold Builtin.Dict.dictSlotNone;refine zA (wpAny_notOrdered_dict T (zD ?_));show wpAny _ _ (Builtin.Dict.showsAll d >>=_) _ _ s;unfold Builtin.Dict.showsAll;rw[if_neg (by rw[ns];simp)]
 refine zA (zD (zA (wpAny_dictEntries g0 gd (zA (wpAny_dictEpoch g0 gd ?_)))));refine zA (jC (zD ⟨_,rfl,"dict_keyiterator",_,⟨_,qK _ rfl,rfl⟩,F.slot_dict_keyiterator_next.lookup,?_⟩));simpa [rawInt] using q
theorem a1d {Q:Option Value->Shared->Prop}{e:DictEntry}(hit:s.heap.IsKeyIter it d i es.size ep)(hm:DRaw s.heap d es ep)(he:es[i]? =some e)
  (q:∀h',h'.IsKeyIter it d (i+1) es.size ep->Heap.SameBut it s.heap h'->Q (some e.key) {s with heap:=h'}):wpAny (model prog w) A (pyNext (.ref it)) Q E s:=by
 obtain⟨o,t0,tc,td⟩:=id hit;obtain⟨od,g0,gx,gd⟩:=id hm;unfold pyNext;refine zA (wpAny_attempt (jI (name:=Str.ofString "__next__") hit.typeIs jH (jF jH hit.typeIs F.entry_dict_keyiterator_next ?_ (F.args_dict_keyiterator_next_1 _))));refine zA (zD (zA (zA ?_)))
 first|refine zA (jX hit.typeIs (zD (zA (wpAny_fieldsOf t0 td ?_))))|refine zA (xJ hit.typeIs (zD (zA (wpAny_fieldsOf t0 td ?_))))
 have own:Builtin.Dict_items.ownsTuple "dict_keyiterator"=false:=by decide
 simp only[own,qZ,xA];show wpAny _ _ (if(Value.ref d==Value.none)=true then _ else _) _ _ s;rw[if_neg (show ¬((Value.ref d==Value.none)=true) from zS)];refine zA (zD (zA (wpAny_dictEntries g0 gd ?_)));rw[if_neg (by simp)]
 refine zA (zD (zA (wpAny_dictEpoch g0 gd ?_)));rw[if_neg (by simp)]
 refine zD ?_;have lt:i<es.size:=by
  rcases Nat.lt_or_ge i es.size with z|z
  ·exact z
  ·rw[xT z] at he;cases he
 simp only[show ¬((i:Int)<0) from by walk_at "o",xA,xU,he]
 refine zA ?_
 first|refine zA (jX hit.typeIs (zD (zA (wpAny_isOneOf_keyiter hit.typeIs ?_))))|refine zA (xJ hit.typeIs (zD (zA (wpAny_isOneOf_keyiter hit.typeIs ?_))))
 show wpAny _ _ (setField (.ref it) 1 (rawInt ((i:Int)+1)) >>=_) _ _ s;refine zA (wpAny_setField t0 td (by simp) ?_)
 have up:(s.heap.update it (PySem.Obj.mapFields (·.setIfInBounds 1 (rawInt ((i:Int)+1))))).IsKeyIter it d (i+1) es.size ep:=⟨_,xI _ t0 (Obj.isFreed_of_fields (Obj.data_mapFields td _)),(Obj.cls_mapFields ..).trans tc,by rw[Obj.data_mapFields td];simp[rawInt]⟩
 refine zA (qO (zA (wpAny_isOneOf_keyiter (s:={s with heap:=s.heap.update it (PySem.Obj.mapFields (·.setIfInBounds 1 (rawInt ((i:Int)+1))))}) up.typeIs ?_)))
 show wpAny _ _ (pure e.key) _ _ _;exact zD (zD ⟨_,rfl,zD (q _ up (qX ..))⟩)
theorem a1S {Q:Option Value->Shared->Prop}(hh:A.handled=none)(hit:s.heap.IsKeyIter it d i es.size ep)(hm:DRaw s.heap d es ep)(he:es[i]? =none)
  (q:∀h',Heap.ExtBut it s.heap h'->Q none {s with heap:=h'}):wpAny (model prog w) A (pyNext (.ref it)) Q E s:=by
 obtain⟨o,t0,tc,td⟩:=id hit;obtain⟨od,g0,gx,gd⟩:=id hm;unfold pyNext;refine zA (wpAny_attempt (jI (name:=Str.ofString "__next__") hit.typeIs jH (jF jH hit.typeIs F.entry_dict_keyiterator_next ?_ (F.args_dict_keyiterator_next_1 _))));refine zA (zD (zA (zA ?_)))
 first|refine zA (jX hit.typeIs (zD (zA (wpAny_fieldsOf t0 td ?_))))|refine zA (xJ hit.typeIs (zD (zA (wpAny_fieldsOf t0 td ?_))))
 have own:Builtin.Dict_items.ownsTuple "dict_keyiterator"=false:=by decide
 simp only[own,qZ,xA];show wpAny _ _ (if(Value.ref d==Value.none)=true then _ else _) _ _ s;rw[if_neg (show ¬((Value.ref d==Value.none)=true) from zS)];refine zA (zD (zA (wpAny_dictEntries g0 gd ?_)));rw[if_neg (by simp)]
 refine zA (zD (zA (wpAny_dictEpoch g0 gd ?_)));rw[if_neg (by simp)]
 refine zD ?_;simp only[show ¬((i:Int)<0) from by walk_at "o",xA,xU,he]
 refine zA ?_
 first|refine zA (jX hit.typeIs (zD ?_))|refine zA (xJ hit.typeIs (zD ?_))
 show wpAny _ _ (setField (.ref it) 0 .none >>=_) _ _ s;refine zA (wpAny_setField t0 td (by simp) ?_)
 show wpAny _ _ (newExc (.type "StopIteration") [] >>=_) _ _ _;refine zA ?_;simp only[newExc,newTuple];refine zA (jC ?_ (by size_fits))
 refine zA (m:=firstArgMember _ _) (wpAny_of_eq (a:=Value.none) (by first|rfl|(simp only[firstArgMember];rfl)) (jC ?_ (by size_fits)))
 simp only[raiseNew];refine zA (wpAny_handled ?_);rw[show A.in1.handled=none from hh];refine zA (zD (wpAny_throw ?_));refine zA (wpAny_isInstance (b:=true) (T:="StopIteration") ⟨_,qK _ rfl,rfl⟩ isSubtype_stop ?_);exact zD (q _ (((qX ..).extBut.push _).push _))
theorem a3q (hh:A.handled=none)(I d:Addr)(hne:d≠I)(es:Array DictEntry)(ep:Nat):
  Walks prog w A I [I,d] [I] es.size (fun i v=>∃e,es[i]? =some e/\v=e.key) (fun i h=>h.IsKeyIter I d i es.size ep/\DRaw h d es ep) where
 sub:=fun b hb=>by simp at hb;simp[hb]
 frame:=fun _ _ _ st hk=>⟨st.1.at fun o e=>hk I (by simp) o e,st.2.on fun o e=>hk d (by simp) o e⟩
 item:=fun i s Q E hi st hQ=>a1d st.1 st.2 (e:=es[i]) (by simp[hi]) fun h' h1 h2=>hQ _ h' s.toks ⟨_,by simp[hi],rfl⟩ ⟨h1,st.2.on fun o e=>(h2.2 d hne).trans e⟩ fun b o hb e=>(h2.2 b (fun z=>hb (by simp[z]))).trans e
 done:=fun s Q E st hQ=>a1S hh st.1 st.2 (by simp) fun h' x=>hQ h' s.toks fun b o hb e=>x b o (fun z=>hb (by simp[z])) e
 self:=fun _ _ _ _ st hQ=>wpAny_pyIter_keyiter st.1 hQ
theorem a6q (ns:(d==sysModules)=false):KdlSrc prog w "dict" d d es.size (fun i v=>∃e,es[i]? =some e/\v=e.key) (fun h=>DRaw h d es ep) where
 type:=fun _ x=>x.typeIs
 there:=fun _ x=>⟨x.lt,x.lt⟩
 keep:=fun _ _ x hk=>x.on fun o e=>hk d (.inl rfl) o e
 notList:=by decide
 notTuple:=by decide
 hint:=fun _ _ _ _ x q=>kdl_hint_dict x.typeIs q
 iter:=fun _ _ hh x=>⟨_,_,(fun _ _ q=>a0R ns x q),a3q hh _ d (zW x.lt) es ep,⟨⟨_,qK _ rfl,rfl,rfl⟩,x.on fun o e=>zI _ e⟩⟩
end
theorem a0p:∀a:List Int,HT.lexLt a a=false
 | []=>rfl
 | x::a=>by rw[HT.lexLt_cons,if_pos rfl];exact a0p a
theorem X0:∀a b c:List Int,HT.lexLt a b=true->HT.lexLt b c=true->HT.lexLt a c=true
 | [],[],_,h,_=>by cases h
 | [],_::_,[],_,h=>by cases h
 | [],_::_,_::_,_,_=>rfl
 | _::_,[],_,h,_=>by cases h
 | _::_,_::_,[],_,h=>by cases h
 | x::a,y::b,z::c,h,h'=>by
  rw[HT.lexLt_cons] at h h' ⊢
  by_cases e1:x=y
  ·by_cases e2:y=z
   ·rw[if_pos e1] at h;rw[if_pos e2] at h';rw[if_pos (e1.trans e2)];exact X0 a b c h h'
   ·rw[if_neg e2] at h';rw[if_neg (fun q=>e2 (e1.symm.trans q)),e1];exact h'
  ·rw[if_neg e1] at h;have h1:=of_decide_eq_true h
   by_cases e2:y=z
   ·rw[if_neg (fun q=>e1 (q.trans e2.symm)),<-e2];exact h
   ·rw[if_neg e2] at h';have h2:=of_decide_eq_true h';rw[if_neg (by omega)]
    exact qH (by omega)
theorem a2l:∀a b c:List Int,HT.lexLt a c=true->HT.lexLt a b=true\/HT.lexLt b c=true
 | [],[],_,h=>.inr h
 | [],_::_,_,_=>.inl rfl
 | _::_,_,[],h=>by cases h
 | _::_,[],_::_,_=>.inr rfl
 | x::a,y::b,z::c,h=>by
  rw[HT.lexLt_cons] at h ⊢;rw[HT.lexLt_cons]
  by_cases e1:x=y
  ·by_cases e2:y=z
   ·rw[if_pos (e1.trans e2)] at h;rw[if_pos e1,if_pos e2];exact a2l a b c h
   ·rw[if_neg (fun q=>e2 (e1.symm.trans q))] at h;rw[if_neg e2,<-e1];exact .inr h
  ·rw[if_neg e1]
   by_cases e2:x=z
   ·have e3:¬y=z:=fun q=>e1 (e2.trans q.symm);rw[if_neg e3];rcases Int.lt_or_gt_of_ne e1 with q|q
    ·exact .inl (qH q)
    ·exact .inr (qH (by omega))
   ·rw[if_neg e2] at h;have h1:=of_decide_eq_true h;rcases Int.lt_or_gt_of_ne e1 with q|q
    ·exact .inl (qH q)
    ·rw[if_neg (show ¬y=z by omega)];exact .inr (qH (by omega))
theorem Z4:∀a b:List Int,HT.lexLt a b=false->HT.lexLt b a=false->a=b
 | [],[],_,_=>rfl
 | [],_::_,h,_=>by cases h
 | _::_,[],_,h=>by cases h
 | x::a,y::b,h,h'=>by
  rw[HT.lexLt_cons] at h h'
  by_cases e:x=y
  ·rw[if_pos e] at h;rw[if_pos e.symm] at h';rw[e,Z4 a b h h']
  ·rw[if_neg e] at h;rw[if_neg (fun q=>e q.symm)] at h';have h1:=of_decide_eq_false h;have h2:=of_decide_eq_false h';walk_at "o"
inductive Tups (h:Heap):List Value->List (List Int)->Prop where
 | nil:Tups h [] []
 | cons {a:Addr} {its:Array Value} {k:List Int} {vs:List Value} {ks:List (List Int)} (t:IsTup h a its) (i:IntsAre its.toList k) (ne:k≠[]) (r:Tups h vs ks):Tups h (.ref a::vs) (k::ks)
theorem Tups.len {h:Heap}{vs:List Value}{ks:List (List Int)}(t:Tups h vs ks):vs.length=ks.length:=by
 induction t with
 | nil=>rfl
 | cons _ _ _ _ ih=>simp[ih]
theorem Tups.on {h h':Heap}{vs:List Value}{ks:List (List Int)}(t:Tups h vs ks)(k:∀a o,(.ref a)∈vs->h.get? a=some o->h'.get? a=some o):Tups h' vs ks:=by
 induction t with
 | nil=>exact .nil
 | cons x i ne r ih=>
  obtain⟨o,e,c⟩:=x;exact .cons ⟨o,k _ o zR e,c⟩ i ne (ih fun a o m e=>k a o (zN _ m) e)
theorem Tups.at {h:Heap}{vs:List Value}{ks:List (List Int)}(t:Tups h vs ks):∀{i:Nat},i<vs.length->∃a its,vs.getD i .none= .ref a/\IsTup h a its/\IntsAre its.toList (ks.getD i [])/\ks.getD i []≠[]:=by
 induction t with
 | nil=>intro i hi;simp at hi
 | cons x i ne r ih=>
  intro j hj;cases j with
  | zero=>exact⟨_,_,rfl,x,i,ne⟩
  | succ j=>exact ih (i:=j) (by simpa using hj)
section
variable {prog:Program}{w:World}{A:Around}{E:Value->Shared->Prop}{s:Shared}{D:Addr}{vs:List Value}
theorem a1o {Q:Value->Shared->Prop}(hD:s.heap.get? D=some (listOf vs.toArray 0))(h2:vs.length<2)
  (q:∀(h':Heap) (e:Nat),(∀b o,b≠D->s.heap.get? b=some o->h'.get? b=some o)->h'.get? D=some (listOf vs.toArray e)->Q .none {s with heap:=h'}):
  wpAny (model prog w) A (call (.builtin "list.sort") [.ref D]) Q E s:=by
 refine jF slot_list_sort ⟨_,hD,rfl⟩ entry_list_sort ?_ (args_list_sort _);rw[list_sort_plain];have lt:D<s.heap.objs.size:=qA hD;refine zA (listItems_at hD rfl (zA (listUpdate_at hD rfl ?_)));obtain⟨e1,k1⟩:∃e1,(s.heap.update D (PySem.Obj.mapSeq fun _=> #[])).get? D=some (seqObj "list" #[] e1):=⟨_,get?_update_seq hD (fun _=> #[])⟩;refine zA (seqEpoch_at k1 rfl (zA (wpAny_newTuple (zA (wpAny_newList (qO ?_))))));have k2:(((s.heap.update D (PySem.Obj.mapSeq fun _=> #[])).push (seqObj "tuple" vs.toArray 0)).push (seqObj "list" #[] 0)).get? D=some (seqObj "list" #[] e1):=zI _ (zI _ k1);show wpAny (model prog w) _ _ _ E {s with heap:=((s.heap.update D (PySem.Obj.mapSeq fun _=> #[])).push (seqObj "tuple" vs.toArray 0)).push (seqObj "list" #[] 0)}
 dsimp only;have sz:vs.toArray.size<2:=by simpa using h2
 rw[if_pos sz,if_pos sz];refine zA (zD ?_);rw[StateT.run_pure];refine zA (zD ?_);dsimp only;have out:(arrOf (SortSt.mk' general' (vs.toArray.zip vs.toArray) #[] 7 none)).map (·.2)=vs.toArray:=by
  show(vs.toArray.zip vs.toArray).map (·.2)=vs.toArray;have e:(vs.toArray.zip vs.toArray)=(vs.zip vs).toArray:=by simp
  rw[e,List.map_toArray];congr 1;exact List.map_snd_zip (zC _)
 rw[out];refine zA (seqEpoch_at k2 rfl (zA (listUpdate_at k2 rfl ?_ (hsz2:=by rw[sizeLine_eq];walk_at "o"))))
 simp only[bne_self_eq_false,qZ,xA];obtain⟨e2,k3⟩:∃e2,((((s.heap.update D (PySem.Obj.mapSeq fun _=> #[])).push (seqObj "tuple" vs.toArray 0)).push (seqObj "list" #[] 0)).update D (PySem.Obj.mapSeq fun _=>vs.toArray)).get? D=some (seqObj "list" vs.toArray e2):=⟨_,get?_update_seq k2 (fun _=>vs.toArray)⟩;refine zD ⟨_,rfl,q _ e2 (fun b o hb e=>?_) k3⟩;rw[get?_update_ne _ _ _ _ hb];refine zI _ (zI _ ?_);rw[get?_update_ne _ _ _ _ hb];exact e
end
inductive Al (K:PySem.W.Frag) (H:Hp):List Addr->List (List Int)->Prop where
 | nil:Al K H [] []
 | cons {a:Addr} {k:List Int} {as:List Addr} {ks:List (List Int)} (q:SqT K H a (k.map V.int)) (r:Al K H as ks):Al K H (a::as) (k::ks)
section
variable {K:PySem.W.Frag}{H:Hp}
theorem Al.len {as:List Addr}{ks:List (List Int)}(h:Al K H as ks):as.length=ks.length:=by
 induction h with
 | nil=>rfl
 | cons _ _ ih=>simp[ih]
theorem Al.at {as:List Addr}{ks:List (List Int)}(h:Al K H as ks):∀{i:Nat},i<as.length->SqT K H (as.getD i 0) ((ks.getD i []).map V.int):=by
 induction h with
 | nil=>intro i hi;simp at hi
 | cons q r ih=>
  intro i hi;cases i with
  | zero=>exact q
  | succ i=>exact ih (i:=i) (by simpa using hi)
theorem Al.den {O:Av}{as:List Addr}{ks:List (List Int)}(h:Al K H as ks):DenL K O H (ks.map tupI) (as.map V.ref):=by
 induction h with
 | nil=>exact c9
 | cons q r ih=>
  refine b9 ?_ ih;unfold tupI;rw[Den];exact⟨_,_,rfl,q,G0 _⟩
end
theorem S7 {K:PySem.W.Frag}{O:Av}{H:Hp}:∀{ds:List D} {ks:List (List Int)} {vs:List V},tupsOf ds=some ks->DenL K O H ds vs->∃as,vs=as.map V.ref/\Al K H as ks
 | [],ks,vs,e,l=>by rw[DenL] at l;subst l;cases e;exact⟨[],rfl,.nil⟩
 | d::ds,ks,vs,e,l=>by
  rw[DenL] at l;obtain⟨v,r,rfl,h,l⟩:=l;cases d<;>simp only[tupsOf] at e<;>try cases e
  rename_i xs;cases e1:intsOf xs with
  | none=>rw[e1] at e;cases e
  | some k=>
   rw[e1] at e;simp only[bind_some] at e;cases e2:tupsOf ds with
   | none=>rw[e2] at e;cases e
   | some ks'=>
    rw[e2] at e;cases e;obtain⟨as,rfl,a⟩:=S7 e2 l;rw[t9 e1,Den] at h;obtain⟨p,us,rfl,q,lu⟩:=h;rw[p0 lu] at q;exact⟨p::as,rfl,.cons q a⟩
section
variable {X:Cx}{pins:List (Addr×PySem.Obj)}{σ:L2.St}{H:Hp}{s:Shared}
theorem Al.tups {as:List Addr}{ks:List (List Int)}(I:Inv X pins σ H s)(h:Al X.K H as ks)(ne:∀k∈ks,k≠[]):Tups s.heap (as.map Value.ref) ks:=by
 induction h with
 | nil=>exact .nil
 | cons q r ih=>
  obtain⟨its,r1,p1,_⟩:=I.tuple q;exact .cons p1 (B8 r1) (ne _ zR) (ih fun k hk=>ne k (zN _ hk))
theorem N5:∀as:List Addr,Vals (as.map V.ref) (as.map Value.ref)
 | []=>.nil
 | a::as=>.cons rfl (N5 as)
theorem C3:∀{as:List Addr} {us:List Value},Vals (as.map V.ref) us->us=as.map Value.ref
 | [],us,r=>by cases r;rfl
 | a::as,us,r=>by
  cases r with
  | cons h t=>cases h;rw[C3 t];rfl
end
open PySem PySem.Spec PyProof.Rows L2 PySem.W PySem.Calls
section
variable {prog:Program}{w:World}{A:Around}{E:Value->Shared->Prop}{s:Shared}{D:Addr}{vs:List Value}{κ:SortKind}{blt:Keyed->Keyed->Bool}{S:Keyed->Prop}
theorem a4Z {Q:Value->Shared->Prop}(hD:s.heap.get? D=some (listOf vs.toArray 0))(h2:2<=vs.length)(hz:vs.length<=sizeLine)(hO:Tot blt S)(hS:∀v∈vs,S (v,v))
  (hk:∀(h':Heap) (Q':SortKind->Shared->Prop),(∀b o,b≠D->s.heap.get? b=some o->h'.get? b=some o)->Q' κ {s with heap:=h'}->wpAny (model prog w) A.in1 (keyKind' vs.toArray) Q' E {s with heap:=h'})
  (hC:∀h':Heap,(∀b o,b≠D->s.heap.get? b=some o->h'.get? b=some o)->Cmp prog w A.in1 E {s with heap:=h'} κ blt S)
  (q:∀(h':Heap) (out:List Value) (e:Nat),(∀b o,b≠D->s.heap.get? b=some o->h'.get? b=some o)->h'.get? D=some (listOf out.toArray e)->out.Perm vs->out.Pairwise (fun x y=>Le blt (x,x) (y,y))->Q .none {s with heap:=h'}):
  wpAny (model prog w) A (call (.builtin "list.sort") [.ref D]) Q E s:=by
 refine jF slot_list_sort ⟨_,hD,rfl⟩ entry_list_sort ?_ (args_list_sort _);rw[list_sort_plain];have lt:D<s.heap.objs.size:=qA hD;refine zA (listItems_at hD rfl (zA (listUpdate_at hD rfl ?_ (by rw[zP];exact hz) (qW _))))
 obtain⟨e1,k1⟩:∃e1,(s.heap.update D (PySem.Obj.mapSeq fun _=> #[])).get? D=some (seqObj "list" #[] e1):=⟨_,get?_update_seq hD (fun _=> #[])⟩;refine zA (seqEpoch_at k1 rfl (zA (wpAny_newTuple (zA (wpAny_newList (qO ?_) (qW _))) hz)));have k2:(((s.heap.update D (PySem.Obj.mapSeq fun _=> #[])).push (seqObj "tuple" vs.toArray 0)).push (seqObj "list" #[] 0)).get? D=some (seqObj "list" #[] e1):=zI _ (zI _ k1);show wpAny (model prog w) _ _ _ E {s with heap:=((s.heap.update D (PySem.Obj.mapSeq fun _=> #[])).push (seqObj "tuple" vs.toArray 0)).push (seqObj "list" #[] 0)}
 have kp:∀b o,b≠D->s.heap.get? b=some o->(((s.heap.update D (PySem.Obj.mapSeq fun _=> #[])).push (seqObj "tuple" vs.toArray 0)).push (seqObj "list" #[] 0)).get? b=some o:=fun b o hb e=>by
  refine zI _ (zI _ ?_);rw[get?_update_ne _ _ _ _ hb];exact e
 generalize ((s.heap.update D (PySem.Obj.mapSeq fun _=> #[])).push (seqObj "tuple" vs.toArray 0)).push (seqObj "list" #[] 0)=h1 at k2 kp ⊢;dsimp only;have sz:¬vs.toArray.size<2:=by rw[zP];walk_at "o"
 rw[if_neg sz,if_neg sz];refine zA (hk h1 _ kp ?_);have ez:(vs.toArray.zip vs.toArray).toList=vs.map fun v=>(v,v):=by
  have:∀l:List Value,l.zip l=l.map fun v=>(v,v):=fun l=>by
   induction l with
   | nil=>rfl
   | cons x l ih=>rw[jO,ih];rfl
  simp[this]
 have run:=a1g (hC h1 kp) hO (st:=SortSt.mk' κ (vs.toArray.zip vs.toArray) #[] 7 none) (Q:=fun _ st'=>(arrOf st').Perm (vs.toArray.zip vs.toArray)/\failedOf st'=none/\Srt blt (arrOf st') 0 (arrOf st').size) rfl rfl rfl (fun x hx=>by
  replace hx:x∈(vs.toArray.zip vs.toArray).toList:=hx
  rw[ez] at hx;obtain⟨v,hv,rfl⟩:=jJ.mp hx
  exact hS v hv) (by show 1<=(vs.toArray.zip vs.toArray).size;simp;walk_at "o") fun st' p1 p2 p3=>⟨p1,p2,p3⟩
 refine zA (qD run ?_ fun _ _ z=>z);rintro⟨⟨⟩,st'⟩ s' ⟨rfl,pe,fl,so⟩;dsimp only at pe fl so ⊢;have pl:(arrOf st').toList.Perm (vs.map fun v=>(v,v)):=by rw[<-ez];exact jA.mp pe
 have dia:∀x∈(arrOf st').toList,x=(x.2,x.2):=fun x hx=>by
  obtain⟨v,_,rfl⟩:=jJ.mp (pl.mem_iff.mp hx);rfl
 have pw:(arrOf st').toList.Pairwise (Le blt):=by
  have:=so.list
  unfold seg at this
  rwa [xF,qY (by rw[zK];exact zC _)] at this
 have eo:(arrOf st').map (·.2)=((arrOf st').toList.map (·.2)).toArray:=by
  apply Array.toList_inj.mp;rw[Array.toList_map]
 rw[eo];have op:((arrOf st').toList.map (·.2)).Perm vs:=by
  have:=pl.map (·.2)
  rw[jK] at this;have e:((fun x:Keyed=>x.2)∘fun v:Value=>(v,v))=id:=rfl
  rwa [e,map_id] at this
 have ow:((arrOf st').toList.map (·.2)).Pairwise (fun x y=>Le blt (x,x) (y,y)):=by
  rw[List.pairwise_map];refine pw.imp_of_mem fun{a b} ha hb h=>?_;rw[<-dia a ha,<-dia b hb];exact h
 generalize (arrOf st').toList.map (·.2)=out at op ow;refine zA (seqEpoch_at k2 rfl (zA (listUpdate_at k2 rfl ?_ (qW _) (zJ (by rw[zP,op.length_eq];exact hz) (Nat.le_succ _)))))
 rw[fl];simp only[bne_self_eq_false,qZ,xA];obtain⟨e2,k3⟩:∃e2,(h1.update D (PySem.Obj.mapSeq fun _=>out.toArray)).get? D=some (seqObj "list" out.toArray e2):=⟨_,get?_update_seq k2 (fun _=>out.toArray)⟩;refine zD ⟨_,rfl,q _ out e2 (fun b o hb e=>?_) k3 op ow⟩;rw[get?_update_ne _ _ _ _ hb];exact kp b o hb e
end
def lexN:List (List Int)->List (List Int)->Bool
 | _,[]=>false
 | [],_::_=>true
 | x::a,y::b=>if x=y then lexN a b else HT.lexLt x y
theorem a4b {a b:List Int}(h:HT.lexLt a b=true):HT.lexLt b a=false:=by
 cases e:HT.lexLt b a with
 | false=>rfl
 | true=>have:=X0 a b a h e;rw[a0p] at this;cases this
theorem a8j {a b:List Int}(h:a≠b):HT.lexLt a b=true\/HT.lexLt b a=true:=by
 cases e:HT.lexLt a b with
 | true=>exact .inl rfl
 | false=>
  cases e2:HT.lexLt b a with
  | true=>exact .inr rfl
  | false=>exact absurd (Z4 a b e e2) h
theorem S1:∀a b:List (List Int),lexN a b=true->lexN b a=false
 | _,[],h=>by simp[lexN] at h
 | [],_::_,_=>rfl
 | x::a,y::b,h=>by
  rw[lexN] at h ⊢
  by_cases e:x=y
  ·rw[if_pos e] at h;rw[if_pos e.symm];exact S1 a b h
  ·rw[if_neg e] at h;rw[if_neg (qN e)];exact a4b h
theorem a0a:∀a b c:List (List Int),lexN a c=true->lexN a b=true\/lexN b c=true
 | _,_,[],h=>by simp[lexN] at h
 | [],[],_::_,h=>.inr h
 | [],_::_,_::_,_=>.inl rfl
 | _::_,[],_::_,_=>.inr rfl
 | x::a,y::b,z::c,h=>by
  rw[lexN] at h ⊢;rw[lexN]
  by_cases e1:x=y
  ·by_cases e2:y=z
   ·rw[if_pos (e1.trans e2)] at h;rw[if_pos e1,if_pos e2];exact a0a a b c h
   ·rw[if_neg (fun q=>e2 (e1.symm.trans q))] at h;rw[if_neg e2,<-e1];exact .inr h
  ·rw[if_neg e1]
   by_cases e2:x=z
   ·have e3:¬y=z:=fun q=>e1 (e2.trans q.symm);rw[if_neg e3];rcases a8j e1 with q|q
    ·exact .inl q
    ·rw[<-e2];exact .inr q
   ·rw[if_neg e2] at h;rcases a2l x y z h with q|q
    ·exact .inl q
    ·by_cases e3:y=z
     ·rw[e3,a0p] at q;cases q
     ·rw[if_neg e3];exact .inr q
theorem a2U:∀a b:List (List Int),lexN a b=false->lexN b a=false->a=b
 | [],[],_,_=>rfl
 | [],_::_,h,_=>by cases h
 | _::_,[],_,h=>by cases h
 | x::a,y::b,h,h'=>by
  rw[lexN] at h h'
  by_cases e:x=y
  ·rw[if_pos e] at h;rw[if_pos e.symm] at h';rw[e,a2U a b h h']
  ·rw[if_neg e] at h;rw[if_neg (fun q=>e q.symm)] at h';exact absurd (Z4 x y h h') e
def intsV (h:Heap):Value->List Int
 | .ref a=>match h.get? a with
  | some ⟨_,_,.seq xs _,_⟩=>xs.toList.map numOf
  | _=>[]
 | _=>[]
def nestV (h:Heap):Value->List (List Int)
 | .ref a=>match h.get? a with
  | some ⟨_,_,.seq xs _,_⟩=>xs.toList.map (intsV h)
  | _=>[]
 | _=>[]
theorem a0A {C:Prop}(h:(Value.type "list":Value)= .type "tuple"):C:=by
 injection h with h
 exact absurd h (by decide)
inductive TupsE (h:Heap):List Value->List (List Int)->Prop where
 | nil:TupsE h [] []
 | cons {a:Addr} {its:Array Value} {k:List Int} {vs:List Value} {ks:List (List Int)} (t:IsTup h a its) (i:IntsAre its.toList k) (r:TupsE h vs ks):TupsE h (.ref a::vs) (k::ks)
def Nst (h:Heap) (v:Value) (k:List (List Int)):Prop:=∃a its,v= .ref a/\IsTup h a its/\TupsE h its.toList k/\k≠[]
theorem a42:∀{l:List Value} {k:List Int},IntsAre l k->l.map numOf=k
 | _,_,h=>by
  induction h with
  | nil=>rfl
  | cons a t _ ih=>rw[zQ,ih];rfl
theorem R0 {h:Heap}{a:Addr}{its:Array Value}{k:List Int}(t:IsTup h a its)(i:IntsAre its.toList k):intsV h (.ref a)=k:=by
 obtain⟨⟨c,d,da,sl⟩,h1,h2,n,h3⟩:=t;simp only at h2 h3;subst h2 h3;simp only[intsV,h1];exact a42 i
theorem TupsE.map {h:Heap}:∀{vs:List Value} {ks:List (List Int)},TupsE h vs ks->vs.map (intsV h)=ks
 | _,_,t=>by
  induction t with
  | nil=>rfl
  | cons t i r ih=>rw[zQ,ih,R0 t i]
theorem Nst.key {h:Heap}{v:Value}{k:List (List Int)}(t:Nst h v k):nestV h v=k:=by
 obtain⟨a,its,rfl,⟨⟨c,d,da,sl⟩,h1,h2,n,h3⟩,r,_⟩:=t;simp only at h2 h3;subst h2 h3;simp only[nestV,h1];exact r.map
theorem TupsE.on {h h':Heap}{D:Addr}{e:Nat}{ys:Array Value}(hD:h.get? D=some (listOf ys e))(kp:∀b o,b≠D->h.get? b=some o->h'.get? b=some o):∀{vs:List Value} {ks:List (List Int)},TupsE h vs ks->TupsE h' vs ks
 | _,_,t=>by
  induction t with
  | nil=>exact .nil
  | @cons a its k vs ks t i r ih=>
   obtain⟨o,h1,h2,n,h3⟩:=t;have ne:a≠D:=fun z=>by rw[z,hD] at h1;cases h1;exact a0A h2
   exact .cons ⟨o,kp a o ne h1,h2,n,h3⟩ i ih
theorem Nst.on {h h':Heap}{D:Addr}{e:Nat}{ys:Array Value}(hD:h.get? D=some (listOf ys e))(kp:∀b o,b≠D->h.get? b=some o->h'.get? b=some o){v:Value}{k:List (List Int)}(t:Nst h v k):Nst h' v k:=by
 obtain⟨a,its,rfl,⟨o,h1,h2,n,h3⟩,r,ne⟩:=t;have na:a≠D:=fun z=>by rw[z,hD] at h1;cases h1;exact a0A h2
 exact⟨a,its,rfl,⟨o,kp a o na h1,h2,n,h3⟩,r.on hD kp,ne⟩
section
variable {prog:Program}{w:World}{A:Around}{E:Value->Shared->Prop}{s:Shared}
theorem a0P {l:List Value}{k:List Int}(h:IntsAre l k):l.length=k.length:=by
 induction h with
 | nil=>rfl
 | cons _ _ _ ih=>simp[ih]
theorem Y6:∀{l:List Value} {k:List Int},IntsAre l k->∀(i:Nat) (hi:i<l.length),∃t,l[i]= .int (k.getD i 0) t
 | _,_,.nil,i,hi=>by simp at hi
 | _,_,.cons a t _,0,hi=>⟨t,rfl⟩
 | _,_,.cons a t r,i+1,hi=>Y6 r i (by simpa using hi)
theorem a3x (hu:A.units<cLine){a b:Addr}{xs ys:Array Value}{n m:List Int}(ta:IsTup s.heap a xs)(tb:IsTup s.heap b ys)(ia:IntsAre xs.toList n)(ib:IntsAre ys.toList m):SeqAt.EqAt A s (.ref a) (.ref b) (decide (n=m)):=by
 by_cases e:a=b
 ·subst e
  have:n=m:=by rw[<-R0 ta ia,R0 tb ib]
  rw[qH this];exact .same _
 ·have la:=a0P ia;have lb:=a0P ib;rw[zK] at la lb;have r:=SeqAt.RcAt.tuples (A:=A) (e:=fun j=>n.getD j 0==m.getD j 0) ta tb hu fun j h1 h2=>by
   obtain⟨t,et⟩:=Y6 ia j (by rw[zK];exact h1)
   obtain⟨u,eu⟩:=Y6 ib j (by rw[zK];exact h2)
   rw[Array.getElem_toList] at et eu;rw[et,eu];exact SeqAt.EqAt.int_int _ t _ u
  have ek:((List.range (min xs.size ys.size)).all (fun j=>n.getD j 0==m.getD j 0)&&xs.size==ys.size)=decide (n=m):=by
   rw[la,lb];rw[Bool.eq_iff_iff,jQ,all_eq_true,decide_eq_true_iff,beq_iff_eq];constructor
   ·rintro⟨h1,h2⟩;refine List.ext_getElem h2 fun i p1 p2=>?_
    have:=h1 i (mem_range.mpr (by walk_at "o"))
    simpa [xD,p1,p2] using this
   ·rintro rfl;exact⟨fun i _=>by simp,rfl⟩
  rw[ek] at r;exact .of_refs e r
theorem a4J (hu:A.units<cLine){fin:Bool}{Q:Bool->Shared->Prop}:∀{us ws:List Value} {ns ms:List (List Int)} {i:Nat},TupsE s.heap us ns->TupsE s.heap ws ms->fin=decide (us.length<ws.length)->
  Q (lexN ns ms) s->KatLex prog w A false fin Q (us.zip ws) i s
 | [],[],_,_,i,h1,h2,ef,q=>by
  cases h1;cases h2;rw[List.zip_nil_left];exact kat_nil (by rw[ef];exact q)
 | [],_::_,_,_,i,h1,h2,ef,q=>by
  cases h1;cases h2;rw[List.zip_nil_left];exact kat_nil (by rw[ef];simpa [lexN] using q)
 | _::_,[],_,_,i,h1,h2,ef,q=>by
  cases h1;cases h2;rw[List.zip_nil_right];exact kat_nil (by rw[ef];simpa [lexN] using q)
 | _::us,_::ws,_,_,i,h1,h2,ef,q=>by
  cases h1 with
  | @cons a its k _ ks t1 i1 r1=>
   cases h2 with
   | @cons b its2 k2 _ ks2 t2 i2 r2=>
    rw[jO];rw[lexN] at q;refine kat_cons (a3x hu t1 t2 i1 i2 prog w _ _ ?_)
    by_cases e:k=k2
    ·rw[if_pos e] at q;rw[qH e];exact kat_yes (a4J hu r1 r2 (by rw[ef];simp) q)
    ·rw[if_neg e] at q;rw[qB e];exact kat_no (kat_one _ _ (HT.lt_tupInts t1 t2 i1 i2 hu q))
def bltN (h:Heap) (x y:Keyed):Bool:=lexN (nestV h x.1) (nestV h y.1)
theorem totN (h:Heap):Tot (bltN h) fun x=>∃k,Nst h x.1 k where
 tr:=fun x y z _ _ _ h1 h2=>by
  unfold Le bltN at *;cases e:lexN (nestV h z.1) (nestV h x.1) with
  | false=>rfl
  | true=>
   rcases a0a _ (nestV h y.1) _ e with q|q
   ·rw[q] at h2;cases h2
   ·rw[q] at h1;cases h1
 as:=fun x y _ _ h1=>S1 _ _ h1
theorem cmpN (hu:A.units<cLine){h h':Heap}{D:Addr}{e:Nat}{ys:Array Value}(hD:h.get? D=some (listOf ys e))(kp:∀b o,b≠D->h.get? b=some o->h'.get? b=some o):Cmp prog w A E {s with heap:=h'} (tuples' false) (bltN h) fun x=>∃k,Nst h x.1 k:=by
 rintro⟨x,x2⟩ ⟨y,y2⟩ ⟨k,hk⟩ ⟨j,hj⟩ st Q hkd q;have ek:=hk.key;have ej:=hj.key;obtain⟨a,its,rfl,⟨o,h1,h2,n,h3⟩,r,_⟩:=hk.on hD kp;obtain⟨b,its2,rfl,⟨o2,g1,g2,n2,g3⟩,r2,_⟩:=hj.on hD kp;rw[lt'_eq];refine zB (wpS_get ?_);rw[hkd];refine zB (wpS_lift (wpAny_attempt ?_));refine kat_lt (s:={s with heap:=h'}) h1 h3 g1 g3 (a4J (s:={s with heap:=h'}) hu r r2 (by simp) ⟨rfl,?_⟩)
 unfold bltN at q;dsimp only at q;rw[ek,ej] at q;exact zF q
end
abbrev nleB (a b:List (List Int)):Bool:=!lexN b a
def sortN (ks:List (List (List Int))):List (List (List Int)):=ks.mergeSort nleB
theorem S4 (ks:List (List (List Int))):(sortN ks).Perm ks:=List.mergeSort_perm ks _
theorem Z2 (ks:List (List (List Int))):(sortN ks).Pairwise fun a b=>lexN b a=false:=by
 have:=List.pairwise_mergeSort (le:=nleB) (fun a b c h1 h2=>by
  simp only[nleB,Bool.not_eq_true'] at *;cases e:lexN c a with
  | false=>rfl
  | true=>
   rcases a0a c b a e with q|q
   ·rw[q] at h2;cases h2
   ·rw[q] at h1;cases h1) (fun a b=>by
  simp only[nleB,Bool.or_eq_true,Bool.not_eq_true'];cases q:lexN b a with
  | false=>exact .inl rfl
  | true=>exact .inr (S1 _ _ q)) ks
 exact this.imp fun h=>by simpa [nleB] using h
theorem T7:∀{l1 l2:List (List (List Int))},l1.Perm l2->(l1.Pairwise fun a b=>lexN b a=false)->(l2.Pairwise fun a b=>lexN b a=false)->l1=l2
 | [],l2,h,_,_=>(List.nil_perm.mp h).symm
 | a::l1,[],h,_,_=>by have:=h.length_eq;simp at this
 | a::l1,b::l2,h,h1,h2=>by
  have h1':=List.pairwise_cons.mp h1;have h2':=List.pairwise_cons.mp h2;have e:a=b:=by
   have ma:a∈b::l2:=h.mem_iff.mp zR;have mb:b∈a::l1:=h.mem_iff.mpr zR;rcases qG.mp ma with z|z
   ·exact z
   ·rcases qG.mp mb with y|y
    ·exact y.symm
    ·exact a2U a b (h2'.1 a z) (h1'.1 b y)
  subst e;rw[T7 ((List.perm_cons a).mp h) h1'.2 h2'.2]
def nestI (k:List (List Int)):D:=.tup (k.map tupI)
def N1 (K:PySem.W.Frag) (H:Hp) (a:Addr) (k:List (List Int)):Prop:=∃as,SqT K H a (as.map V.ref)/\Al K H as k
inductive AlN (K:PySem.W.Frag) (H:Hp):List Addr->List (List (List Int))->Prop where
 | nil:AlN K H [] []
 | cons {a:Addr} {k:List (List Int)} {as:List Addr} {ks:List (List (List Int))} (q:N1 K H a k) (r:AlN K H as ks):AlN K H (a::as) (k::ks)
section
variable {K:PySem.W.Frag}{H:Hp}
theorem AlN.len {as:List Addr}{ks:List (List (List Int))}(h:AlN K H as ks):as.length=ks.length:=by
 induction h with
 | nil=>rfl
 | cons _ _ ih=>simp[ih]
theorem AlN.of {f:Addr->List (List Int)}:∀{bs:List Addr},(∀b∈bs,N1 K H b (f b))->AlN K H bs (bs.map f)
 | [],_=>.nil
 | b::bs,h=>.cons (h b zR) (AlN.of fun c hc=>h c (zN _ hc))
theorem AlN.den {O:Av}{as:List Addr}{ks:List (List (List Int))}(h:AlN K H as ks):DenL K O H (ks.map nestI) (as.map V.ref):=by
 induction h with
 | nil=>exact c9
 | cons q r ih=>
  refine b9 ?_ ih;obtain⟨as,q,al⟩:=q;unfold nestI;rw[Den];exact⟨_,_,rfl,q,al.den⟩
end
def nestsOf:List D->Option (List (List (List Int)))
 | []=>some []
 | .tup xs::ds=>(tupsOf xs).bind fun k=>(nestsOf ds).map fun ks=>k::ks
 | _=>none
theorem P2:∀ks:List (List (List Int)),nestsOf (ks.map nestI)=some ks
 | []=>rfl
 | k::ks=>by
  rw[zQ];show(tupsOf (k.map tupI)).bind _=_;rw[R9,P2 ks];rfl
theorem O5 {K:PySem.W.Frag}{O:Av}{H:Hp}:∀{ds:List D} {ks:List (List (List Int))} {vs:List V},nestsOf ds=some ks->DenL K O H ds vs->∃as,vs=as.map V.ref/\AlN K H as ks
 | [],ks,vs,e,l=>by rw[DenL] at l;subst l;cases e;exact⟨[],rfl,.nil⟩
 | d::ds,ks,vs,e,l=>by
  rw[DenL] at l;obtain⟨v,r,rfl,h,l⟩:=l;cases d<;>simp only[nestsOf] at e<;>try cases e
  rename_i xs;cases e1:tupsOf xs with
  | none=>rw[e1] at e;cases e
  | some k=>
   rw[e1] at e;simp only[bind_some] at e;cases e2:nestsOf ds with
   | none=>rw[e2] at e;cases e
   | some ks'=>
    rw[e2] at e;cases e;obtain⟨as,rfl,a⟩:=O5 e2 l;rw[Den] at h;obtain⟨p,us,rfl,q,lu⟩:=h;obtain⟨bs,rfl,al⟩:=S7 e1 lu;exact⟨p::as,rfl,.cons ⟨bs,q,al⟩ a⟩
section
variable {X:Cx}{pins:List (Addr×PySem.Obj)}{σ:L2.St}{H:Hp}{s:Shared}
theorem Al.tupsE {as:List Addr}{ks:List (List Int)}(I:Inv X pins σ H s)(h:Al X.K H as ks):TupsE s.heap (as.map Value.ref) ks:=by
 induction h with
 | nil=>exact .nil
 | cons q r ih=>
  obtain⟨its,r1,p1,_⟩:=I.tuple q;exact .cons p1 (B8 r1) ih
theorem N1.nst (I:Inv X pins σ H s){a:Addr}{k:List (List Int)}(h:N1 X.K H a k)(ne:k≠[]):Nst s.heap (.ref a) k:=by
 obtain⟨as,q,al⟩:=h;obtain⟨its,r1,p1,_⟩:=I.tuple q;have e:=C3 r1;subst e;exact⟨a,_,rfl,p1,al.tupsE I,ne⟩
theorem katNst {M:Model}{h:Heap}:∀{vs:List Value},(∀v∈vs,∃k,Nst h v k)->∃fs,PySem.W.KatTups h vs fs/\fs.length=vs.length/\∀f∈fs,PySem.W.Looks M h (typeOf f) (.type "tuple")
 | [],_=>⟨[],.nil,rfl,fun v hv=>by cases hv⟩
 | v::vs,hn=>by
  obtain⟨fs,h1,h2,h3⟩:=katNst (M:=M) (vs:=vs) fun u hu=>hn u (zN _ hu);obtain⟨k,a,its,rfl,⟨o,e,c,n,d⟩,r,ne⟩:=hn v zR;obtain⟨its⟩:=its;cases r with
  | nil=>exact absurd rfl ne
  | @cons b its2 k2 vs2 ks2 t i r2=>
   obtain⟨o2,e2,c2,n2,d2⟩:=t;refine⟨_,.cons e c d (by rfl) h1,by simp[h2],fun f hf=>?_⟩
   rcases qG.mp hf with z|z
   ·subst z;rw[<-c2];exact(PySem.W.Looks.ld e2).andThen .now
   ·exact h3 f z
theorem a1m {A:Around}{E:Value->Shared->Prop}{as:List Addr}{ks:List (List (List Int))}{Q:VK}(hu:A.in1.units<cLine)(I:Inv X pins σ H s)(a:AlN X.K H as ks)(ne:∀k∈ks,k≠[])(hz:as.length<=sizeLine)
  (q:∀l bs,H l=none->AlN X.K H bs (sortN ks)->Q (.ref l) (upd H l (.lst (bs.map V.ref)))):
  wpAny (model X.prog X.w) A (call (.builtin "list.sort") [.ref s.heap.objs.size]) (fun _ s'=>EP X pins σ Q (.ref s.heap.objs.size) s') E {s with heap:=s.heap.push (PySem.W.listOf (as.map Value.ref).toArray 0)}:=by
 have I2:Inv X pins σ H {s with heap:=s.heap.push (PySem.W.listOf (as.map Value.ref).toArray 0)}:=I.kept (t':=s.toks) fun b o e=>zI _ e
 have fr:H s.heap.objs.size=none:=I.hok.fresh (zC _);have hD:(s.heap.push (PySem.W.listOf (as.map Value.ref).toArray 0)).get? s.heap.objs.size=some (PySem.W.listOf (as.map Value.ref).toArray 0):=qK _ rfl;have one:∀{as ks},AlN X.K H as ks->(∀k∈ks,k≠[])->ks=as.map (fun b=>nestV (s.heap.push (PySem.W.listOf (as.map Value.ref).toArray 0)) (.ref b))->True:=fun _ _ _=>trivial;generalize hh:s.heap.push (PySem.W.listOf (as.map Value.ref).toArray 0)=h1 at I2 hD one ⊢;have keys:∀{as:List Addr} {ks:List (List (List Int))},AlN X.K H as ks->(∀k∈ks,k≠[])->(ks=as.map fun b=>nestV h1 (.ref b))/\∀b∈as,N1 X.K H b (nestV h1 (.ref b))/\∃k,Nst h1 (.ref b) k:=fun{as ks} al ne=>by
  induction al with
  | nil=>exact⟨rfl,fun b hb=>by cases hb⟩
  | @cons a k as ks q r ih=>
   obtain⟨e,f⟩:=ih fun k hk=>ne k (zN _ hk);have n1:=N1.nst I2 q (ne k zR);have ek:=n1.key;refine⟨by rw[zQ,<-e];congr 1;exact ek.symm,fun b hb=>?_⟩
   rcases qG.mp hb with z|z
   ·subst z;exact⟨by rw[show nestV h1 (.ref b)=k from ek];exact q,k,n1⟩
   ·exact f b z
 obtain⟨ek,fk⟩:=keys a ne;have fin:∀(h':Heap) (bs:List Addr) (ec:Nat),(∀b o,b≠s.heap.objs.size->h1.get? b=some o->h'.get? b=some o)->h'.get? s.heap.objs.size=some (PySem.W.listOf (bs.map Value.ref).toArray ec)->bs.Perm as->
   ((bs.map fun b=>nestV h1 (.ref b)).Pairwise fun a b=>lexN b a=false)->EP X pins σ Q (.ref s.heap.objs.size) {s with heap:=h'}:=fun h' bs ec kp hD' pp ps=>by
  have e1:(bs.map fun b=>nestV h1 (.ref b))=sortN ks:=by
   refine T7 ((pp.map _).trans ?_) ps (Z2 ks);rw[<-ek];exact(S4 ks).symm
  have ab:AlN X.K H bs (sortN ks):=by
   rw[<-e1];exact AlN.of fun b hb=>(fk b (pp.mem_iff.mp hb)).1
  have kept:∀b o,s.heap.get? b=some o->h'.get? b=some o:=fun b o e=>kp b o (zW (qA e)) (by rw[<-hh];exact zI _ e)
  have nH:∀b u,H b=some u->b≠s.heap.objs.size:=fun b u e=>t6 e fr;refine⟨.ref s.heap.objs.size,upd H s.heap.objs.size (.lst (bs.map V.ref)),?_,rfl,q _ _ fr ab⟩;refine I.step (g':=s.gens) (t':=s.toks) (d':=s.drawn) (ch:=[]) (fun _ z=>nomatch z) (fun b o _ _ _ e _=>kept b o e) (fun b o _ _ _ e _=>⟨o.slots,kept b o e⟩) (fun b o _ e n=>by rw[b8 (zW (qA e))];exact n) (fun b o _ e=>⟨o,kept b o e⟩)
   (fun b xs e=>by rw[b8 (nH _ _ e)];exact e) (fun b o u e=>by rw[b8 (nH _ _ e)];exact e) (fun b ps e=>⟨#[],by rw[b8 (nH _ _ e),e];simp⟩) (fun m' hm=>?_) (fun b u e=>?_) I.bare
  ·obtain⟨o,es,ep,e,r⟩:=hm;exact⟨o,es,ep,kept _ _ e,r⟩
  ·by_cases hb:b=s.heap.objs.size
   ·subst hb;rw[o4] at e;cases e;refine⟨?_,bs.map Value.ref,ec,N5 _,hD'⟩;rw[zH,pp.length_eq];exact hz
   ·rw[b8 hb] at e;refine(I.hok b u e).stay (fun c v hc z=>kept c v z) (fun c z=>by rw[b8 (nH _ _ z)];exact z) fun c ys z=>z.upd (z.elim (nH _ _) fun⟨_,q⟩=>nH _ _ q)
 by_cases h2:(as.map Value.ref).length<2
 ·refine a1o hD h2 fun h' e kp hD'=>fin h' as e kp hD' (.refl _) ?_
  match as,h2 with
  | [],_=>exact .nil
  | [k],_=>exact List.pairwise_singleton _ _
 ·have nst:∀v∈as.map Value.ref,∃k,Nst h1 v k:=fun v hv=>by
   obtain⟨b,hb,rfl⟩:=jJ.mp hv;exact(fk b hb).2
  refine a4Z (κ:=tuples' false) (blt:=bltN h1) (S:=fun x=>∃k,Nst h1 x.1 k) hD (by walk_at "o") (by rw[zH];exact hz) (totN h1) (fun v hv=>nst v hv) (fun h' Q' kp hq=>?_) (fun h' kp=>cmpN hu hD kp) fun h' out e kp hD' po pw=>?_
  ·obtain⟨fs,f1,f2,f3⟩:=katNst (M:=model X.prog X.w) (h:=h') (vs:=as.map Value.ref) fun v hv=>by
    obtain⟨k,hk⟩:=nst v hv;exact⟨k,hk.on hD kp⟩
   exact PySem.W.kat_kind (s:={s with heap:=h'}) (T:=.type "tuple") f1 (by rw[f2];walk_at "o") f3 (by decide) hq
  ·have:∃bs:List Addr,out=bs.map Value.ref/\bs.Perm as:=by
    have g:∀v∈out,∃b,v=Value.ref b:=fun v hv=>by
     obtain⟨b,_,e⟩:=jJ.mp (po.mem_iff.mp hv);exact⟨b,e.symm⟩
    let un:Value->Addr:=fun v=>match v with|.ref a=>a|_=>0
    have e1:out=(out.map un).map Value.ref:=by
     rw[jK]
     conv=>lhs;rw[<-map_id out]
     refine jR fun v hv=>?_;obtain⟨b,rfl⟩:=g v hv;rfl
    refine⟨out.map un,e1,?_⟩
    have:=po.map un
    rw[jK] at this;have e2:(un∘Value.ref)=id:=rfl
    rwa [e2,map_id] at this
   obtain⟨bs,rfl,pb⟩:=this;refine fin h' bs e kp hD' pb ?_;rw[List.pairwise_map] at pw ⊢;exact pw
end
section
variable {X:Cx}{e:Expr}{pos p:Pos}{fa:FA}
theorem Y7 {j:Nat}(hr:Room j X.A):CallR X (.builtin "sorted") (fun xs H Q=>∃p ks,xs=[.ref p]/\(∃as,SqL X.K H p (as.map V.ref)/\AlN X.K H as ks)/\(∀k∈ks,k≠[])/\∀l bs,H l=none->AlN X.K H bs (sortN ks)->Q (.ref l) (upd H l (.lst (bs.map V.ref)))):=by
 intro pins s σ H xs us Q I r h;obtain⟨p,ks,rfl,⟨as,hq,al⟩,ne,q⟩:=h;obtain⟨u,rfl,ru⟩:=vals1 r;cases ru;refine Calls.call_function_entry kind_sorted plain_sorted entry_sorted (args_sorted1 _) ?_;unfold Builtin.«sorted»;refine zA (m:=checkCount "sorted" 1 1 _) (zD ?_);have len:=al.len;obtain⟨its,rv,⟨o,m,h1,h2,_,h4⟩,hz⟩:=I.list hq;have ei:=C3 rv;subst ei;have hL:s.heap.IsList p (as.map Value.ref).toArray:=⟨o,h1,h2,m,h4⟩;have sz:(as.map Value.ref).length<=sizeLine:=by rw[zH] at hz ⊢;exact hz
 refine zA (collect_list hL ?_ sz);refine zA (wpAny_newList ?_ sz);have I1:Inv X pins σ H {s with heap:=(s.heap.push (seqObj "list" #[] 0)).update s.heap.objs.size (PySem.Obj.mapSeq (· ++ (as.map Value.ref).toArray))}:=I.kept (t':=s.toks) fun b o e=>by
  rw[get?_update_ne _ _ _ _ (zW (qA e))];exact zI _ e
 refine zA (qO (qD (a1m (by have:=hr.units;show X.A.units+1+1<_;walk_at "o") I1 al ne (by rw[zH] at sz;exact sz) q) (fun _ s' x=>?_) fun _ _ z=>z))
 exact zD ⟨_,rfl,x⟩
def gSortN:D->Option W
 | .lst ds=>(nestsOf ds).bind fun ks=>if ∀k∈ks,k≠[] then some (.o (.lst ((sortN ks).map nestI))) else none
 | _=>none
theorem a4x:PrA X (k1 gSortN) (fun xs H Q=>∃p ks,xs=[.ref p]/\(∃as,SqL X.K H p (as.map V.ref)/\AlN X.K H as ks)/\(∀k∈ks,k≠[])/\∀l bs,H l=none->AlN X.K H bs (sortN ks)->Q (.ref l) (upd H l (.lst (bs.map V.ref)))):=pr1 fun A d w v H Q e h q=>by
 cases d<;>simp only[gSortN] at e<;>try cases e
 rename_i ds;cases e1:nestsOf ds with
 | none=>rw[e1] at e;cases e
 | some ks=>
  rw[e1] at e;simp only[bind_some] at e;split at e
  ·rename_i hl;cases e;obtain⟨a,vs,rfl,hq,l⟩:=h;obtain⟨as,rfl,al⟩:=O5 e1 l;exact⟨a,ks,rfl,⟨as,hq,al⟩,hl,fun l bs hp al=>q _ _ (j6 hp _) (y0 hp al.den)⟩
  ·cases e
theorem a1l {j:Nat}(hr:Room j X.A)(hm:X.mg "sorted"=none)(ha:QA X [e] fa)(hv:bootBuiltins "sorted"=some (.builtin "sorted"):=by rfl)(hg:Gl X "sorted":=by rfl)
  (he:starEach [e] X.env=(false,eval e X.env)::starEach [] X.env:=by rfl):QX X (.Call (.Name "sorted" p) [e] [] pos) (fCall (k1 gSortN) fa):=a00 (Y7 hr) a4x hv hm ha hg (by decide) (by decide) he rfl
theorem a6c {ks:List (List (List Int))}(ne:∀k∈ks,k≠[]):gSortN (.lst (ks.map nestI))=some (.o (.lst ((sortN ks).map nestI))):=by
 simp only[gSortN,P2,bind_some];exact if_pos ne
end
def putTo (k j:Nat) (p:List W×Ev):Option Ev:=(takeAll p.2 p.1).bind fun q=>(dkeys q.1).bind fun kk=>match q.2[j]? with
 | some (some (.v d))=>match ownAt q.2 k with
  | some (.dT ks zs)=>if ks.length<lim/\q.1.length<=lim then some (setOwn q.2 k (.dT (putKs ks kk) (putX ks zs kk d))) else none
  | _=>none
 | _=>none
def turnCD (k:Nat) (gf:FG) (t:FT) (fa:FA) (j:Nat):D->Ev->Option Ev:=fun x ρ=>(gf x ρ).bind fun ρ1=>(t ρ1).bind fun p=>if p.1=true then(fa p.2).bind (putTo k j) else some p.2
section
variable {X:Cx}{a b e o:Expr}{pos p:Pos}{f g h:FX}{t u:FT}{x:Str}
theorem a5G:OpR X (binaryOp .Mult) (fun x y H Q=>∃l k xs,x= .ref l/\y= .int k/\SqL X.K H l xs/\-(2^63)<=k/\k<2^63/\xs.length*k.toNat<=sizeLine/\∀p,H p=none->Q (.ref p) (upd H p (.lst (List.replicate k.toNat xs).flatten))):=by
 intro pins s σ H x y v u Q I rx ry h;obtain⟨l,k,xs,rfl,rfl,hH,h1,h2,hz,q⟩:=h;cases rx;obtain⟨t,rfl⟩:=ry;obtain⟨its,r,⟨⟨c1,d1,e1,s1⟩,n,e,k1,_,w1⟩,_⟩:=I.list hH;simp only at k1 w1;subst k1 w1;have hl:=r.length;have hlen:its.toArray.size*k.toNat<=sizeLine:=by rw[zP,<-hl];exact hz
 have hcap:¬its.toArray.size*k.toNat>(2^63-1)/8:=by
  have:(sizeLine:Nat)<=(2^63-1)/8:=by decide
  walk_at "o"
 have hfit:¬(!Builtin.List.listFitsIndex k)=true:=by rw[fitsIndex_both h1 h2];exact zS
 have hlong:¬Builtin.List.listTooLong (its.toArray.size*k.toNat)=true:=by rw[notLongL hlen];exact zS
 have hnew:List.foldl (fun x1 x2=>x1++x2) #[] (List.replicate (if its.toArray.isEmpty=true then 0 else k.toNat) its.toArray)=(List.replicate k.toNat its).flatten.toArray:=by
  have f0:∀m:Nat,List.foldl (fun x1 x2=>x1++x2) #[] (List.replicate m its.toArray)=(List.replicate m its).flatten.toArray:=fun m=>by
   have:=X8 its m []
   rw[nil_append] at this;exact this
  rw[f0];cases its with
  | nil=>simp
  | cons a r'=>rw[if_neg (by simp)]
 refine wpAny_binaryOp_repeat_ref (T:="list") (U:="int") (by decide) ⟨_,e,rfl⟩ (fun s'=>typeIs_int s' k t) noFill_list_mul F.fills_int_mul F.slot_int_rmul repeat_list F.slot_int_index.lookup
  (call_meets F.slot_int_rmul (typeIs_int s k t) F.entry_int_rmul (F.args_int_rmul_2 _ _) (lm_int_rmul_list_any k t l its.toArray n d1 s1)
   ⟨e,rfl,⟨_,e,rfl⟩,call_meets F.slot_list_mul ⟨_,e,rfl⟩ F.entry_list_mul (F.args_list_mul_2 _ _) (lm_list_mul_any l its.toArray n d1 s1 k t hfit hcap hlong) ⟨e,?_⟩⟩)
 rw[hnew];exact⟨.ref _,_,I.lnew (t':=s.toks) (r.rep k.toNat) (by rw[a5P,Nat.mul_comm];exact hz),rfl,q _ I.fresh⟩
def oRep (x y:D):Option W:=match x,y with
 | .lst xs,.int k=>if(-(2^63)<=k/\k<2^63)/\xs.length*k.toNat<=lim then some (.o (.lst (List.replicate k.toNat xs).flatten)) else none
 | _,_=>none
theorem a0x {K:PySem.W.Frag}{A:Av}{H:Hp}{xs:List D}{vs:List V}(l:DenL K A H xs vs):∀n:Nat,DenL K A H (List.replicate n xs).flatten (List.replicate n vs).flatten
 | 0=>by simp;exact c9
 | n+1=>by rw[jG,jG,xV,xV];exact o7 l (a0x l n)
theorem a7W (ha:QX X a f)(hb:QX X b g):QX X (.BinOp a .Mult b pos) (fBin oRep f g):=C8 a5G (by
 intro A x y w v u H Q _ e hx hy q;unfold oRep at e;split at e
 ·rename_i xs k;split at e
  ·rename_i hk;cases e;obtain⟨a,vs,rfl,hq,l⟩:=hx;exact⟨a,k,vs,rfl,g4 hy,hq,hk.1.1,hk.1.2,by rw[<-a8 l];exact zJ hk.2 v5,fun p hp=>q _ _ (j6 hp _) (y0 hp (a0x l _))⟩
  ·cases e
 ·cases e) ha hb
def GlT (mg:Str->Option Value) (K:PySem.W.Frag) (x:Str) (ns:List Int):Prop:=∃a,mg x=some (.ref a)/\SqT K Emp a (ns.map V.int)
theorem a3K {ns:List Int}(hm:GlT X.mg X.K x ns)(hg:Gl X x:=by rfl)(hd:(x==("__debug__":Str))=false:=by decide):QX X (.Name x pos) (fC (.tup (ns.map D.int))):=by
 obtain⟨a,hm,hq⟩:=hm;refine⟨PE.weak (a5H (v:=.ref a) hg hm rfl hd) (a4r fun A H=>?_)⟩;rw[Den];refine⟨a,_,rfl,?_,G0 ns⟩;rcases hq with (q|⟨o,q⟩)|q
 ·cases q
 ·cases q
 ·exact .inr q
def oBits:D->Option W
 | .int i=>some (.v (.int (Builtin.Int.intBits i:Nat)))
 | _=>none
def fDPutT (fd:FX) (fk:FA) (fv:FX):FS:=fun ρ=>(fv ρ).bind fun p=>(fd p.2).bind fun q=>match q.1 with
 | .r i=>(fk q.2).bind fun z=>(takeAll z.2 (p.1.fz::z.1)).bind fun y=>match y.1 with
  | d::ds=>(dkeys ds).bind fun k=>match ownAt y.2 i with
   | some (.dT ks xs)=>if ks.length<lim/\ds.length<=lim then some (.nx (setOwn y.2 i (.dT (putKs ks k) (putX ks xs k d)))) else none
   | _=>none
  | _=>none
 | _=>none
end
def kd1:Key->D
 | .inl i=>.int i
 | .inr x=>.str x
def keyD (k:List Key):D:=.tup (k.map kd1)
theorem a12 {K:PySem.W.Frag}{A:Av}{H:Hp}(k:Key):Den K A H (kd1 k) (kV k):=by
 cases k with
 | inl i=>exact C5.mpr rfl
 | inr x=>exact Z3.mpr rfl
theorem a0t {K:PySem.W.Frag}{A:Av}{H:Hp}:∀ks:List Key,DenL K A H (ks.map kd1) (ks.map kV)
 | []=>c9
 | k::ks=>by rw[zQ,zQ];exact b9 (a12 k) (a0t ks)
inductive KeysAt (K:PySem.W.Frag) (H:Hp):List (List Key)->List Addr->Prop where
 | nil:KeysAt K H [] []
 | cons {k:List Key} {ks:List (List Key)} {b:Addr} {bs:List Addr} (q:SqT K H b (k.map kV)) (r:KeysAt K H ks bs):KeysAt K H (k::ks) (b::bs)
theorem V7 {K:PySem.W.Frag}{H:Hp}:∀{kvs:List (List Key×V)} {xs:List (List Key×Addr×Value)},KT K H kvs xs->KeysAt K H (kvs.map (·.1)) (xs.map (·.2.1))
 | _,_,.nil=>.nil
 | _,_,.cons h t=>.cons h.2.1 (V7 t)
theorem KeysAt.den {K:PySem.W.Frag}{A:Av}{H:Hp}:∀{ks:List (List Key)} {bs:List Addr},KeysAt K H ks bs->DenL K A H (ks.map keyD) (bs.map V.ref)
 | _,_,.nil=>c9
 | _,_,.cons q r=>by
  rw[zQ,zQ];refine b9 ?_ r.den;unfold keyD;rw[Den];exact⟨_,_,rfl,q,a0t _⟩
section
variable {X:Cx}{a e e' o:Expr}{es:List Expr}{pos p:Pos}{h:FX}{u:FT}{fa:FA}
theorem a04 (hc:X.calm=true):CallR X (.type "list") (fun vs H Q=>∃(p:Addr) (kvs:List (List Key×V)),vs=[.ref p]/\H p=some (.dT kvs)/\∀l bs,H l=none->KeysAt X.K H (kvs.map (·.1)) bs->Q (.ref l) (upd H l (.lst (bs.map V.ref)))):=by
 intro pins s σ H vs us Q I r h;obtain⟨p,kvs,rfl,hq,q⟩:=h;obtain⟨u,rfl,ru⟩:=vals1 r;cases ru;obtain⟨z,hs,xs,rel,o,es,h1,h2,h3,h4,h5⟩:=(show ObjOk X.K X.prog X.w H s.heap p (.dT kvs) from I.hok p _ hq);have len:kvs.length=xs.length:=xM rel;have sz:es.size=xs.length:=by rw[<-zK,h4,zH]
 have szl:es.size<=sizeLine:=by rw[sz,<-len];exact z
 refine PySem.W.kdl_call (a6q (es:=es) hs) (I.ok.hd hc) ⟨o,h1,h2,h3⟩ szl fun h' tk acc c' hk hS hacc=>?_;have ea:acc.toList=(xs.map (·.2.1)).map Value.ref:=by
  have e0:(xs.map (·.2.1)).map Value.ref=es.toList.map (·.key):=by rw[h4,jK,jK];rfl
  rw[e0];apply ext_getElem?;intro i;rw[zM,qE,zM]
  by_cases hi:i<es.size
  ·have hi2:i<acc.size:=by rw[hacc.1];exact hi
   obtain⟨e,he,hv⟩:=hacc.2 i acc[i] (by simp[hi2])
   rw[he,Array.getElem?_eq_getElem hi2,hv];rfl
  ·rw[xT (by rw[hacc.1];walk_at "o"),xT (by walk_at "o")];rfl
 refine⟨.ref s.heap.objs.size,_,I.laid (t':=tk) (o:=.lst ((xs.map (·.2.1)).map V.ref)) hk (zC _) ⟨?_,acc.toList,c',?_,by rw[Array.toArray_toList];exact hS⟩,rfl,q _ _ (I.hok.fresh (zC _)) (V7 rel)⟩
 ·rw[zH,zH,<-len];exact z
 ·rw[ea];exact N5 _
def gListD:D->Option W
 | .dT ks _=>some (.o (.lst (ks.map keyD)))
 | d=>gList d
theorem a2Q {α:Type}:∀{ks:List α} {vs:List V},ks.length=vs.length->(ks.zip vs).map (·.1)=ks
 | [],_,_=>by simp
 | _::_,[],h=>by simp at h
 | k::ks,v::vs,h=>by rw[jO,zQ,a2Q (by simpa using h)]
theorem a4L:PrA X (k1 gListD) (fun xs H Q=>(∃p ys,xs=[.ref p]/\(SqL X.K H p ys\/SqT X.K H p ys)/\∀l,H l=none->Q (.ref l) (upd H l (.lst ys)))\/
  ∃(p:Addr) (kvs:List (List Key×V)),xs=[.ref p]/\H p=some (.dT kvs)/\∀l bs,H l=none->KeysAt X.K H (kvs.map (·.1)) bs->Q (.ref l) (upd H l (.lst (bs.map V.ref)))):=fun A ds w vs H Q hA e l q=>by
 match ds,e,l with
 | [d],e,l=>
  have e:gListD d=some w:=e
  by_cases hd:∃ks xs,d= .dT ks xs
  ·obtain⟨ks,xs,rfl⟩:=hd;cases e;obtain⟨v,rfl,h⟩:=denRL1 l;obtain⟨a,us,rfl,hq,hl,lu⟩:=h;refine .inr ⟨a,_,rfl,hq,fun l bs hp hk=>q _ _ (j6 hp _) (y0 hp ?_)⟩;rw[a2Q (by rw[hl,a8 lu])] at hk
   exact hk.den
  ·have e':gList d=some w:=by
    cases d<;>first|exact e|exact absurd ⟨_,_,rfl⟩ hd
   exact .inl (a50 A [d] w vs H Q hA e' l q)
theorem a4W (hc:X.calm=true)(hm:X.mg "list"=none)(ha:QA X (e::es) fa)(hv:bootBuiltins "list"=some (.type "list"):=by rfl)(hg:Gl X "list":=by rfl)
  (he:starEach (e::es) X.env=(false,eval e X.env)::starEach es X.env:=by rfl) (hpl:(backTo pos (starEach es X.env)).any (·.1)=false:=by rfl):QX X (.Call (.Name "list" p) (e::es) [] pos) (fCall (k1 gListD) fa):=a0w (Y3.or (a04 hc)) a4L hv hm ha hg (by decide) (by decide) he hpl
def mExt (xs ds:List D):Option (W×List D):=match ds with
 | [d]=>(items d).bind fun ys=>if xs.length+ys.length<=lim then some (.v .non,xs++ys) else none
 | _=>none
end
section
variable {f g h:FX}{t:FT}{fa:FA}{ρ ρ1:Ev}{w z:W}{ws:List W}{d e x y:D}{ds xs ys:List D}{i j k:Nat}{m n:Int}{kl:List (List Key)}{kk:List Key}{kq:List Key}
theorem a4F:oIxG (.tup xs) d=oIx (.tup xs) d:=rfl
theorem a4M:oIxG (.lst xs) d=oIx (.lst xs) d:=rfl
theorem a8r (hk:tkey d=some kk)(hl:look kl xs kk=some e):oIxG (.dT kl xs) d=some (.v e):=by
 unfold oIxG;simp only[isDi,jD,lookG,hk,jS,bind_some,hl]
theorem nb_f {k:Bool}:nb false k= .v (.bl k):=rfl
theorem nb_t {k:Bool}:nb true k= .v (.bl (!k)):=rfl
def ge2 (fa:FA):Option (W×Ev)->Option (W×Ev)
 | some p=>fGet (fun _=>some p) fa p.2
 | none=>none
def ge3 (fa:FA) (w:W) (ρ:Ev):Option D->Option (W×Ev)
 | some d=>if isDi d=true then(fa ρ).bind fun q=>(takeAll q.2 q.1).bind fun z=>(dr z.2 w.fz).bind fun x=>match z.1 with
  | [y,e]=>(lookG x y).map fun r=>(.v (r.getD e),z.2)
  | _=>none
  else none
 | none=>none
def ge4 (w:W):Option (List W×Ev)->Option (W×Ev)
 | some q=>(takeAll q.2 q.1).bind fun z=>(dr z.2 w.fz).bind fun x=>match z.1 with
  | [y,e]=>(lookG x y).map fun r=>(.v (r.getD e),z.2)
  | _=>none
 | none=>none
def ge5 (w:W):Option (List D×Ev)->Option (W×Ev)
 | some z=>(dr z.2 w.fz).bind fun x=>match z.1 with
  | [y,e]=>(lookG x y).map fun r=>(.v (r.getD e),z.2)
  | _=>none
 | none=>none
def ge6 (y e:D) (ρ:Ev):Option D->Option (W×Ev)
 | some x=>(lookG x y).map fun r=>(.v (r.getD e),ρ)
 | none=>none
theorem r_ge:fGet f fa ρ=ge2 fa (f ρ):=by unfold ge2;cases e:f ρ with
 | none=>unfold fGet;rw[e];rfl
 | some p=>unfold fGet;rw[e]
theorem r_ge2:ge2 fa (some (w,ρ))=ge3 fa w ρ (dr ρ w.fz):=by unfold ge2 ge3 fGet;dsimp only[bind_some];cases dr ρ w.fz<;>rfl
theorem r_ge3_T:ge3 fa w ρ (some (.dT kl xs))=ge4 w (fa ρ):=by unfold ge3 ge4;simp only[isDi,jD];cases fa ρ<;>rfl
theorem r_ge3_K:ge3 fa w ρ (some (.dK kq xs))=ge4 w (fa ρ):=by unfold ge3 ge4;simp only[isDi,jD];cases fa ρ<;>rfl
theorem r_ge4:ge4 w (some (ws,ρ))=ge5 w (takeAll ρ ws):=by unfold ge4 ge5;dsimp only;cases takeAll ρ ws<;>rfl
theorem r_ge5:ge5 w (some ([y,e],ρ))=ge6 y e ρ (dr ρ w.fz):=by unfold ge5 ge6;dsimp only;cases dr ρ w.fz<;>rfl
theorem T2:∀ns:List Int,dkeys (ns.map D.int)=some (ns.map Sum.inl)
 | []=>rfl
 | n::ns=>by rw[zQ,dkeys,T2 ns];rfl
theorem P9 (ns:List Int):tkey (tupI ns)=some (ns.map Sum.inl):=T2 ns
def dp2 (fd:FX) (fk:FA):Option (W×Ev)->Option R
 | some p=>fDPutT fd fk (fun _=>some p) p.2
 | none=>none
def dp3 (w:W) (fk:FA):Option (W×Ev)->Option R
 | some q=>match q.1 with
  | .r i=>(fk q.2).bind fun z=>(takeAll z.2 (w.fz::z.1)).bind fun y=>match y.1 with
   | d::ds=>(dkeys ds).bind fun k=>match ownAt y.2 i with
    | some (.dT ks xs)=>if ks.length<lim/\ds.length<=lim then some (.nx (setOwn y.2 i (.dT (putKs ks k) (putX ks xs k d)))) else none
    | _=>none
   | _=>none
  | _=>none
 | none=>none
def dp4 (w:W) (i:Nat):Option (List W×Ev)->Option R
 | some z=>(takeAll z.2 (w.fz::z.1)).bind fun y=>match y.1 with
   | d::ds=>(dkeys ds).bind fun k=>match ownAt y.2 i with
    | some (.dT ks xs)=>if ks.length<lim/\ds.length<=lim then some (.nx (setOwn y.2 i (.dT (putKs ks k) (putX ks xs k d)))) else none
    | _=>none
   | _=>none
 | none=>none
def dp5 (i:Nat):Option (List D×Ev)->Option R
 | some y=>match y.1 with
   | d::ds=>(dkeys ds).bind fun k=>match ownAt y.2 i with
    | some (.dT ks xs)=>if ks.length<lim/\ds.length<=lim then some (.nx (setOwn y.2 i (.dT (putKs ks k) (putX ks xs k d)))) else none
    | _=>none
   | _=>none
 | none=>none
def dp6 (i:Nat) (d:D) (ds:List D) (ρ:Ev):Option (List Key)->Option D->Option R
 | some k,some (.dT ks xs)=>if ks.length<lim/\ds.length<=lim then some (.nx (setOwn ρ i (.dT (putKs ks k) (putX ks xs k d)))) else none
 | _,_=>none
theorem r_dp:fDPutT f fa g ρ=dp2 f fa (g ρ):=by unfold dp2;cases e:g ρ with
 | none=>unfold fDPutT;rw[e];rfl
 | some p=>unfold fDPutT;rw[e]
theorem r_dp2:dp2 f fa (some (w,ρ))=dp3 w fa (f ρ):=by unfold dp2 dp3 fDPutT;dsimp only[bind_some];cases f ρ<;>rfl
theorem r_dp3:dp3 w fa (some (.r i,ρ))=dp4 w i (fa ρ):=by unfold dp3 dp4;dsimp only;cases fa ρ<;>rfl
theorem r_dp4:dp4 w i (some (ws,ρ))=dp5 i (takeAll ρ (w.fz::ws)):=by unfold dp4 dp5;dsimp only;cases takeAll ρ (w.fz::ws)<;>rfl
theorem r_dp5:dp5 i (some (d::ds,ρ))=dp6 i d ds ρ (dkeys ds) (ownAt ρ i):=by
 unfold dp5 dp6;dsimp only;cases dkeys ds with
 | none=>cases ownAt ρ i<;>rfl
 | some k=>
  dsimp only[bind_some];cases ownAt ρ i with
  | none=>rfl
  | some x=>cases x<;>rfl
theorem r_dp6:dp6 i d ds ρ (some kk) (some (.dT kl xs))=if kl.length<lim/\ds.length<=lim then some (.nx (setOwn ρ i (.dT (putKs kl kk) (putX kl xs kk d)))) else none:=rfl
theorem dks_0:dkeys []=some []:=rfl
theorem dks_i:dkeys (.int m::ds)=(dkeys ds).map fun ks=>Sum.inl m::ks:=by rw[dkeys];rfl
theorem a6X:fDNewT ρ=some (.o (.dT [] []),ρ):=rfl
theorem o_rep (h:(-(2^63)<=n/\n<2^63)/\xs.length*n.toNat<=lim):oRep (.lst xs) (.int n)=some (.o (.lst (List.replicate n.toNat xs).flatten)):=if_pos h
theorem o_bits:oBits (.int n)=some (.v (.int (Builtin.Int.intBits n:Nat))):=by cases n<;>exact rfl
theorem r_ext:mExt xs [d]=(items d).bind fun ys=>if xs.length+ys.length<=lim then some (.v .non,xs++ys) else none:=rfl
theorem a8A:gListD (.dT kl xs)=some (.o (.lst (kl.map keyD))):=rfl
theorem a8D:gListD (.lst xs)=some (.o (.lst xs)):=rfl
theorem W1:gListD (.tup xs)=some (.o (.lst xs)):=rfl
def td2 (k j:Nat) (t:FT) (fa:FA):Option Ev->Option Ev
 | some ρ1=>(t ρ1).bind fun p=>if p.1=true then(fa p.2).bind (putTo k j) else some p.2
 | none=>none
def td3 (k j:Nat) (fa:FA):Option (Bool×Ev)->Option Ev
 | some p=>if p.1=true then(fa p.2).bind (putTo k j) else some p.2
 | none=>none
def td4 (k j:Nat):Option (List W×Ev)->Option Ev
 | some p=>putTo k j p
 | none=>none
def pt2 (k j:Nat):Option (List D×Ev)->Option Ev
 | some q=>(dkeys q.1).bind fun kk=>match q.2[j]? with
  | some (some (.v d))=>match ownAt q.2 k with
   | some (.dT ks zs)=>if ks.length<lim/\q.1.length<=lim then some (setOwn q.2 k (.dT (putKs ks kk) (putX ks zs kk d))) else none
   | _=>none
  | _=>none
 | none=>none
def pt3 (k:Nat) (n:Nat) (ρ:Ev):Option (List Key)->Option (Option W)->Option D->Option Ev
 | some kk,some (some (.v d)),some (.dT ks zs)=>if ks.length<lim/\n<=lim then some (setOwn ρ k (.dT (putKs ks kk) (putX ks zs kk d))) else none
 | _,_,_=>none
theorem r_td {gf:FG}:turnCD k gf t fa j d ρ=td2 k j t fa (gf d ρ):=by unfold turnCD td2;cases gf d ρ<;>rfl
theorem r_td2:td2 k j t fa (some ρ)=td3 k j fa (t ρ):=by unfold td2 td3;dsimp only;cases t ρ<;>rfl
theorem r_td3:td3 k j fa (some (true,ρ))=td4 k j (fa ρ):=by unfold td3 td4;simp only[jD];cases fa ρ<;>rfl
theorem r_td4:td4 k j (some (ws,ρ))=pt2 k j (takeAll ρ ws):=by unfold td4 putTo pt2;dsimp only;cases takeAll ρ ws<;>rfl
theorem r_pt2:pt2 k j (some (ds,ρ))=pt3 k ds.length ρ (dkeys ds) ρ[j]? (ownAt ρ k):=by
 unfold pt2 pt3;dsimp only;cases dkeys ds with
 | none=>rfl
 | some kk=>
  dsimp only[bind_some];cases ρ[j]? with
  | none=>rfl
  | some o=>
   cases o with
   | none=>rfl
   | some w=>
    cases w with
    | v d=>
     cases ownAt ρ k with
     | none=>rfl
     | some x=>cases x<;>rfl
    | _=>rfl
theorem r_pt3 {n:Nat}:pt3 k n ρ (some kk) (some (some (.v d))) (some (.dT kl xs))=if kl.length<lim/\n<=lim then some (setOwn ρ k (.dT (putKs kl kk) (putX kl xs kk d))) else none:=rfl
end
theorem G5 {a b:List Int}(h:a.map (Sum.inl:Int->Key)=b.map Sum.inl):a=b:=by
 induction a generalizing b with
 | nil=>cases b with|nil=>rfl|cons _ _=>cases h
 | cons x a ih=>cases b with
  | nil=>cases h
  | cons y b=>rw[zQ,zQ] at h;injection h with h1 h2;injection h1 with h1;rw[h1,ih h2]
theorem o6 (q:Rat):lf (ratD q)=true:=rfl
theorem a4a (p q:Rat):0<(p.den:Int)*q.den:=Int.mul_pos (by have:=p.den_pos;walk_at "o") (by have:=q.den_pos;walk_at "o")
theorem a3M {p q:Rat}{m n:Nat}(hp:Sz m p)(hq:Sz n q)(h:m+n<=8000):mOk p.num q.den/\mOk q.num p.den/\mOk p.den q.den/\(0<(p.den:Int)*q.den)/\((p.den:Int)*q.den).natAbs<big:=by
 have a1:=hp.1;have a2:=hp.2;have b1:=hq.1;have b2:=hq.2;exact⟨a0b a1 (by simpa using b2) (by walk_at "o") (by walk_at "o"),a0b b1 (by simpa using a2) (by walk_at "o") (by walk_at "o"),a0b (m:=m) (n:=n) (by simpa using a2) (by simpa using b2) (by walk_at "o") (by walk_at "o"),a4a p q,a5Y (m:=m) (n:=n) (by simpa using a2) (by simpa using b2) h⟩
def sumR:List Rat->Rat->Rat
 | [],r=>r
 | q::qs,r=>sumR qs (r+q)
theorem a2q (t b:Int):Int.gcd (if t<0 then -t else t) b=Int.gcd t b:=by
 unfold Int.gcd;congr 1
 split<;>walk_at "o"
theorem a2h {t b:Int}(hb:0<b)(hs:b.natAbs<big):dOk ((Int.gcd t b:Nat):Int):=by
 have h1:0<Int.gcd t b:=Int.gcd_pos_iff.mpr (.inr (by walk_at "o"))
 have h2:Int.gcd t b<=b.natAbs:=Int.gcd_le_natAbs_right t (by walk_at "o")
 exact⟨by walk_at "o",by walk_at "o"⟩
theorem C1 {C:Prop}{b:D->FS}{xs:List D}{ρ:Ev}{r:Option R}(e:loopF b xs ρ=r)(I:Nat->Ev->Prop)(h0:I 0 ρ)(st:∀i x ρ,xs[i]? =some x->I i ρ->∃ρ',b x ρ=some (.nx ρ')/\I (i+1) ρ')(c:∀ρ',r=some (.nx ρ')->I xs.length ρ'->C):C:=by
 have key:∀(ys:List D) (k:Nat) (ρ:Ev),xs.drop k=ys->I k ρ->k<=xs.length->∃ρ',loopF b ys ρ=some (.nx ρ')/\I xs.length ρ':=by
  intro ys
  induction ys with
  | nil=>
   intro k ρ hk h hl
   have:k=xs.length:=by
    have:=List.drop_eq_nil_iff.mp hk;walk_at "o"
   exact⟨ρ,rfl,this▸h⟩
  | cons y ys ih=>
   intro k ρ hk h hl;have hx:xs[k]? =some y:=by
    have:=congrArg (·[0]?) hk
    simpa using this
   have lt:=(zE.mp hx).1;obtain⟨ρ1,e1,i1⟩:=st k y ρ hx h;obtain⟨ρ2,e2,i2⟩:=ih (k+1) ρ1 (by rw[<-drop_drop,hk];rfl) i1 lt
   exact⟨ρ2,by rw[loopF,e1];exact e2,i2⟩
 obtain⟨ρ',e',i⟩:=key xs 0 ρ (by simp) h0 (qW _)
 exact c ρ' (e.symm.trans e') i
theorem a1G {m:Int}{n i:Nat}{x:D}(h:(rngD m n)[i]? =some x):x= .int (m+i)/\i<n:=by
 unfold rngD at h;rw[qE] at h
 by_cases hi:i<n
 ·rw[List.getElem?_range hi] at h;cases h;exact⟨rfl,hi⟩
 ·rw[List.getElem?_eq_none (by simpa using hi)] at h;cases h
def Sm (n:Int):Prop:=0<n/\n.natAbs<2^390
theorem Sm.pos {n:Int}(h:Sm n):0<n:=h.1
def Pot (b:Nat) (d:D):Prop:=∃r c s:Int,d= .lst [.int r,.int c,.int s]/\0<=c/\c<=b/\0<=s/\s<2147483647
theorem Pot.mono {b b':Nat}{d:D}(h:Pot b d)(hb:b<=b'):Pot b' d:=by
 obtain⟨r,c,s,e,h1,h2,h3⟩:=h;exact⟨r,c,s,e,h1,by walk_at "o",h3⟩
theorem Pot.lf {b:Nat}{d:D}(h:Pot b d):lfC d=true:=by obtain⟨r,c,s,rfl,_⟩:=h;rfl
section
variable {ρ:Ev}{i:Nat}{d:D}{xs:List D}
def fn2 (ρ:Ev):Option (Option W)->Option (List D×Ev)
 | some (some (.v d))=>(items d).map fun xs=>(xs,ρ)
 | some (some (.r _))=>none
 | some (some w)=>match w.own with
  | some (.lst xs)=>some (xs,ρ)
  | _=>none
 | _=>none
def fn3 (ρ:Ev):Option (List D)->Option (List D×Ev)
 | some xs=>some (xs,ρ)
 | none=>none
theorem r_fn:fiName i ρ=fn2 ρ ρ[i]?:=by
 unfold fiName fn2;cases ρ[i]? with
 | none=>rfl
 | some o=>cases o with
  | none=>rfl
  | some w=>cases w<;>rfl
theorem a3T:fn2 ρ (some (some (.v d)))=fn3 ρ (items d):=by
 show(items d).map _=_;unfold fn3;cases items d<;>rfl
theorem r_fn_o:fn2 ρ (some (some (.o (.lst xs))))=some (xs,ρ):=rfl
theorem r_fn_l:fn2 ρ (some (some (.l (.lst xs))))=some (xs,ρ):=rfl
theorem a6O:fn3 ρ (some xs)=some (xs,ρ):=rfl
end
mutual
def toP:D->PyData
 | .non=>.none
 | .bl b=>.bool b
 | .int i=>.int i
 | .str x=>.str x
 | .tup xs=>.tuple (toPs xs)
 | .lst xs=>.list (toPs xs)
 | _=>.none
def toPs:List D->List PyData
 | []=>[]
 | x::xs=>toP x::toPs xs
end
section
open Classical in
end
section
variable {X:Cx}{a:Expr}{f:FX}{pos:Pos}
theorem a5R {ta:TE}(ha:PE X a ta):PE X (.UnaryOp .Not a pos) (fun σ H Q=>ta σ H fun x H'=>∃k,TruV X.K x H' k/\Q (.bl (!k)) H'):=by
 intro pins s σ H Q I h;refine UnaryOp_ (thn (ha pins s σ H _ I h) fun v s1 ⟨x,H1,I1,r1,q1⟩=>?_);obtain⟨k,q1,q2⟩:=q1;exact not_of (qD (a31 pins s1 σ H1 x v (fun k' H'=>Q (.bl (!k')) H') I1 r1 ⟨k,q1,q2⟩) (fun b s2 ⟨H2,I2,q3⟩=>⟨.bl (!b),H2,I2,rfl,q3⟩) (fun _ _ z=>z))
def fNotT (f:FX):FX:=fun ρ=>(fTru f ρ).map fun p=>(.v (.bl (!p.1)),p.2)
theorem a5T (ha:QX X a f):QX X (.UnaryOp .Not a pos) (fNotT f):=⟨PE.weak (a5R ha.to) fun σ H Q h0=>tXe h0 fun P O L ρ w0 ρ' r e q=>by
 unfold fNotT fTru at e;cases e1:f ρ with
 | none=>rw[e1] at e;cases e
 | some p=>
  obtain⟨w,ρ1⟩:=p;rw[e1] at e;simp only[bind_some] at e;cases e2:dr ρ1 w.fz with
  | none=>rw[e2] at e;cases e
  | some d=>
   rw[e2] at e;simp only[bind_some] at e;cases e3:truth d with
   | none=>rw[e3] at e;cases e
   | some k'=>
    rw[e3] at e;cases e
    exact⟨P,O,L,ρ,w,_,r,e1,fun v H1 H' r1 s1 d1=>⟨k',a13 e3 (E6 (r1.grow s1) e2 (d1.fz r1 s1)),q _ H' H' (r1.grow s1) (Same.refl _) t3⟩⟩⟩
end
section
variable {f:FX}{ρ:Ev}{k:Bool}
def nt2:Option (Bool×Ev)->Option (W×Ev)
 | some p=>some (.v (.bl (!p.1)),p.2)
 | none=>none
theorem r_nt:fNotT f ρ=nt2 (tru2 (f ρ)):=by unfold fNotT;rw[a4E];unfold nt2;cases tru2 (f ρ)<;>rfl
theorem a67:nt2 (some (k,ρ))=some (.v (.bl (!k)),ρ):=rfl
end
section
variable {X:Cx}{a b:Expr}{f g:FX}{pos:Pos}
abbrev fShr:=fBin (oI (fun _ j=>0<=j) fun i j=>.int (i/2^j.toNat))
abbrev fBand:=fBin (oI0 fun i j=>.int (Builtin.bitAnd i j))
theorem a7y (ha:QX X a f)(hb:QX X b g):QX X (.BinOp a .RShift b pos) (fShr f g):=C8 a72 kI ha hb
theorem a59 (ha:QX X a f)(hb:QX X b g):QX X (.BinOp a .BitAnd b pos) (fBand f g):=C8 a8n kI0 ha hb
end
def DtK (a:Addr) (ks:List (List Key)) (H:Hp):Prop:=∃kvs,H a=some (.dT kvs)/\kvs.map (·.1)=ks
def ItT (K:PySem.W.Frag) (a:Addr) (ks:List (List Key)):It:=
 ⟨fun i H=>DtK a ks H/\i<ks.length,fun i H x H'=>H'=H/\∀k,ks[i]? =some k->∃b,x= .ref b/\SqT K H b (k.map kV),fun i H=>DtK a ks H/\i=ks.length⟩
theorem a1M {K:PySem.W.Frag}{P:Program}{w:World}{H:Hp}{h:Heap}{a:Addr}{ks:List (List Key)}(ok:HOk K P w H h)(hq:DtK a ks H):(a==sysModules)=false/\∃es:Array DictEntry,DRaw h a es ks.length/\es.size=ks.length/\∀(i:Nat) (k:List Key),ks[i]? =some k->∃(e:DictEntry) (b:Addr),es[i]? =some e/\e.key=Value.ref b/\SqT K H b (k.map kV):=by
 obtain⟨kvs,e,rfl⟩:=hq;obtain⟨z,hs,xs,rel,o,es,h1,h2,h3,h4,h5⟩:=(show ObjOk K P w H h a (.dT kvs) from ok a _ e);have len:∀{kvs:List (List Key×V)} {xs:List (List Key×Addr×Value)},Paired (fun(p:List Key×V) (q:List Key×Addr×Value)=>p.1=q.1/\SqT K H q.2.1 (p.1.map kV)/\RelV p.2 q.2.2) kvs xs->xs.length=kvs.length/\∀(i:Nat) (p:List Key×V),kvs[i]? =some p->∃q:List Key×Addr×Value,xs[i]? =some q/\SqT K H q.2.1 (p.1.map kV):=fun{kvs xs} r=>by
  induction r with
  | nil=>exact⟨rfl,fun i p z=>by simp at z⟩
  | cons hd _ ih=>
   refine⟨by rw[qC,qC,ih.1],fun i p z=>?_⟩
   cases i with
   | zero=>cases z;exact⟨_,rfl,hd.2.1⟩
   | succ i=>exact ih.2 i p z
 have lx:=len rel;have sz:es.size=kvs.length:=by rw[<-zK,h4,zH,lx.1]
 refine⟨hs,es,⟨o,h1,h2,by rw[zH];exact h3⟩,by rw[sz,zH],fun i k hk=>?_⟩
 rw[qE] at hk;cases hp:kvs[i]? with
 | none=>rw[hp] at hk;cases hk
 | some p=>
  rw[hp] at hk;cases hk;obtain⟨q,hq,hH⟩:=lx.2 i p hp;refine⟨entryOfKey (tupleKind (mixKind P w)) q,q.2.1,?_,rfl,hH⟩;rw[<-zM,h4,qE,hq];rfl
theorem a5N {P:Program}{w:World}{K:PySem.W.Frag}{tg:Expr}(a it:Addr)(ks:List (List Key)):Turn P w K tg (ItT K a ks) [it] it (fun i h=>h.IsKeyIter it a i ks.length ks.length) where
 mem:=by simp
 obj:=fun i h st b hb=>by
  have e:b=it:=by simpa using hb
  subst e;obtain⟨o,e,c,d⟩:=st;exact⟨o,e,fun v z=>by rw[d] at z;cases z⟩
 keep:=fun i h h' st k=>st.at fun o e=>k it (by simp) o e
 item:=by
  intro X hP hw hK hc i pins s σ H E I hf st hg;subst hP hw hK;obtain⟨hq,hi⟩:=hg;obtain⟨hs,es,hm,sz,at_⟩:=a1M I.hok hq;have ek:=jY hi;obtain⟨e,b,he,eb,hH⟩:=at_ i _ ek;obtain⟨f0,f1,f2,f3,f4,f5⟩:=hf it (by simp)
  refine a1d (by rw[sz];exact st) hm he fun h' st' sb=>?_
  rw[sz] at st';have I1:Inv X pins σ H {s with heap:=h'}:=I.turned (t':=s.toks) (fun b o hb e=>(sb.2 b hb).trans e) f0 f1 f3 f4 f5
  obtain⟨o,e2,c,d⟩:=id st';exact⟨e.key,rfl,a2V (s:={s with heap:=h'}) e2 c d (by decide) ⟨.ref b,H,I1,eb,⟨rfl,fun k' hk'=>by rw[ek] at hk';cases hk';exact⟨b,rfl,hH⟩⟩,st',fun b hb=>(hf b hb).1⟩⟩
 done:=by
  intro X hP hw hK hc i pins s σ H E I hf st hg;subst hP hw hK;obtain⟨hq,hi⟩:=hg;obtain⟨hs,es,hm,sz,at_⟩:=a1M I.hok hq;obtain⟨f0,f1,f2,f3,f4,f5⟩:=hf it (by simp)
  exact a1S (I.ok.hd hc) (by rw[sz];exact st) hm (xT (by walk_at "o")) fun h' eb=>⟨rfl,I.turned (t':=s.toks) (fun b o hb e=>eb b o hb e) f0 f1 f3 f4 f5⟩
 self:=fun _ _ _ _ _ st h=>wpAny_pyIter_keyiter st h
section
variable {X:Cx}{f:FX}
def iDt (K:PySem.W.Frag) (tl:TE):TI:=fun σ H R=>tl σ H fun x H1=>∃a ks,x= .ref a/\DtK a ks H1/\R (ItT K a ks) H1
theorem pi_dt {tg l:Expr}{tl:TE}(hl:PE X l tl):PI X tg l (iDt X.K tl):=by
 intro pins s σ H R I h;refine thn (hl pins s σ H _ I h) fun v s1 ⟨x,H1,I1,r1,a,ks,e,hq,q⟩=>?_;subst e;cases r1;obtain⟨hs,es,hm,sz,_⟩:=a1M I1.hok hq;refine a0R hs hm ?_;refine⟨s1.heap.objs.size,[s1.heap.objs.size],_,_,H1,rfl,I1.kept (t':=s1.toks) fun b o e=>zI _ e,a5N a _ ks,⟨_,qK _ rfl,rfl,by rw[sz];rfl⟩,fun b hb=>?_,q⟩
 have e:b=s1.heap.objs.size:=by simpa using hb
 subst e;exact I1.fpOk (zC _) (I1.hok.fresh (zC _))
def fiDt (f:FX):FI:=fun ρ=>(f ρ).bind fun p=>(takeAll p.2 [p.1.fz]).bind fun q=>match q.1 with
 | [.dT ks _]=>some (ks.map keyD,q.2)
 | _=>none
theorem a1i {K:PySem.W.Frag}{A:Av}{H:Hp}:∀k:List Key,DenL K A H (k.map kd1) (k.map kV)
 | []=>c9
 | a::k=>b9 (a12 a) (a1i k)
theorem qi_dt {tg l:Expr}(hl:QX X l f):QI X tg l (fiDt f):=⟨PI.weak (pi_dt hl.to) fun σ H R h0=>tIe h0 fun P O L ρ xs ρ' r e q=>by
 unfold fiDt at e;obtain⟨⟨w,ρ1⟩,e1,e⟩:=obs e;dsimp only at e;obtain⟨⟨ds,ρ2⟩,e2,e⟩:=obs e;dsimp only at e;split at e
 ·rename_i ks ys;cases e;refine⟨P,O,L,ρ,w,ρ1,r,e1,fun v H1 H' r1 s1 d1=>?_⟩;obtain⟨r2,l2,_⟩:=l5 (vs:=[v]) (r1.grow s1) e2 ⟨v,[],rfl,d1.fz r1 s1,rfl⟩;obtain⟨v',ev,h'⟩:=denL1 l2;cases ev;have r3:=r2.more (p:=(.dT ks ys,v)) h';have hh:Holds ((.dT ks ys,v)::P) P:=fun p hp=>zN _ hp;have z:=h';rw[Den] at z;obtain⟨a,vs,rfl,⟨hq,_⟩,hlen,l⟩:=z;have zk:∀{us:List V},us.length=ks.length->(ks.zip us).map (·.1)=ks:=fun{us} h=>by rw[List.map_fst_zip (by walk_at "o")]
  refine⟨a,ks,rfl,⟨_,hq,zk (by rw[<-a8 l];exact hlen.symm)⟩,q _ H' _ r3 hh fun Y O' L' ρ' σ' Hh hY rr=>?_⟩
  have z:=rr.head;rw[hY] at z;rw[Den] at z;obtain⟨a',vs',ea,⟨hq',_⟩,hlen',l'⟩:=z;cases ea;have hk:DtK a ks Hh:=⟨_,hq',zk (by rw[<-a8 l'];exact hlen'.symm)⟩
  refine⟨fun i x ex=>?_,⟨hk,zH _⟩⟩;rw[qE] at ex;cases ek:ks[i]? with
  | none=>rw[ek] at ex;cases ex
  | some k=>
   rw[ek] at ex;cases ex;refine⟨⟨hk,(zE.mp ek).1⟩,fun u H2 ⟨y1,y2⟩=>?_⟩;subst y1;obtain⟨b,rfl,hb⟩:=y2 k ek;refine⟨Same.refl _,?_⟩;unfold keyD;rw[Den];exact⟨b,_,rfl,hb,a1i k⟩
 ·cases e⟩
end
section
variable {f:FX}{ρ:Ev}{w:W}{xs:List D}{kt:List (List Key)}
def it2:Option (W×Ev)->Option (List D×Ev)
 | some p=>(takeAll p.2 [p.1.fz]).bind fun q=>match q.1 with
  | [.dT ks _]=>some (ks.map keyD,q.2)
  | _=>none
 | none=>none
def it3:Option (List D×Ev)->Option (List D×Ev)
 | some q=>match q.1 with
  | [.dT ks _]=>some (ks.map keyD,q.2)
  | _=>none
 | none=>none
theorem r_it:fiDt f ρ=it2 (f ρ):=by unfold fiDt it2;cases f ρ<;>rfl
theorem r_it2:it2 (some (w,ρ))=it3 (takeAll ρ [w.fz]):=by unfold it2 it3;dsimp only;cases takeAll ρ [w.fz]<;>rfl
theorem r_it3:it3 (some ([.dT kt xs],ρ))=some (kt.map keyD,ρ):=rfl
end
section
variable {X:Cx}{a b e o:Expr}{pos p p2:Pos}{f g h:FX}{t u:FT}
def fDPutV (fd fk fv:FX):FS:=fun ρ=>(fv ρ).bind fun p=>(fd p.2).bind fun q=>match q.1 with
 | .r i=>(fk q.2).bind fun z=>(takeAll z.2 [p.1.fz,z.1.fz]).bind fun y=>match y.1 with
  | [d,kd]=>(tkey kd).bind fun k=>match ownAt y.2 i with
   | some (.dT ks xs)=>if ks.length<lim then some (.nx (setOwn y.2 i (.dT (putKs ks k) (putX ks xs k d)))) else none
   | _=>none
  | _=>none
 | _=>none
theorem a0v {k:Nat}{i':Expr}{p2:Pos}(hr:Room k X.A)(hd:QX X o f)(ha:QX X i' h)(hv:QX X e g)(hs:swapsWith e (some (.Subscript o i' p2)) pos.line X.env=pure false:=by rfl):
  QS X (.Assign [.Subscript o i' p2] e pos) (fDPutV f h g):=by
 refine⟨PS.weak (a57 (a48 hr) hd.to ha.to hv.to hs) fun E σ H h0=>tSe h0 fun P O L ρ r rp e q=>?_⟩;unfold fDPutV at e;obtain⟨⟨w1,ρ1⟩,e1,e⟩:=obs e;dsimp only at e;obtain⟨⟨w2,ρ2⟩,e2,e⟩:=obs e;dsimp only at e;split at e
 ·rename_i i;obtain⟨⟨w3,ρ3⟩,e3,e⟩:=obs e;dsimp only at e;obtain⟨⟨dl,ρ4⟩,e4,e⟩:=obs e;dsimp only at e;split at e
  ·rename_i d kd;cases e5:tkey kd with
   | none=>rw[e5] at e;cases e
   | some kk=>
    rw[e5] at e;simp only[bind_some] at e;split at e
    ·rename_i ks xs e6;split at e
     ·rename_i hl;cases e;refine⟨P,O,L,ρ,w1,ρ1,rp,e1,fun v H1 H1' r1 s1 d1=>?_⟩;obtain⟨P',r1',k1⟩:=hold (r1.grow s1) (d1.fz r1 s1);refine⟨P',O,L,ρ1,_,ρ2,r1',e2,fun v2 H2 H2' r2 s2 d2=>?_⟩;have d2:σ[i]? =some (some v2):=d2;refine⟨P',O,L,ρ2,w3,ρ3,r2.grow s2,e3,fun u3 H3 H3' r3 s3 d3=>?_⟩;have d3':=d3.fz r3 s3;obtain⟨r3',dv⟩:=k1 _ H3' (r3.grow s3);obtain⟨r4,l4,_⟩:=l5 (vs:=[v,u3]) r3' e4 ⟨v,[u3],rfl,dv,u3,[],rfl,d3',rfl⟩;obtain⟨v',u',ev,hd',hk'⟩:=denL2 l4;cases ev;obtain⟨b,ek,hsq⟩:=a1c e5 (A9 hk');subst ek;obtain⟨w0,q0,ow⟩:=l6 e6;obtain⟨a,h1,vs,h4,hkl,lz⟩:=r4.obj q0 ow;rw[d2] at h1;cases h1;have hlv:ks.length=vs.length:=by rw[hkl,a8 lz]
      refine⟨a,_,rfl,DPut.t (k:=kk) h4 hsq ?_,?_⟩
      ·rw[List.length_zip,hlv,Nat.min_self,<-hlv];exact zG hl v5
      ·rw[a6i hlv];have g0:∀u,Go (AvO O ρ4 σ) (AvO O ρ4 σ) (fun b=>b=a) H3' (upd H3' a u):=fun u=>⟨fun b o eb nb=>by rw[b8 nb];exact eb,fun b z=>by rw[z];exact⟨.inr ⟨i,w0,_,q0,ow,d2⟩,_,h4,trivial⟩,fun b z=>.inl z⟩
       exact q σ _ (r4.mut (d:=.dT (putKs ks kk) (putX ks xs kk d)) e6 d2 (fun b o eb nb=>by rw[b8 nb];exact eb) ⟨_,o4,a0I hkl,m7 (g0 _) _ _ (a4O lz hd')⟩)
     ·cases e
    ·cases e
  ·cases e
 ·cases e
end
section
variable {f g h:FX}{ρ:Ev}{w:W}{d kd:D}{i:Nat}{xs:List D}{kl:List (List Key)}{kk:List Key}
def dv2 (f h:FX):Option (W×Ev)->Option R
 | some p=>fDPutV f h (fun _=>some p) p.2
 | none=>none
def dv3 (w:W) (h:FX):Option (W×Ev)->Option R
 | some q=>match q.1 with
  | .r i=>(h q.2).bind fun z=>(takeAll z.2 [w.fz,z.1.fz]).bind fun y=>match y.1 with
   | [d,kd]=>(tkey kd).bind fun k=>match ownAt y.2 i with
    | some (.dT ks xs)=>if ks.length<lim then some (.nx (setOwn y.2 i (.dT (putKs ks k) (putX ks xs k d)))) else none
    | _=>none
   | _=>none
  | _=>none
 | none=>none
def dv4 (w:W) (i:Nat):Option (W×Ev)->Option R
 | some z=>(takeAll z.2 [w.fz,z.1.fz]).bind fun y=>match y.1 with
   | [d,kd]=>(tkey kd).bind fun k=>match ownAt y.2 i with
    | some (.dT ks xs)=>if ks.length<lim then some (.nx (setOwn y.2 i (.dT (putKs ks k) (putX ks xs k d)))) else none
    | _=>none
   | _=>none
 | none=>none
def dv5 (i:Nat):Option (List D×Ev)->Option R
 | some y=>match y.1 with
   | [d,kd]=>(tkey kd).bind fun k=>match ownAt y.2 i with
    | some (.dT ks xs)=>if ks.length<lim then some (.nx (setOwn y.2 i (.dT (putKs ks k) (putX ks xs k d)))) else none
    | _=>none
   | _=>none
 | none=>none
def dv6 (i:Nat) (d:D) (ρ:Ev):Option (List Key)->Option D->Option R
 | some k,some (.dT ks xs)=>if ks.length<lim then some (.nx (setOwn ρ i (.dT (putKs ks k) (putX ks xs k d)))) else none
 | _,_=>none
theorem r_dv:fDPutV f h g ρ=dv2 f h (g ρ):=by unfold dv2;cases e:g ρ with
 | none=>unfold fDPutV;rw[e];rfl
 | some p=>unfold fDPutV;rw[e]
theorem a7f:dv2 f h (some (w,ρ))=dv3 w h (f ρ):=by unfold dv2 dv3 fDPutV;dsimp only[bind_some];cases f ρ<;>rfl
theorem a6B:dv3 w h (some (.r i,ρ))=dv4 w i (h ρ):=by unfold dv3 dv4;dsimp only;cases h ρ<;>rfl
theorem a6F {w2:W}:dv4 w i (some (w2,ρ))=dv5 i (takeAll ρ [w.fz,w2.fz]):=by unfold dv4 dv5;dsimp only;cases takeAll ρ [w.fz,w2.fz]<;>rfl
theorem a6Q:dv5 i (some ([d,kd],ρ))=dv6 i d ρ (tkey kd) (ownAt ρ i):=by
 unfold dv5 dv6;dsimp only;cases tkey kd with
 | none=>cases ownAt ρ i<;>rfl
 | some k=>
  dsimp only[bind_some];cases ownAt ρ i with
  | none=>rfl
  | some x=>cases x<;>rfl
theorem a7u:dv6 i d ρ (some kk) (some (.dT kl xs))=if kl.length<lim then some (.nx (setOwn ρ i (.dT (putKs kl kk) (putX kl xs kk d)))) else none:=rfl
end
end Z
def rwN:=(".lim .r_nt .a67 .r_fn .a3T .a6O .a0S .a4F .a4M .a6X .W1 .ix_0 .it_t .r_r1 .a6E .r_tc .a66 .a17 .a1R .a69 .a7l .a7w .a6I .a2s .a2w .a2p .r_c .a4e .a4N .a2t .a2X .a30 .a5d .a5p .a2y .a2H .a4q .a7m .a5y .a34 .a47 .a4k .r_un .a7q .a6N .T5 .a4A .a4E .a5C .a0X .a6w .a40 .a6L .r_or .a16 .a2R .a5e .a5u .a0W .a7h .a4o .a2I .a25 .a14 .a2e .a2K .a4g .a3Z .a4I .a6D .a6J .a24 .a21 .a37 .a2T .a2c .r_k1 .r_k2 .a65 .a5E .a5m .a4d .r_dl .a6H .a6M .a7e .r_sl .a7g .a68 .a7b .a60 .a5h .r_o0 .r_o1 .a7a .a45 .U6 .V8 .a63 .a1X .a15 .a2O .a0F .r_ifS .a2x .a2G .a7s .a2j .a18 .r_ag .a61 .a6Z .a62 .a2f .a3J .a2k .a6V .a46 .r_gs .a6y .a6A .a7j .a4t .a2b .r_is .a7k .a43 .a5s .a6Y .a3X .a4V .a2M .r_mu .a6R .a7r .a7o .a7t .a7p .a6P .a6W .a1f .a4H .V9 .o_i0 .o_i .a10 .a2N .a38 .a4c .a44 .a2C .a2u .a7c .V4 .o_d2 .a_0 .a_1 .a6G .a6T .Q7 .a2g .a2Y .a4n .a3W .X7 .a7d .a6S .a3G .a5B .a5t .a7n .a6U .W.own .start0 .deq .flatE .lf .noR .frzL qC length_nil zQ map_nil List.replicate xP nil_append cons_append xL qT List.set_cons_zero List.set_cons_succ bind_some jS Option.map_none jD xA qZ xH Nat.reduceAdd Nat.reduceSub jL Nat.add_zero Nat.add_one_sub_one and_self true_and Bool.not_true Bool.not_false ite_self Nat.reduceLeDiff beq_self_eq_true".splitOn " ")
local macro_rules|`(tactic|walk_at "z r")=>do
 let xs:=(rwN.map fun s=>Lean.mkIdent (if s.startsWith "." then "Z"++s else s).toName).toArray
 `(tactic|simp only[$[$xs:ident],*])
local macro_rules|`(tactic| walk_at "q") => `(tactic| repeat(first|walk_at "z r"))
local macro_rules|`(tactic|walk_at "z i")=>do
 let xs:=((rwN.filter fun s=>![".r_ifS"].contains s).map fun s=>Lean.mkIdent (if s.startsWith "." then "Z"++s else s).toName).toArray
 `(tactic|simp only[$[$xs:ident],*])
set_option maxHeartbeats 1500000
namespace Q22
open PySem L2 Z
abbrev LO:=List D->Option W
abbrev LL:=D->List D->Option (W×D)
local macro_rules|`(tactic| walk_at "c") => `(tactic| exact⟨rfl, rfl, rfl, by decide +kernel, rfl, by decide +kernel, by decide +kernel⟩)
def top (i:Nat):Stmt:=PySem.Challenge.pw_twainhoard_k22_sums_of_papers.main.body.getD i (.Pass ⟨0,0,0,0⟩)
section
variable {P:Program}{w:World}{K:PySem.W.Frag}{mg:Str->Option Value}{base:Heap}{f:Addr}{fd:FuncData}{k:Nat}
abbrev a0Y (mg:Str->Option Value) (K:PySem.W.Frag):Prop:=GlT mg K "NOUGHT" [0,1]
abbrev t5:Stmt:=top 5
theorem z4:FnScope ["one","other"] ["one","other"] (defScope t5):=by walk_at "c"
def B4 (g:LO):Prop:=∀a b:Int,0<=a->0<=b->g [.int a,.int b]=some (.v (.int (Int.gcd a b:Nat)))
theorem L0 (F:Fun K "common_divisor" "common_divisor" t5 f fd)(B:Binds K fd ["one","other"] [])(hm:mg "common_divisor"=some (.ref f)):∃g,Fn P w K mg base "common_divisor" (k+1) g/\B4 g:=by
 have nd:=z4.nd
 refine⟨_,A5 F z4 B hm rfl rfl (fun cdv A outer s H E hr=>(b6 (a0L qL (a2B (a5 1) a7) (b7 (a1y 0 1 rfl nd (a6 (a5 1) (a6 (D2 (a5 0) (a5 1)) a9)) rfl)))
  (b7 (n9 (a5 0))))),?_⟩
 intro a b ha hb;have l:=a0J (i:=0) (j:=1) (ρ:=[some (.v (.int a)),some (.v (.int b))]) (by decide) ha hb rfl rfl
 repeat(first|walk_at "z r" | rw[l])
abbrev a0f:Stmt:=top 6
theorem a0D:FnScope ["top","bottom","common"] ["top","bottom"] (defScope a0f):=by walk_at "c"
def a0e (g:LO):Prop:=∀t b:Int,0<b->b.natAbs<big->g [.int t,.int b]=some (.v (ratD (Rat.divInt t b)))
theorem a5q {t8:LO}(t7:Fn P w K mg base "common_divisor" k t8)(u4:B4 t8)(m_abs:mg "abs"=none)(F:Fun K "ratio" "ratio" a0f f fd)(B:Binds K fd ["top","bottom"] [])(hm:mg "ratio"=some (.ref f)):∃g,Fn P w K mg base "ratio" (k+1) g/\a0e g:=by
 have nd:=a0D.nd
 refine⟨_,A5 F a0D B hm rfl rfl (fun cdv A outer s H E hr=>(b6 (O6 (a2S hr (a5 1) a7) (b7 a4s) z9)
  (b6 (O6 (a5k hr (a5 1) a7) (b7 (a1y 0 1 rfl nd (a6 (a5b (a5 0)) (a6 (a5b (a5 1)) a9)) rfl)) z9)
  (b6 (h7 2 nd (o8 t7 hr (a6 (qx_b a0y a49 m_abs (a6 (a5 0) a9)) (a6 (a5 1) a9))))
  (b7 (n9 (J7 (a6 (J8 (a5 0) (a5 2)) (a6 (J8 (a5 1) (a5 2)) a9))))))))),?_⟩
 intro t b hb hs;have d:=a2h (t:=t) hb hs;have c:=u4 (if t<0 then -t else t) b (by split<;>walk_at "o") (by walk_at "o")
 rw[a2q] at c;obtain⟨p1,p2⟩:=w5 (t:=t) hb;have z0:(b==0)=false:=by simpa using(by walk_at "o":b≠0)
 have n:decide (b<0)=false:=by simp;walk_at "o"
 unfold ratD;rw[p1,p2]
 repeat(first|walk_at "z r" | simp only[z0,n,c,d])
abbrev a1z:Stmt:=top 7
theorem a2E:FnScope ["one","other"] ["one","other"] (defScope a1z):=by walk_at "c"
def a1k (g:LO):Prop:=∀(p q:Rat) (m n:Nat),Sz m p->Sz n q->m+n<=8000->g [ratD p,ratD q]=some (.v (ratD (p+q)))
theorem a5Z {G2:LO}(F8:Fn P w K mg base "ratio" k G2)(F9:a0e G2)(F:Fun K "plus" "plus" a1z f fd)(B:Binds K fd ["one","other"] [])(hm:mg "plus"=some (.ref f)):∃g,Fn P w K mg base "plus" (k+1) g/\a1k g:=by
 have nd:=a2E.nd;refine⟨_,A5 F a2E B hm rfl rfl (fun cdv A outer s H E hr=>(b7 (n9 (o8 F8 hr (a6 (p8 (m6 (j7 hr (a5 0) a7) (j7 hr (a5 1) a7)) (m6 (j7 hr (a5 1) a7) (j7 hr (a5 0) a7))) (a6 (m6 (j7 hr (a5 0) a7) (j7 hr (a5 1) a7)) a9)))))),?_⟩;intro p q m n hp hq h;obtain⟨m1,m2,m3,hpos,hbig⟩:=a3M hp hq h;have r:=F9 (p.num*q.den+q.num*p.den) _ hpos hbig;rw[C9] at r;rw[show ratD p= .tup [.int p.num,.int p.den] from rfl,show ratD q= .tup [.int q.num,.int q.den] from rfl]
 repeat(first|walk_at "z r" | simp only[m1,m2,m3,r,o6])
theorem O9 (k:Nat)(q:Rat):Rat.divInt ((k:Int)*q.num) q.den=(k:Rat)*q:=by
 have e:((k:Nat):Rat)=Rat.divInt (k:Int) 1:=(l7 ((k:Nat):Rat)).symm
 conv=>rhs;rw[e,<-l7 q]
 rw[Rat.divInt_mul_divInt,Int.one_mul]
abbrev Z5:Stmt:=top 8
theorem a0V:FnScope ["one","other"] ["one","other"] (defScope Z5):=by walk_at "c"
def a2z (g:LO):Prop:=∀(k:Nat) (q:Rat),k<100->Sz 500 q->g [.tup [.int k,.int 1],ratD q]=some (.v (ratD ((k:Rat)*q)))
theorem a5r {G2:LO}(F8:Fn P w K mg base "ratio" k G2)(F9:a0e G2)(F:Fun K "times" "times" Z5 f fd)(B:Binds K fd ["one","other"] [])(hm:mg "times"=some (.ref f)):∃g,Fn P w K mg base "times" (k+1) g/\a2z g:=by
 have nd:=a0V.nd;refine⟨_,A5 F a0V B hm rfl rfl (fun cdv A outer s H E hr=>(b7 (n9 (o8 F8 hr (a6 (m6 (j7 hr (a5 0) a7) (j7 hr (a5 1) a7)) (a6 (m6 (j7 hr (a5 0) a7) (j7 hr (a5 1) a7)) a9)))))),?_⟩;intro k q hk hq;have d:=q.den_pos;have m1:mOk (k:Int) q.num:=.inl (by walk_at "o")
 have r:=F9 ((k:Int)*q.num) q.den (by walk_at "o") (by rw[qU];exact zG hq.2 (zT (by decide) (by decide)))
 rw[O9] at r;have m2:mOk 1 (q.den:Int):=.inl (by decide)
 have o1:(1:Int)*(q.den:Int)=q.den:=Int.one_mul _;rw[show ratD q= .tup [.int q.num,.int q.den] from rfl]
 repeat(first|walk_at "z r" | simp only[m1,m2,o1,r,o6])
theorem P8 {t b:Int}(hb:0<b):((Rat.divInt t b).den:Int) ∣ b:=by
 obtain⟨_,e⟩:=w5 (t:=t) hb;rw[e];exact Int.ediv_dvd_of_dvd (Int.gcd_dvd_right ..)
theorem a5I (p q:Rat):(p+q).den ∣ p.den*q.den:=by
 have:=P8 (t:=p.num*q.den+q.num*p.den) (b:=(p.den:Int)*q.den) (Int.mul_pos (by have:=p.den_pos;walk_at "o") (by have:=q.den_pos;walk_at "o"))
 rw[C9] at this
 exact_mod_cast this
def denP:List Rat->Nat
 | []=>1
 | q::qs=>q.den*denP qs
theorem R8:∀qs:List Rat,0<denP qs
 | []=>Nat.one_pos
 | q::qs=>Nat.mul_pos q.den_pos (R8 qs)
theorem K6:∀ps qs:List Rat,denP (ps++qs)=denP ps*denP qs
 | [],qs=>by rw[nil_append,denP,Nat.one_mul]
 | p::ps,qs=>by rw[cons_append,denP,denP,K6 ps qs,Nat.mul_assoc]
def Nr (c:Nat) (q:Rat):Prop:=q.num.natAbs<=c*q.den
theorem N9 {t b:Int}{c:Nat}(hb:0<b)(h:t.natAbs<=c*b.natAbs):Nr c (Rat.divInt t b):=by
 obtain⟨e1,e2⟩:=w5 (t:=t) hb;unfold Nr;have gp:0<Int.gcd t b:=Nat.pos_of_ne_zero fun z=>by have:=Int.gcd_eq_zero_iff.mp z;walk_at "o"
 obtain⟨u,hu⟩:=Int.gcd_dvd_left (a:=t) (b:=b);obtain⟨v,hv⟩:=Int.gcd_dvd_right (a:=t) (b:=b);generalize Int.gcd t b=G at *;rw[e1];have gz:(G:Int)≠0:=by walk_at "o"
 have d2:(Rat.divInt t b).den=v.natAbs:=by
  have:((Rat.divInt t b).den:Int)=v:=by rw[e2,hv,Int.mul_ediv_cancel_left _ gz]
  walk_at "o"
 rw[d2,hu,Int.mul_ediv_cancel_left _ gz];rw[hu,hv,xG,xG,qU] at h
 have:G*u.natAbs<=G*(c*v.natAbs):=by rw[Nat.mul_left_comm];exact h
 exact Nat.le_of_mul_le_mul_left this gp
theorem a7F {p q:Rat}{c d:Nat}(hp:Nr c p)(hq:Nr d q):Nr (c+d) (p+q):=by
 rw[<-C9];refine N9 (Int.mul_pos (by have:=p.den_pos;walk_at "o") (by have:=q.den_pos;walk_at "o")) ?_
 rw[xG,qU,qU];refine zJ (Int.natAbs_add_le _ _) ?_;rw[xG,xG,qU,qU,Nat.add_mul];unfold Nr at hp hq;have a1:p.num.natAbs*q.den<=c*p.den*q.den:=qV _ hp;have a2:q.num.natAbs*p.den<=d*q.den*p.den:=qV _ hq;rw[Nat.mul_assoc] at a1 a2;rw[Nat.mul_comm q.den p.den] at a2;exact Nat.add_le_add a1 a2
theorem M7:∀(rs:List Rat) (q r:Rat),sumR (rs++[q]) r=sumR rs r+q
 | [],q,r=>rfl
 | x::rs,q,r=>by rw[cons_append,sumR,sumR,M7 rs]
theorem v3:∀(rs:List Rat) (r:Rat),sumR rs r=r+sumR rs 0
 | [],r=>by show r=r+0;grind
 | x::rs,r=>by
  show sumR rs (r+x)=r+sumR rs (0+x);rw[v3 rs (r+x),v3 rs (0+x)];grind
theorem a0K (ps qs:List Rat):sumR (ps++qs) 0=sumR ps 0+sumR qs 0:=by
 induction ps with
 | nil=>show sumR qs 0=0+sumR qs 0;grind
 | cons p ps ih=>
  show sumR (ps++qs) (0+p)=sumR ps (0+p)+sumR qs 0;rw[v3 (ps++qs),v3 ps,ih];grind
theorem a1Z:∀qs:List Rat,(sumR qs 0).den ∣ denP qs
 | []=>Nat.dvd_refl 1
 | q::qs=>by
  show(sumR qs (0+q)).den ∣ _;rw[v3,show(0:Rat)+q=q by grind]
  exact Nat.dvd_trans (a5I _ _) (Nat.mul_dvd_mul_left _ (a1Z qs))
theorem a4S {c:Nat}:∀{qs:List Rat},(∀q∈qs,Nr c q)->Nr (qs.length*c) (sumR qs 0)
 | [],_=>by show(0:Int).natAbs<=_;simp
 | q::qs,h=>by
  show Nr _ (sumR qs (0+q));rw[v3,show(0:Rat)+q=q by grind,qC,Nat.add_mul,Nat.one_mul,Nat.add_comm]
  exact a7F (h q zR) (a4S fun p hp=>h p (zN _ hp))
theorem a1V {q:Rat}{N:Nat}(h1:Nr (2^210) q)(h2:q.den<=2^N):Sz (N+211) q:=by
 have:q.num.natAbs<=2^210*2^N:=zJ h1 (Nat.mul_le_mul_left _ h2)
 rw[<-Nat.pow_add] at this;exact⟨xQ this (Nat.pow_lt_pow_right (by decide) (by walk_at "o")),xQ h2 (Nat.pow_lt_pow_right (by decide) (by walk_at "o"))⟩
structure Sm6 (N:Nat) (qs:List Rat):Prop where
 nr:∀q∈qs,Nr (2^200) q
 dn:denP qs<=2^N
 le:qs.length<=1000
theorem Sm6.sum {N:Nat}{qs:List Rat}(h:Sm6 N qs):Sz (N+211) (sumR qs 0):=by
 refine a1V (zJ (a4S h.nr) (qV _ ?_)) (zJ (Nat.le_of_dvd (R8 qs) (a1Z qs)) h.dn);rw[show(210:Nat)=200+10 from rfl,Nat.pow_add,Nat.mul_comm (2^200)];exact qV _ (zJ h.le (by decide))
theorem Sm6.cut {N:Nat}{ps qs:List Rat}(h:Sm6 N (ps++qs)):Sm6 N ps:=by
 refine⟨fun q hq=>h.nr q (List.mem_append_left _ hq),?_,?_⟩
 ·have:=h.dn
  rw[K6] at this;exact zJ (Nat.le_mul_of_pos_right _ (R8 qs)) this
 ·have:=h.le
  rw[zO] at this;walk_at "o"
theorem Sm6.one {N:Nat}{qs:List Rat}(h:Sm6 N qs){q:Rat}(hq:q∈qs){M:Nat}(hd:q.den<=2^M):Sz (M+211) q:=
 a1V (zJ (h.nr q hq) (qV _ (zT (by decide) (by decide)))) hd
theorem z8 (qs:List Rat):lfL (qs.map ratD)=true:=G3 fun x hx=>by obtain⟨q,_,rfl⟩:=jJ.mp hx;rfl
abbrev a0q:Stmt:=top 9
theorem a0T:FnScope ["some","told","one"] ["some"] (defScope a0q):=by walk_at "c"
def a23 (g:LO):Prop:=∀(qs:List Rat) (N:Nat),Sm6 N qs->N<=7000->(∀q∈qs,Sz 500 q)->g [.lst (qs.map ratD)]=some (.v (ratD (sumR qs 0)))/\g [.tup (qs.map ratD)]=some (.v (ratD (sumR qs 0)))
theorem a3H {K0:LO}(O1:Fn P w K mg base "plus" k K0)(N8:a1k K0)(Q5:a0Y mg K)(F:Fun K "total" "total" a0q f fd)(B:Binds K fd ["some"] [])(hm:mg "total"=some (.ref f)):∃g,Fn P w K mg base "total" (k+1) g/\a23 g:=by
 have nd:=a0T.nd
 refine⟨_,A5 F a0T B hm rfl rfl (fun cdv A outer s H E hr=>(b6 (h7 1 nd (a3K Q5))
  (b6 (D5 qL rfl (a0o (a5 0)) (k6 2 nd) (b7 (h7 1 nd (o8 O1 hr (a6 (a5 1) (a6 (a5 2) a9))))))
  (b7 (n9 (a5 1)))))),?_⟩
 intro qs N hs hN hz;have n0:D.tup ([0,1].map D.int)=ratD 0:=rfl;have step:∀{rs:List Rat} {q:Rat},(∃ts,rs++q::ts=qs)->K0 [ratD (sumR rs 0),ratD q]=some (.v (ratD (sumR (rs++[q]) 0))):=fun{rs q} ⟨ts,e⟩=>by
  have z1:=(Sm6.cut (ps:=rs) (qs:=q::ts) (by rw[e];exact hs)).sum
  rw[M7];exact N8 _ _ _ _ z1 (hz q (by rw[<-e];simp)) (by walk_at "o")
 constructor
 all_goals
  repeat(first|walk_at "z r" | simp only[n0])
  generalize el:loopF _ _ _=r;refine C1 el (fun i ρ=>∃(o:Option D),ρ=[some (.v _),some (.v (ratD (sumR (qs.take i) 0))),o.map .v]) ⟨none,rfl⟩ ?_ ?_
  ·rintro i x _ hx ⟨o,rfl⟩;rw[qE] at hx;cases hk:qs[i]? with
   | none=>rw[hk] at hx;cases hx
   | some q=>
    rw[hk] at hx;cases hx;have et:qs.take (i+1)=qs.take i++[q]:=by rw[take_add_one,hk];rfl
    obtain⟨h1,h2⟩:=zE.mp hk;have st:=step (rs:=qs.take i) (q:=q) ⟨qs.drop (i+1),by rw[<-h2,xR,jE]⟩
    refine⟨_,?_,some (ratD q),rfl⟩;rw[et]
    repeat(first|walk_at "z r" | simp only[st,o6])
  ·rintro _ rfl ⟨o,rfl⟩;rw[zH,take_length];walk_at "q"
abbrev Gp:=List Int×Rat
def gpD (e:Gp):D:=.tup [tupI e.1,ratD e.2]
def paperD (ns:List Rat) (E:List Gp):D:=.tup [.tup (ns.map ratD),.tup (E.map gpD)]
def wE:List Gp->Nat
 | []=>1
 | e::E=>e.2.den^(e.1.length/2)*wE E
def Nb (q:Rat):Prop:=Nr (2^197) q/\q.den<=2^197
structure PapOk (ns:List Rat) (E:List Gp):Prop where
 n8:ns.length<=8
 nb:∀q∈ns,Nb q
 el:E.length<=100
 ee:∀e∈E,(3<=e.1.length/\e.1.length<=7)/\Nb e.2
 w:wE E<=2^4400
theorem Nb.sz {q:Rat}(h:Nb q):Sz 500 q:=(a1V (N:=197) (zJ h.1 (qV _ (zT (by decide) (by decide)))) h.2).mono (by decide)
theorem a2W {m:Nat}:∀{qs:List Rat},(∀q∈qs,q.den<=2^m)->denP qs<=2^(m*qs.length)
 | [],_=>by simp[denP]
 | q::qs,h=>by
  have h1:=h q zR;have h2:=a2W fun p hp=>h p (zN _ hp);rw[qC,Nat.mul_add,Nat.mul_one,Nat.pow_add,Nat.mul_comm (2^_)];exact Nat.mul_le_mul h1 h2
theorem Nb.nr {q:Rat}(h:Nb q):Nr (2^200) q:=zJ h.1 (qV _ (zT (by decide) (by decide)))
theorem PapOk.sn {ns:List Rat}{E:List Gp}(h:PapOk ns E):Sm6 1576 ns:=by
 refine⟨fun q hq=>(h.nb q hq).nr,zJ (a2W fun q hq=>(h.nb q hq).2) (zT (by decide) ?_),by have:=h.n8;walk_at "o"⟩
 have:=h.n8
 walk_at "o"
def wt (e:Gp):Rat:=((e.1.length/2:Nat):Rat)*e.2
theorem a22 {e:Gp}(h:(3<=e.1.length/\e.1.length<=7)/\Nb e.2):Nr (2^200) (wt e)/\(wt e).den ∣ e.2.den:=by
 have d:=e.2.den_pos;unfold wt;rw[<-O9];refine⟨N9 (by walk_at "o") ?_,?_⟩
 ·rw[xG,qU,qU,show(200:Nat)=3+197 from rfl,Nat.pow_add,Nat.mul_assoc];exact Nat.mul_le_mul (by have:=h.1;walk_at "o") h.2.1
 ·exact_mod_cast P8 (t:=((e.1.length/2:Nat):Int)*e.2.num) (b:=e.2.den) (by walk_at "o")
theorem a32:∀{E:List Gp},(∀e∈E,(3<=e.1.length/\e.1.length<=7)/\Nb e.2)->denP (E.map wt)<=wE E
 | [],_=>zC _
 | e::E,h=>by
  have h1:=h e zR;refine Nat.mul_le_mul (zJ (Nat.le_of_dvd e.2.den_pos (a22 h1).2) ?_) (a32 fun x hx=>h x (zN _ hx));exact Nat.le_self_pow (by have:=h1.1;walk_at "o") _
theorem PapOk.sp {ns:List Rat}{E:List Gp}(h:PapOk ns E):Sm6 4400 (E.map wt):=by
 refine⟨fun q hq=>?_,zJ (a32 h.ee) h.w,by rw[zH];have:=h.el;walk_at "o"⟩
 obtain⟨e,he,rfl⟩:=jJ.mp hq;exact(a22 (h.ee e he)).1
theorem PapOk.zp {ns:List Rat}{E:List Gp}(h:PapOk ns E):∀q∈E.map wt,Sz 500 q:=fun q hq=>by
 obtain⟨e,he,rfl⟩:=jJ.mp hq;have h1:=h.ee e he;exact(a1V (N:=197) (zJ (a22 h1).1 (qV _ (zT (by decide) (by decide)))) (zJ (Nat.le_of_dvd e.2.den_pos (a22 h1).2) h1.2.2)).mono (by decide)
def rep (e:Gp):List Rat:=List.replicate (e.1.length/2) e.2
theorem a0U (q:Rat):∀k:Nat,denP (List.replicate k q)=q.den^k
 | 0=>rfl
 | k+1=>by rw[jG,denP,a0U q k,Nat.pow_succ,Nat.mul_comm]
theorem W7:∀E:List Gp,denP (E.flatMap rep)=wE E
 | []=>rfl
 | e::E=>by rw[List.flatMap_cons,K6,W7 E,wE];unfold rep;rw[a0U]
theorem a2o (q:Rat):∀k:Nat,sumR (List.replicate k q) 0=((k:Nat):Rat)*q
 | 0=>by show(0:Rat)=((0:Nat):Rat)*q;rw[show((0:Nat):Rat)=0 from rfl];grind
 | k+1=>by
  rw[jG];show sumR (List.replicate k q) (0+q)=_;rw[v3,a2o q k,Rat.natCast_add,show((1:Nat):Rat)=1 from rfl];grind
theorem a0H:∀E:List Gp,sumR (E.flatMap rep) 0=sumR (E.map wt) 0
 | []=>rfl
 | e::E=>by
  rw[List.flatMap_cons,zQ,a0K,a0H E];show _=sumR (E.map wt) (0+wt e);rw[v3 (E.map wt) (0+wt e),show sumR (rep e) 0=wt e from a2o _ _];grind
theorem a1b:∀{E:List Gp},(∀e∈E,(3<=e.1.length/\e.1.length<=7)/\Nb e.2)->(E.flatMap rep).length<=3*E.length
 | [],_=>zC _
 | e::E,h=>by
  have h1:=(h e zR).1
  have:=a1b fun x hx=>h x (zN _ hx)
  rw[List.flatMap_cons,zO,qC,show(rep e).length=e.1.length/2 from List.length_replicate];walk_at "o"
theorem PapOk.sf {ns:List Rat}{E:List Gp}(h:PapOk ns E):Sm6 5976 (ns++E.flatMap rep)/\∀q∈ns++E.flatMap rep,Nb q:=by
 have nb:∀q∈ns++E.flatMap rep,Nb q:=fun q hq=>by
  rcases jM.mp hq with z|z
  ·exact h.nb q z
  ·obtain⟨e,he,z⟩:=List.mem_flatMap.mp z;rw[(List.mem_replicate.mp z).2];exact(h.ee e he).2
 refine⟨⟨fun q hq=>(nb q hq).nr,?_,?_⟩,nb⟩
 ·rw[K6,W7,show(5976:Nat)=1576+4400 from rfl,Nat.pow_add];exact Nat.mul_le_mul h.sn.dn h.w
 ·have:=a1b h.ee
  rw[zO]
  have:=h.n8;have:=h.el;walk_at "o"
def sumP (ns:List Rat) (E:List Gp):Rat:=sumR ns 0+sumR (E.map wt) 0
theorem a3m (ns:List Rat)(E:List Gp):sumR (ns++E.flatMap rep) 0=sumP ns E:=by rw[a0K,a0H];rfl
def gpH:D->D
 | .tup [.tup xs,.tup [.int n,.int d]]=>ratD (((xs.length/2:Nat):Rat)*Rat.divInt n d)
 | d=>d
theorem a7i (e:Gp):gpH (gpD e)=ratD (wt e):=by
 show ratD ((((e.1.map D.int).length/2:Nat):Rat)*Rat.divInt e.2.num e.2.den)=_;rw[l7,zH];rfl
theorem a26 (E:List Gp):((E.map gpD).filter fun _=>true).map gpH=(E.map wt).map ratD:=by
 rw[G4,jK,jK];exact jR fun e _=>a7i e
abbrev E4:Stmt:=top 11
theorem L7:FnScope ["paper","numbers","groups","pairs"] ["paper"] (defScope E4):=by walk_at "c"
def P1 (g:LO):Prop:=∀(ns:List Rat) (E:List Gp),PapOk ns E->g [paperD ns E]=some (.v (ratD (sumP ns E)))
theorem Z0 {K0:LO}{a0l:LO}{a0j:LO}(O1:Fn P w K mg base "plus" k K0)(N8:a1k K0)(Y1:Fn P w K mg base "times" k a0l)(a0i:a2z a0l)(P4:Fn P w K mg base "total" k a0j)(P6:a23 a0j)(m_len:mg "len"=none)(F:Fun K "paper_sum" "paper_sum" E4 f fd)(B:Binds K fd ["paper"] [])(hm:mg "paper_sum"=some (.ref f)):∃g,Fn P w K mg base "paper_sum" (k+1) g/\P1 g:=by
 have nd:=L7.nd
 refine⟨_,A5 F L7 B hm rfl rfl (fun cdv A outer s H E hr=>(b6 (a5l (a5 0) (a1I rfl (A7 (k6 1 nd) (A7 (k6 2 nd) Y5))))
  (b6 (a20 3 nd (a0Q (N:=["people","each"]) (js:=[none,none]) (li:=none) rfl (M5 (by exact(.own (.own .nil))) rfl (by exact trivial) (by rfl)) (a0u 2) (fun _ _ _ _=>(a1I rfl (A7 (k6 0 (show((["people","each"]:List Str)++[accN]).Nodup by decide +kernel)) (A7 (k6 1 (show((["people","each"]:List Str)++[accN]).Nodup by decide +kernel)) Y5)))) (fun _ _ _ _=>P5) (fun _ _ _ _=>(o8 Y1 hr (a6 (J7 (a6 (J8 (qx_b k8 F2 m_len (a6 (a5 0) a9)) a7) (a6 a7 a9))) (a6 (a5 1) a9))))))
  (b7 (n9 (o8 O1 hr (a6 (o8 P4 hr (a6 (a5 1) a9)) (a6 (o8 P4 hr (a6 (a5 3) a9)) a9)))))))),?_⟩
 intro ns E h;have t1:=(P6 ns _ h.sn (by decide) fun q hq=>(h.nb q hq).sz).2
 have t2:=(P6 (E.map wt) _ h.sp (by decide) h.zp).1
 have ep:=N8 _ _ _ _ h.sn.sum h.sp.sum (by decide)
 unfold paperD sumP;walk_at "q";rw[L8 (ρ1:=[some (.v (.tup [.tup (ns.map ratD),.tup (E.map gpD)])),some (.v (.tup (ns.map ratD))),some (.v (.tup (E.map gpD))),none]) (xs:=E.map gpD) (fun B=>∃o1 o2:Option D,B=[o1.map .v,o2.map .v]) (fun _=>true) gpH]
 ·rw[a26];have l1:=z8 (E.map wt)
  repeat(first|walk_at "z r" | simp only[t1,t2,ep,o6,l1])
 ·walk_at "q"
 ·rintro _ ⟨_,_,rfl⟩;rfl
 ·exact⟨none,none,rfl⟩
 ·rw[zH];have:=h.el;unfold lim;walk_at "o"
 ·rw[a26];exact z8 _
 ·rintro x hx _ zs ⟨o1,o2,rfl⟩;obtain⟨e,he,rfl⟩:=jJ.mp hx;have h1:=h.ee e he;have e1:=a0i (e.1.length/2) e.2 (by have:=h1.1;walk_at "o") h1.2.sz
  refine⟨[some (.v (tupI e.1)),some (.v (ratD e.2))],.v (gpH (gpD e)),⟨some _,some _,rfl⟩,?_,rfl,fun _=>⟨?_,.inl rfl⟩⟩
  ·unfold gpD;walk_at "q"
  ·rw[a7i];unfold tupI;have d2:dOk 2:=s0 (by decide) (by decide)
   have c2:((e.1.length:Nat):Int)/2=((e.1.length/2:Nat):Int):=by walk_at "o"
   repeat(first|walk_at "z r" | simp only[zH,d2,c2,e1,o6])
   rfl
def poolD (p:Int):D:=.lst [.int p]
abbrev D4:Stmt:=top 13
theorem M2:FnScope ["script","k","cell","great","number","found","turn"] ["script","k"] (defScope D4):=by walk_at "c"
def O3 (g:LO):Prop:=∀(ns:List Int) (k:Int),ns.length<=63->0<=k->k<=63->∃p:Int,g [.lst (ns.map D.int),.int k]=some (.o (poolD p))
theorem a0r (p7:mg "range"=none)(m_len:mg "len"=none)(F:Fun K "_law_pool" "_law_pool" D4 f fd)(B:Binds K fd ["script","k"] [])(hm:mg "_law_pool"=some (.ref f)):∃g,Fn P w K mg base "_law_pool" (k+1) g/\O3 g:=by
 have nd:=M2.nd
 refine⟨_,A5 F M2 B hm rfl rfl (fun cdv A outer s H E hr=>(b6 (h7 2 nd a7)
  (b6 (O6 (a5k hr (a5 1) (qx_b k8 F2 m_len (a6 (a5 0) a9))) (b7 (h7 2 nd (j7 hr (a5 0) (a5 1)))) z9)
  (b6 (O6 (qt_ge (a5 2) (K1 a7 a7)) (b6 (h7 3 nd (m6 (m6 (K1 a7 a7) (K1 a7 a7)) (K1 a7 a7)))
  (b7 (n9 (N7 (a6 (D2 (a5 2) (m6 (a5 3) (a5 3))) a9))))) z9)
  (b6 (h7 4 nd (D2 (p8 (p8 (p8 (a5 2) (m6 (m6 a7 (a5 1)) (a5 1))) (m6 a7 (a5 1))) a7) a7))
  (b6 (h7 5 nd a7)
  (b6 (D5 qL rfl (Q6 p7 (a6 a7 a9)) (k6 6 nd) (b6 (h7 4 nd (D2 (p8 (p8 (m6 (a5 4) a7) (m6 a7 (a5 6))) a7) a7))
  (b6 (h7 4 nd (D2 (m6 (a5 4) (a5 4)) a7))
  (b7 (h7 5 nd (p8 (m6 (a5 5) a7) (D2 (p8 (m6 (a5 4) a7) (a5 1)) a7)))))))
  (b7 (n9 (N7 (a6 (a5 5) a9))))))))))),?_⟩
 intro ns k hl h0 hk;have pw:CPow 10 18:=by decide
 have pw6:CPow 10 60:=by decide
 have ln:=v4 ns;have r1:(-(2^62:Int)<=150/\(150:Int)<2^62):=by walk_at "o"
 have c1:(0:Int)<2147483647:=by decide
 have c2:(0:Int)<2147483629:=by decide
 have c3:(0:Int)<2147483587:=by decide
 have e60:(10:Int)^(60:Int).toNat=1000000000000000000000000000000000000000000000000000000000000:=by decide +kernel
 have dg:(0:Int)<1000000000000000000000000000000000000000000000000000000000000*1000000000000000000000000000000000000000000000000000000000000*1000000000000000000000000000000000000000000000000000000000000*(1000000000000000000000000000000000000000000000000000000000000*1000000000000000000000000000000000000000000000000000000000000*1000000000000000000000000000000000000000000000000000000000000):=by decide +kernel
 have g1:mOk 1000000000000000000000000000000000000000000000000000000000000 1000000000000000000000000000000000000000000000000000000000000:=by decide +kernel
 have g2:mOk (1000000000000000000000000000000000000000000000000000000000000*1000000000000000000000000000000000000000000000000000000000000) 1000000000000000000000000000000000000000000000000000000000000:=by decide +kernel
 have g3:mOk (1000000000000000000000000000000000000000000000000000000000000*1000000000000000000000000000000000000000000000000000000000000*1000000000000000000000000000000000000000000000000000000000000) (1000000000000000000000000000000000000000000000000000000000000*1000000000000000000000000000000000000000000000000000000000000*1000000000000000000000000000000000000000000000000000000000000):=by decide +kernel
 have p1:mOk 104729 k:=.inl (by decide)
 have p2:mOk (104729*k) k:=.inr (.inl (by walk_at "o"))
 have p3:mOk 7 k:=.inl (by decide)
 have e18:(10:Int)^(18:Int).toNat=1000000000000000000:=by decide +kernel
 unfold poolD
 by_cases h:k<ns.length
 case' pos=>
  have h':decide (k<(ns.length:Int))=true:=qH h;have ha:=a6h (ns:=ns) (i:=k) h0 h;generalize ns.getD k.toNat 0=c at ha
  by_cases hb:(1000000000000000000:Int)<=c
  case pos=>
   have hb':decide ((1000000000000000000:Int)<=c)=true:=qH hb;refine⟨c%(1000000000000000000000000000000000000000000000000000000000000*1000000000000000000000000000000000000000000000000000000000000*1000000000000000000000000000000000000000000000000000000000000*(1000000000000000000000000000000000000000000000000000000000000*1000000000000000000000000000000000000000000000000000000000000*1000000000000000000000000000000000000000000000000000000000000)),?_⟩
   repeat(first|walk_at "z r" | simp only[ln,zH,h',ha,pw,e18,hb',pw6,e60,g1,g2,g3,dg])
  have hb':decide ((1000000000000000000:Int)<=c)=false:=qB hb
  repeat(first|walk_at "z i" | simp only[ln,zH,h',ha,pw,e18,hb',r1,c1,p1,p2,p3])
  repeat(first|walk_at "z r" | simp only[ln,zH,h',ha,pw,e18,hb',r1,c1,p1,p2,p3])
 case' neg=>
  have h':decide (k<(ns.length:Int))=false:=qB h;have hb':decide ((1000000000000000000:Int)<=0)=false:=by decide
  repeat(first|walk_at "z i" | simp only[ln,zH,h',pw,e18,hb',r1,c1,p1,p2,p3])
  repeat(first|walk_at "z r" | simp only[ln,zH,h',pw,e18,hb',r1,c1,p1,p2,p3])
 all_goals
  generalize el:loopF _ _ _=r;refine C1 el (fun i ρ=>∃(a b:Int) (o:Option D),ρ=[some (.v (.lst (ns.map .int))),some (.v (.int k)),some (.v (.int _)),none,some (.v (.int a)),some (.v (.int b)),o.map .v]) ⟨_,0,none,rfl⟩ ?_ ?_
  ·rintro i x _ hx ⟨a,b,o,rfl⟩;obtain⟨rfl,hi⟩:=a1G hx;have q1:∀a:Int,mOk a 48271:=fun a=>.inr (.inl (by decide))
   have q2:mOk 7919 (0+(i:Int)):=.inl (by decide)
   have q3:∀a:Int,mOk (a%2147483629) (a%2147483629):=fun a=>.inl (by
    have:=Int.emod_nonneg a (b:=2147483629) (by decide)
    have:=Int.emod_lt_of_pos a (b:=2147483629) (by decide)
    walk_at "o")
   have q4:∀a:Int,mOk a 2147483587:=fun a=>.inr (.inl (by decide))
   have q5:∀a:Int,mOk a 69621:=fun a=>.inr (.inl (by decide))
   refine⟨?_,?_,?_⟩
   rotate_left
   ·repeat(first|walk_at "z r" | simp only[c2,c3,q1,q2,q3,q4,q5])
    rfl
   ·exact⟨_,_,some (.int (0+(i:Int))),rfl⟩
  ·rintro _ rfl ⟨a,b,o,rfl⟩;refine⟨b,?_⟩;walk_at "q"
abbrev F5:Stmt:=top 14
theorem M3:FnScope ["pool","many","digit"] ["pool","many"] (defScope F5):=by walk_at "c"
def D7 (g:LL):Prop:=∀m n:Int,dOk n->∃i m':Int,(0<=i/\i<n)/\g (poolD m) [.int n]=some (.v (.int i),poolD m')
theorem a0h (F:Fun K "_law_take" "_law_take" F5 f fd)(B:Binds K fd ["pool","many"] [])(hm:mg "_law_take"=some (.ref f)):∃g,FnL P w K mg base "_law_take" (k+1) g/\D7 g:=by
 have nd:=M3.nd
 refine⟨_,a5n F M3 B hm rfl rfl (fun cdv A outer s H E hr=>(b6 (h7 2 nd (D2 (j7 hr (a5 0) a7) (a5 1)))
  (b6 (a5l (J8 (j7 hr (a5 0) a7) (a5 1)) (a8d (a5 0) a7))
  (b7 (n9 (a5 2)))))),?_⟩
 intro m n hn;have n0:=hn.1;have i10:ixN 1 0=some 0:=rfl;unfold poolD;refine⟨m%n,m/n,⟨Int.emod_nonneg _ (by walk_at "o"),Int.emod_lt_of_pos _ n0⟩,?_⟩
 repeat(first|walk_at "z r" | simp only[n0,hn,i10])
abbrev A4:Stmt:=top 16
theorem E7:FnScope ["top","bottom","a","b"] ["top","bottom"] (defScope A4):=by walk_at "c"
def u9 (g:LO):Prop:=∀t b:Int,0<b->b.natAbs<big->g [.int t,.int b]=some (.v (ratD (Rat.divInt t b)))
theorem T8 (m_abs:mg "abs"=none)(F:Fun K "_law_lowest" "_law_lowest" A4 f fd)(B:Binds K fd ["top","bottom"] [])(hm:mg "_law_lowest"=some (.ref f)):∃g,Fn P w K mg base "_law_lowest" (k+1) g/\u9 g:=by
 have nd:=E7.nd
 refine⟨_,A5 F E7 B hm rfl rfl (fun cdv A outer s H E hr=>(b6 (h7 2 nd (qx_b a0y a49 m_abs (a6 (a5 0) a9)))
  (b6 (h7 3 nd (a5 1))
  (b6 (a0L qL (a2B (a5 3) a7) (b7 (a1y 2 3 rfl nd (a6 (a5 3) (a6 (D2 (a5 2) (a5 3)) a9)) rfl)))
  (b7 (n9 (J7 (a6 (J8 (a5 0) (a5 2)) (a6 (J8 (a5 1) (a5 2)) a9))))))))),?_⟩
 intro t b hb hs;have d:=a2h (t:=t) hb hs;obtain⟨p1,p2⟩:=w5 (t:=t) hb;have l:=a0J (i:=2) (j:=3) (ρ:=[some (.v (.int t)),some (.v (.int b)),some (.v (.int (if t<0 then -t else t))),some (.v (.int b))]) (by decide) (by split<;>walk_at "o") (by walk_at "o") rfl rfl
 rw[a2q] at l;unfold ratD;rw[p1,p2]
 repeat(first|walk_at "z r" | rw[l]|simp only[d])
abbrev D9:Stmt:=top 15
theorem K8:FnScope ["one","other"] ["one","other"] (defScope D9):=by walk_at "c"
def O4 (g:LO):Prop:=∀(p q:Rat) (m n:Nat),Sz m p->Sz n q->m+n<=8000->g [ratD p,ratD q]=some (.v (ratD (p+q)))
theorem Y8 {j4:LO}(j5:Fn P w K mg base "_law_lowest" k j4)(j0:u9 j4)(F:Fun K "_law_plus" "_law_plus" D9 f fd)(B:Binds K fd ["one","other"] [])(hm:mg "_law_plus"=some (.ref f)):∃g,Fn P w K mg base "_law_plus" (k+1) g/\O4 g:=by
 have nd:=K8.nd;refine⟨_,A5 F K8 B hm rfl rfl (fun cdv A outer s H E hr=>(b7 (n9 (o8 j5 hr (a6 (p8 (m6 (j7 hr (a5 0) a7) (j7 hr (a5 1) a7)) (m6 (j7 hr (a5 1) a7) (j7 hr (a5 0) a7))) (a6 (m6 (j7 hr (a5 0) a7) (j7 hr (a5 1) a7)) a9)))))),?_⟩;intro p q m n hp hq h;obtain⟨m1,m2,m3,hpos,hbig⟩:=a3M hp hq h;have r:=j0 (p.num*q.den+q.num*p.den) _ hpos hbig;rw[C9] at r;rw[show ratD p= .tup [.int p.num,.int p.den] from rfl,show ratD q= .tup [.int q.num,.int q.den] from rfl]
 repeat(first|walk_at "z r" | simp only[m1,m2,m3,r,o6])
abbrev B9:Stmt:=top 17
theorem G9:FnScope ["numbers","found","number"] ["numbers"] (defScope B9):=by walk_at "c"
def M1 (g:LO):Prop:=∀(qs:List Rat) (N:Nat),Sm6 N qs->N<=7000->(∀q∈qs,Sz 500 q)->g [.lst (qs.map ratD)]=some (.v (ratD (sumR qs 0)))
theorem U2 {A1:LO}(D6:Fn P w K mg base "_law_plus" k A1)(E9:O4 A1)(F:Fun K "_law_total" "_law_total" B9 f fd)(B:Binds K fd ["numbers"] [])(hm:mg "_law_total"=some (.ref f)):∃g,Fn P w K mg base "_law_total" (k+1) g/\M1 g:=by
 have nd:=G9.nd
 refine⟨_,A5 F G9 B hm rfl rfl (fun cdv A outer s H E hr=>(b6 (h7 1 nd (J7 (a6 a7 (a6 a7 a9))))
  (b6 (D5 qL rfl (a0o (a5 0)) (k6 2 nd) (b7 (h7 1 nd (o8 D6 hr (a6 (a5 1) (a6 (a5 2) a9))))))
  (b7 (n9 (a5 1)))))),?_⟩
 intro qs N hs hN hz;have n0:D.tup [.int 0,.int 1]=ratD 0:=rfl;have step:∀{rs:List Rat} {q:Rat},(∃ts,rs++q::ts=qs)->A1 [ratD (sumR rs 0),ratD q]=some (.v (ratD (sumR (rs++[q]) 0))):=fun{rs q} ⟨ts,e⟩=>by
  have z1:=(Sm6.cut (ps:=rs) (qs:=q::ts) (by rw[e];exact hs)).sum
  rw[M7];exact E9 _ _ _ _ z1 (hz q (by rw[<-e];simp)) (by walk_at "o")
 walk_at "q";rw[n0];generalize el:loopF _ _ _=r;refine C1 el (fun i ρ=>∃(o:Option D),ρ=[some (.v (.lst (qs.map ratD))),some (.v (ratD (sumR (qs.take i) 0))),o.map .v]) ⟨none,rfl⟩ ?_ ?_
 ·rintro i x _ hx ⟨o,rfl⟩;rw[qE] at hx;cases hk:qs[i]? with
  | none=>rw[hk] at hx;cases hx
  | some q=>
   rw[hk] at hx;cases hx;have et:qs.take (i+1)=qs.take i++[q]:=by rw[take_add_one,hk];rfl
   obtain⟨h1,h2⟩:=zE.mp hk;have st:=step (rs:=qs.take i) (q:=q) ⟨qs.drop (i+1),by rw[<-h2,xR,jE]⟩
   refine⟨_,?_,some (ratD q),rfl⟩;rw[et]
   repeat(first|walk_at "z r" | simp only[st,o6])
 ·rintro _ rfl ⟨o,rfl⟩;rw[zH,take_length];walk_at "q"
abbrev C0:Stmt:=top 19
theorem I0:FnScope ["thing"] ["thing"] (defScope C0):=by walk_at "c"
def L5 (g:LO):Prop:=∀i:Int,g [.int i]=some (.v (.bl true))
theorem U0 (m9:mg "isinstance"=none)(m_int:mg "int"=none)(a1F:mg "bool"=none)(F:Fun K "_law_whole" "_law_whole" C0 f fd)(B:Binds K fd ["thing"] [])(hm:mg "_law_whole"=some (.ref f)):∃g,Fn P w K mg base "_law_whole" (k+1) g/\L5 g:=by
 have nd:=I0.nd;refine⟨_,A5 F I0 B hm rfl rfl (fun cdv A outer s H E hr=>(b7 (n9 (a75 (a1A (T:="int") (a1v (by decide)) m9 m_int (a5 0)) (a7S (a5T (a1A (T:="bool") (a1v (by decide)) m9 a1F (a5 0)))))))),?_⟩
 intro i;have i1:=a7z (d:=.int i) rfl;have i2:=a6d (d:=.int i) rfl;have j1:isI (.int i)=true:=rfl;have j2:isB (.int i)=false:=rfl
 repeat(first|walk_at "z r" | simp only[i1,i2,j1,j2])
abbrev K2:Stmt:=top 18
theorem O8:FnScope ["paper","found","people","number"] ["paper"] (defScope K2):=by walk_at "c"
def R1 (g:LO):Prop:=∀(ns:List Rat) (E:List Gp),PapOk ns E->g [paperD ns E]=some (.v (ratD (sumP ns E)))
theorem a0B {B7:LO}(C7:Fn P w K mg base "_law_total" k B7)(D1:M1 B7)(a1t:mg "list"=none)(m_len:mg "len"=none)(F:Fun K "_law_sum" "_law_sum" K2 f fd)(B:Binds K fd ["paper"] [])(hm:mg "_law_sum"=some (.ref f)):∃g,Fn P w K mg base "_law_sum" (k+1) g/\R1 g:=by
 have nd:=O8.nd
 refine⟨_,A5 F O8 B hm rfl rfl (fun cdv A outer s H E hr=>(b6 (h7 1 nd (a4W rfl a1t (a6 (j7 hr (a5 0) a7) a9)))
  (b6 (D5 qL rfl (a0o (j7 hr (a5 0) a7)) (a1I rfl (A7 (k6 2 nd) (A7 (k6 3 nd) Y5))) (b7 (h7 1 nd (p8 (a5 1) (a7W (N7 (a6 (a5 3) a9)) (J8 (qx_b k8 F2 m_len (a6 (a5 2) a9)) a7))))))
  (b7 (n9 (o8 C7 hr (a6 (a5 1) a9))))))),?_⟩
 intro ns E h;obtain⟨sf,nb⟩:=h.sf;have t:=D1 _ _ sf (by decide) fun q hq=>(nb q hq).sz
 rw[a3m] at t;have l1:=z8 ns;have d2:dOk 2:=s0 (by decide) (by decide)
 unfold paperD
 repeat(first|walk_at "z r" | simp only[l1])
 generalize el:loopF _ _ _=r;refine C1 el (fun i ρ=>∃(o2 o3:Option D),ρ=[some (.v (.tup [.tup (ns.map ratD),.tup (E.map gpD)])),some (.o (.lst ((ns++(E.take i).flatMap rep).map ratD))),o2.map .v,o3.map .v]) ⟨none,none,by simp⟩ ?_ ?_
 ·rintro i x _ hx ⟨o2,o3,rfl⟩;rw[qE] at hx;cases hk:E[i]? with
  | none=>rw[hk] at hx;cases hx
  | some e=>
   rw[hk] at hx;cases hx;have et:E.take (i+1)=E.take i++[e]:=by rw[take_add_one,hk];rfl
   have he:=h.ee e (xB hk);have c2:((e.1.length:Nat):Int)/2=((e.1.length/2:Nat):Int):=by walk_at "o"
   have er:∀k:Nat,(List.replicate k [ratD e.2]).flatten=(List.replicate k e.2).map ratD:=fun k=>by
    induction k with
    | zero=>rfl
    | succ k ih=>rw[jG,xV,ih];rfl
   have o1:oRep (.lst [ratD e.2]) (.int ((e.1.length/2:Nat):Int))=some (.o (.lst ((rep e).map ratD))):=by
    rw[o_rep ⟨by walk_at "o",by rw[xU];unfold lim;show 1*_<=_;walk_at "o"⟩,xU,er];rfl
   have l2:=z8 (rep e);have l3:=z8 (ns++(E.take i).flatMap rep);have lr:=o6 e.2;refine⟨_,?_,some (tupI e.1),some (ratD e.2),rfl⟩;have fl:(ns++(E.take (i+1)).flatMap rep).map ratD=(ns++(E.take i).flatMap rep).map ratD++(rep e).map ratD:=by
    rw[et,List.flatMap_append,<-qR,xE];simp
   have ln:((ns++(E.take i).flatMap rep).map ratD).length+((rep e).map ratD).length<=1000000:=by
    have z:=sf.le;rw[<-jE i E,List.flatMap_append,<-qR,zO] at z;rw[zH,zH,show(rep e).length=e.1.length/2 from List.length_replicate];walk_at "o"
   rw[fl];generalize (ns++(E.take i).flatMap rep).map ratD=Xs at *;generalize (rep e).map ratD=Ys at *;unfold gpD tupI
   repeat(first|walk_at "z r" | simp only[zH,d2,c2,o1,l2,l3,lr,o6,ln])
 ·rintro _ rfl ⟨o2,o3,rfl⟩;rw[zH,take_length];have l3:=z8 (ns++E.flatMap rep)
  repeat(first|walk_at "z r" | simp only[l3,t,o6])
theorem threeAt {a0 a1 a2:Int}{i:Int}(h0:0<=i)(h3:i<3):∃s:Int,atI [D.int a0,.int a1,.int a2] i=some (.int s)/\(s=a0\/s=a1\/s=a2):=by
 have hc:i=0\/i=1\/i=2:=by walk_at "o"
 rcases hc with rfl|rfl|rfl
 ·exact⟨a0,a_0,.inl rfl⟩
 ·exact⟨a1,a_1,.inr (.inl rfl)⟩
 ·exact⟨a2,a_2,.inr (.inr rfl)⟩
theorem a4G {t b:Int}(hb:0<b)(h1:b<=10^59)(h2:t.natAbs<=10^59):Nb (Rat.divInt t b):=by
 have p:(10:Nat)^59<=2^197:=by decide +kernel
 have q:(10:Int)^59=((10^59:Nat):Int):=by decide +kernel
 refine⟨N9 hb (zJ (zJ h2 p) (Nat.le_mul_of_pos_right _ (by walk_at "o"))),?_⟩
 have:=Nat.le_of_dvd (by walk_at "o") (Int.natAbs_dvd_natAbs.mpr (P8 (t:=t) hb))
 rw[qU] at this;walk_at "o"
abbrev A2:Stmt:=top 20
theorem E8:FnScope ["pool","least","top","bottom"] ["pool","least"] (defScope A2):=by walk_at "c"
def J0 (g:LL):Prop:=∀p l:Int,0<=l->l<=1->∃(q:Rat) (p':Int),Nb q/\g (poolD p) [.int l]=some (.v (ratD q),poolD p')
theorem Q9 {q9:LL}{j4:LO}(g5:FnL P w K mg base "_law_take" k q9)(g8:D7 q9)(j5:Fn P w K mg base "_law_lowest" k j4)(j0:u9 j4)(F:Fun K "_law_number" "_law_number" A2 f fd)(B:Binds K fd ["pool","least"] [])(hm:mg "_law_number"=some (.ref f)):∃g,FnL P w K mg base "_law_number" (k+1) g/\J0 g:=by
 have nd:=E8.nd
 refine⟨_,a5n F E8 B hm rfl rfl (fun cdv A outer s H E hr=>(b6 (h7 2 nd (p9 g5 hr (a6 (a5 0) (a6 (j7 hr (N7 (a6 a7 (a6 a7 (a6 (K1 a7 a7) a9)))) (p9 g5 hr (a6 (a5 0) (a6 a7 a9)))) a9))))
  (b6 (h7 3 nd (p8 a7 (p9 g5 hr (a6 (a5 0) (a6 (j7 hr (N7 (a6 a7 (a6 a7 (a6 (K1 a7 a7) a9)))) (p9 g5 hr (a6 (a5 0) (a6 a7 a9)))) a9)))))
  (b7 (n9 (o8 j5 hr (a6 (p8 (a5 2) (a5 1)) (a6 (a5 3) a9)))))))),?_⟩
 intro p l h0 h1;have lp:∀p,lfC (poolD p)=true:=fun _=>rfl;have pw:CPow 10 59:=by decide
 have e59:(10:Int)^(59:Int).toNat=100000000000000000000000000000000000000000000000000000000000:=by decide +kernel
 have dk:∀{x:Int},0<x->x<=100000000000000000000000000000000000000000000000000000000000->dOk x:=fun{x} h1 h2=>
  ⟨h1,xQ (show x.natAbs<=100000000000000000000000000000000000000000000000000000000000 by walk_at "o") (zG (by decide +kernel:_<2^200) (zT (by decide) (by decide)))⟩
 obtain⟨i1,p1,a1,x1⟩:=g8 p 3 (s0 (by decide) (by decide))
 obtain⟨m,am,hm⟩:=threeAt (a0:=1) (a1:=9) (a2:=100000000000000000000000000000000000000000000000000000000000) a1.1 a1.2;obtain⟨t,p2,a2,x2⟩:=g8 p1 m (dk (by walk_at "o") (by walk_at "o"))
 obtain⟨i3,p3,a3,x3⟩:=g8 p2 3 (s0 (by decide) (by decide))
 obtain⟨m2,am2,hm2⟩:=threeAt (a0:=1) (a1:=12) (a2:=100000000000000000000000000000000000000000000000000000000000) a3.1 a3.2;obtain⟨b,p4,a4,x4⟩:=g8 p3 m2 (dk (by walk_at "o") (by walk_at "o"))
 have er:=j0 (t+l) (1+b) (by walk_at "o") (dk (x:=1+b) (by walk_at "o") (by walk_at "o")).2
 refine⟨Rat.divInt (t+l) (1+b),p4,a4G (by walk_at "o") (by walk_at "o") (by walk_at "o"),?_⟩
 repeat(first|walk_at "z r" | simp only[lp,pw,e59,x1,am,x2,x3,am2,x4,er,o6])
def bitT (b p:Int):Bool:=Builtin.bitAnd (b/2^p.toNat) 1==1
def someOf (b:Int):List Int:=(((List.range 8).map fun(i:Nat)=>((0:Int)+i)).filter (bitT b))
def oddOf (i:Nat):List (List Int):=((List.range i).map fun(i:Nat)=>someOf ((0:Int)+i)).filter fun k=>k.length==3||k.length==7
theorem a3n:(oddOf 256).length=64/\(∀k∈oddOf 256,3<=k.length/\k.length<=7)/\((oddOf 256).map fun k=>k.length/2).sum=80:=by decide +kernel
def bitD (b:Int):D->Bool
 | .int p=>bitT b p
 | _=>false
theorem a2n (b:Int):(((rngD 0 8).filter (bitD b)).map id)=(someOf b).map D.int:=by
 rw[map_id];unfold rngD someOf;rw[List.filter_map];rw[List.filter_map,jK];rfl
abbrev v7:Stmt:=top 21
theorem A6:FnScope ["found","bits","some"] [] (defScope v7):=by walk_at "c"
def D3 (g:LO):Prop:=g []=some (.o (.lst ((oddOf 256).map tupI)))
theorem M8 (p7:mg "range"=none)(w8:mg "tuple"=none)(m_len:mg "len"=none)(F:Fun K "_law_odd_sets" "_law_odd_sets" v7 f fd)(B:Binds K fd [] [])(hm:mg "_law_odd_sets"=some (.ref f)):∃g,Fn P w K mg base "_law_odd_sets" (k+1) g/\D3 g:=by
 have nd:=A6.nd
 refine⟨_,A5 F A6 B hm rfl rfl (fun cdv A outer s H E hr=>(b6 (h7 0 nd (N7 a9))
  (b6 (D5 qL rfl (Q6 p7 (a6 a7 a9)) (k6 1 nd) (b6 (h7 2 nd (qx_t u6 M0 w8 (a6 (Q0 (N:=["person","bits"]) (js:=[none,some 1]) (li:=none) rfl (M5 (by exact(.own (.cap rfl rfl rfl rfl .nil))) rfl (by exact⟨rfl,trivial⟩) (by rfl)) (a0g (Q6 p7 (a6 a7 a9))) (fun _ _ _ _=>(k6 0 (show((["person","bits"]:List Str)++[accN]).Nodup by decide +kernel))) (fun _ _ _ _=>(a11 rfl (a2S hr (a59 (a7y (a5 1) (a5 0)) a7) a7))) (fun _ _ _ _=>(a5 0))) a9)))
  (b7 (O6 (a74 hr (qx_b k8 F2 m_len (a6 (a5 2) a9)) (J7 (a6 a7 (a6 a7 a9)))) (b7 (a5V (a3p (a5 0) (a6 (a5 2) a9)))) z9))))
  (b7 (n9 (a5 0)))))),?_⟩
 have r1:(-(2^62:Int)<=256/\(256:Int)<2^62):=by walk_at "o"
 have r8:(-(2^62:Int)<=8/\(8:Int)<2^62):=by walk_at "o"
 show _=_
 repeat(first|walk_at "z r" | simp only[r1])
 generalize el:loopF _ _ _=r;refine C1 el (fun i ρ=>∃(o1 o2:Option D),ρ=[some (.o (.lst ((oddOf i).map tupI))),o1.map .v,o2.map .v]/\i<=256) ⟨none,none,rfl,qW _⟩ ?_ ?_
 ·rintro i x _ hx ⟨o1,o2,rfl,hi⟩;obtain⟨rfl,hi⟩:=a1G hx
  repeat(first|walk_at "z i")
  have eo:oddOf (i+1)=oddOf i++(if(someOf (0+(i:Int))).length=3\/(someOf (0+(i:Int))).length=7 then[someOf (0+(i:Int))] else[]):=by
   unfold oddOf;rw[List.range_succ,xE,List.filter_append,List.map_singleton];congr 1;simp only[List.filter_cons,List.filter_nil,Bool.or_eq_true,beq_iff_eq]
  have ol:(oddOf i).length<=i:=by
   unfold oddOf;refine zJ (List.length_filter_le _ _) ?_;rw[zH,List.length_range];exact zC _
  rw[L8 (ρ1:=[some (.o (.lst ((oddOf i).map tupI))),some (.v (.int (0+(i:Int)))),o2.map .v]) (xs:=rngD 0 8) (fun B=>∃o:Option D,B=[o.map .v,some (.v (.int (0+(i:Int))))]) (bitD (0+(i:Int))) id]
  ·rw[a2n];have ls:=v4 (someOf (0+(i:Int)));have lt:(oddOf i).length<1000000:=by walk_at "o"
   generalize someOf (0+(i:Int))=k at *
   by_cases hk:k.length=3\/k.length=7
   ·rw[if_pos hk] at eo;have ek:oInG false (.int (k.length:Nat)) (.tup [.int 3,.int 7])=some (.v (.bl true)):=by
     show some (W.v (.bl (decide ((k.length:Int)∈[(3:Int),7]))))=_;rw[qH (by simp;walk_at "o")]
    refine⟨_,?_,some (.int (0+(i:Int))),some (tupI k),rfl,by walk_at "o"⟩
    rw[eo,xE];unfold tupI
    repeat(first|walk_at "z r" | simp only[zH,ls,ek,lt])
   ·rw[if_neg hk] at eo;have ek:oInG false (.int (k.length:Nat)) (.tup [.int 3,.int 7])=some (.v (.bl false)):=by
     show some (W.v (.bl (decide ((k.length:Int)∈[(3:Int),7]))))=_;rw[qB (by simp;walk_at "o")]
    refine⟨_,?_,some (.int (0+(i:Int))),some (tupI k),rfl,by walk_at "o"⟩
    rw[eo,xP];unfold tupI
    repeat(first|walk_at "z r" | simp only[zH,ls,ek,lt])
  ·repeat(first|walk_at "z r" | simp only[r8])
   rfl
  ·rintro _ ⟨_,rfl⟩;rfl
  ·exact⟨none,rfl⟩
  ·show 8<=lim;unfold lim;walk_at "o"
  ·rw[a2n];exact v4 _
  ·rintro x hx _ zs ⟨o,rfl⟩;obtain⟨p,rfl,hp,_⟩:=P7 hx;refine⟨[some (.v (.int p)),some (.v (.int (0+(i:Int))))],.v (.int p),⟨some _,rfl⟩,?_,?_,fun _=>⟨?_,.inl rfl⟩⟩
   ·walk_at "q"
   ·show _=some (bitT (0+(i:Int)) p,_);unfold bitT
    repeat(first|walk_at "z r" | simp only[hp])
   ·walk_at "q"
 ·rintro _ rfl ⟨o1,o2,rfl,_⟩
  have:(rngD 0 (Int.toNat 256)).length=256:=by rw[K4];rfl
  rw[this];walk_at "q"
theorem a3d {xs:List D}(i:Nat):cutD xs none (some (i:Int))=xs.take i:=by
 unfold cutD;rw[HT.sIx_nat,HT.sIx_none,xF,Nat.sub_zero]
 by_cases h:i<=xs.length
 ·rw[Nat.min_eq_left h]
 ·rw[Nat.min_eq_right (by walk_at "o"),take_length,qY (by walk_at "o")]
theorem a8c (xs:List D):gBools (fun bs=>bs.all id) (.lst (xs.map fun _=>D.bl true))=some (.v (.bl true)):=by
 have gb:=a70 (r:=fun bs=>bs.all id) (a1a (fun _=>true) xs)
 rwa [a1P,show(xs.all fun _=>true)=true by simp] at gb
theorem a6v {m:Nat}(p:Rat):deq (m+1) (ratD p) (ratD p)=some true:=by
 show deqL (deq m) ([p.num,(p.den:Int)].map D.int) ([p.num,(p.den:Int)].map D.int)=_;rw[N3,qH rfl]
abbrev kyS (e:Gp):List Key:=e.1.map Sum.inl
def gD (E:List Gp):D:=.dT (E.map kyS) (E.map fun e=>ratD e.2)
def putE (E:List Gp) (k:List Int) (q:Rat):List Gp:=if k∈E.map (·.1) then E.map (fun e=>if e.1=k then(e.1,q) else e) else E++[(k,q)]
theorem G5 {a b:List Int}:(a.map (Sum.inl:Int->Key))=b.map Sum.inl↔a=b:=List.map_inj_right fun _ _ h=>Sum.inl.inj h
theorem a0k {E:List Gp}{k:List Int}:(k.map Sum.inl:List Key)∈E.map kyS↔k∈E.map (·.1):=by
 simp only[jJ];constructor
 ·rintro⟨e,he,h⟩;exact⟨e,he,G5.mp h⟩
 ·rintro⟨e,he,h⟩;exact⟨e,he,G5.mpr h⟩
theorem a4R (E:List Gp)(k:List Int)(q:Rat):putKs (E.map kyS) (k.map Sum.inl)=(putE E k q).map kyS/\putX (E.map kyS) (E.map fun e=>ratD e.2) (k.map Sum.inl) (ratD q)=(putE E k q).map fun e=>ratD e.2:=by
 unfold putKs putX putE
 by_cases h:k∈E.map (·.1)
 ·rw[if_pos (a0k.mpr h),if_pos (a0k.mpr h),if_pos h];constructor
  ·rw[jK];refine jR fun e _=>?_;show kyS e=kyS (if e.1=k then(e.1,q) else e)
   split<;>rfl
  ·rw[List.zipWith_map,jK,List.zipWith_self];refine jR fun e _=>?_;show(if kyS e=k.map Sum.inl then ratD q else ratD e.2)=ratD (if e.1=k then(e.1,q) else e).2
   by_cases he:e.1=k
   ·rw[if_pos (G5.mpr he),if_pos he]
   ·rw[if_neg fun z=>he (G5.mp z),if_neg he]
 ·rw[if_neg fun z=>h (a0k.mp z),if_neg fun z=>h (a0k.mp z),if_neg h,xE,xE];exact⟨rfl,rfl⟩
structure Gk (L N:Nat) (E:List Gp):Prop where
 nd:(E.map (·.1)).Nodup
 el:E.length<=L
 ee:∀e∈E,(3<=e.1.length/\e.1.length<=7)/\Nb e.2
 w:wE E<=2^N
theorem a3O:∀(E:List Gp) (e:Gp),wE (E++[e])=wE E*e.2.den^(e.1.length/2)
 | [],e=>by show e.2.den^_*1=1*_;rw[Nat.mul_one,Nat.one_mul]
 | x::E,e=>by rw[cons_append,wE,wE,a3O E e,Nat.mul_assoc]
theorem a5w {k:List Int}{q:Rat}:∀{E:List Gp},(E.map (·.1)).Nodup->wE (E.map fun e=>if e.1=k then(e.1,q) else e)<=wE E*q.den^(k.length/2)
 | [],_=>by
  show 1<=1*_;rw[Nat.one_mul];exact Nat.pow_pos q.den_pos
 | e::E,h=>by
  rw[zQ,nodup_cons] at h;rw[zQ,wE,wE]
  by_cases he:e.1=k
  ·have e2:(E.map fun e=>if e.1=k then(e.1,q) else e)=E:=by
    conv=>rhs;rw[<-map_id E]
    refine jR fun x hx=>?_;rw[if_neg];rfl;intro z;exact h.1 (by rw[he,<-z];exact List.mem_map_of_mem hx)
   rw[e2,if_pos he];show q.den^(e.1.length/2)*wE E<=_;rw[he,Nat.mul_comm];exact qV _ (Nat.le_mul_of_pos_left _ (Nat.pow_pos e.2.den_pos))
  ·rw[if_neg he,Nat.mul_assoc];exact Nat.mul_le_mul_left _ (a5w h.2)
theorem Gk.put {L N d:Nat}{E:List Gp}(h:Gk L N E){k:List Int}{q:Rat}(h3:3<=k.length/\k.length<=7)(hq:Nb q)(hd:q.den<=2^d):Gk (L+1) (N+d*(k.length/2)) (putE E k q):=by
 have pw:wE E*q.den^(k.length/2)<=2^(N+d*(k.length/2)):=by
  rw[Nat.pow_add,Nat.pow_mul];exact Nat.mul_le_mul h.w (Nat.pow_le_pow_left hd _)
 unfold putE
 split
 ·rename_i hm;refine⟨?_,by rw[zH];have:=h.el;walk_at "o",fun e he=>?_,zJ (a5w h.nd) pw⟩
  ·rw[jK];have e2:E.map ((fun e:Gp=>e.1)∘fun e=>if e.1=k then(e.1,q) else e)=E.map (·.1):=jR fun e _=>by
    show(if e.1=k then(e.1,q) else e).1=e.1
    split<;>rfl
   rw[e2];exact h.nd
  ·obtain⟨x,hx,rfl⟩:=jJ.mp he
   split
   ·exact⟨(h.ee x hx).1,hq⟩
   ·exact h.ee x hx
 ·rename_i hm;refine⟨?_,by rw[zO];have:=h.el;simp;walk_at "o",fun e he=>?_,by rw[a3O];exact pw⟩
  ·rw[xE,List.nodup_append]
   exact⟨h.nd,by simp,fun x hx y hy=>by
    have:y=k:=by simpa using hy
    subst this
    exact fun z=>hm (z▸hx)⟩
  ·rcases jM.mp he with z|z
   ·exact h.ee e z
   ·rw[zV.mp z];exact⟨h3,hq⟩
theorem Gk.mono {L N L2 N2:Nat}{E:List Gp}(h:Gk L N E)(h1:L<=L2)(h2:N<=N2):Gk L2 N2 E:=⟨h.nd,zJ h.el h1,h.ee,zJ h.w (zT (by decide) h2)⟩
theorem a5U {E E':List Gp}(h:E.Perm E'):wE E=wE E':=by
 induction h with
 | nil=>rfl
 | cons x _ ih=>rw[wE,wE,ih]
 | swap x y l=>rw[wE,wE,wE,wE,Nat.mul_left_comm]
 | trans _ _ i1 i2=>rw[i1,i2]
def gpN (e:Gp):List (List Int):=[e.1,[e.2.num,e.2.den]]
def unN:List (List Int)->Gp
 | [k,[n,d]]=>(k,Rat.divInt n d)
 | _=>([],0)
theorem a6z (e:Gp):unN (gpN e)=e:=by
 show(e.1,Rat.divInt e.2.num e.2.den)=e;rw[l7]
theorem a5O (E:List Gp):∃E':List Gp,E'.Perm E/\gSortN (.lst (E.map gpD))=some (.o (.lst (E'.map gpD))):=by
 have p:=S4 (E.map gpN);have u:(E.map gpN).map unN=E:=by
  rw[jK]
  conv=>rhs;rw[<-map_id E]
  exact jR fun e _=>a6z e
 refine⟨(sortN (E.map gpN)).map unN,by have:=p.map unN;rwa [u] at this,?_⟩
 have e1:E.map gpD=(E.map gpN).map nestI:=by rw[jK];rfl
 rw[e1,a6c (fun k hk=>by obtain⟨e,_,rfl⟩:=jJ.mp hk;unfold gpN;simp)]
 congr 3;rw[jK];refine jR fun x hx=>?_;obtain⟨e,_,rfl⟩:=jJ.mp (p.mem_iff.mp hx);show nestI (gpN e)=gpD (unN (gpN e));rw[a6z];rfl
theorem a4Q (e:Gp):(keyD∘kyS) e=tupI e.1:=by
 show D.tup ((e.1.map Sum.inl).map kd1)=_;rw[jK];rfl
theorem a0c:∀{E:List Gp},(E.map (·.1)).Nodup->∀{e:Gp},e∈E->look (E.map kyS) (E.map fun e=>ratD e.2) (e.1.map Sum.inl)=some (ratD e.2)
 | x::E,nd,e,he=>by
  rw[zQ,nodup_cons] at nd;rw[zQ,zQ,look];rcases qG.mp he with rfl|he
  ·rw[if_pos rfl]
  ·rw[if_neg fun z=>nd.1 (by rw[G5.mp z];exact List.mem_map_of_mem he)]
   exact a0c nd.2 he
def gpM (E:List Gp) (d:D):D:=match tkey d with
 | some k=>.tup [d,(look (E.map kyS) (E.map fun e=>ratD e.2) k).getD .non]
 | none=>.non
theorem a4U {E:List Gp}(nd:(E.map (·.1)).Nodup){e:Gp}(he:e∈E):gpM E ((keyD∘kyS) e)=gpD e:=by
 rw[a4Q];unfold gpM;rw[P9];show D.tup [tupI e.1,(look (E.map kyS) (E.map fun e=>ratD e.2) (e.1.map Sum.inl)).getD .non]=_;rw[a0c nd he];rfl
theorem a2d {E:List Gp}(nd:(E.map (·.1)).Nodup):(((E.map kyS).map keyD).map (gpM E))=E.map gpD:=by
 rw[jK,jK];exact jR fun e he=>a4U nd he
theorem a8s (e:Gp):lf (gpD e)=true:=G3 (xs:=[tupI e.1,ratD e.2]) fun x hx=>by
 rcases qG.mp hx with rfl|hx
 ·exact v4 e.1
 ·rw[zV.mp hx];exact o6 e.2
theorem a3R (E:List Gp):lfL (E.map gpD)=true:=G3 fun x hx=>by obtain⟨e,_,rfl⟩:=jJ.mp hx;exact a8s e
theorem Gk.pap {qs:List Rat}{E E':List Gp}{L N:Nat}(h:Gk L N E)(pm:E'.Perm E)(hL:L<=100)(hN:N<=4400)(n8:qs.length<=8)(nb:∀q∈qs,Nb q):PapOk qs E':=
 ⟨n8,nb,by rw[pm.length_eq];exact zJ h.el hL,fun e he=>h.ee e (pm.mem_iff.mp he),by rw[a5U pm];exact zJ h.w (zT (by decide) hN)⟩
abbrev L3:Stmt:=top 22
theorem a5A:FnScope ["script","at","pool","people","numbers","groups","some","turn","paper","found"] ["script"] (defScope L3):=by walk_at "c"
theorem a7X {F0:LO}{E2:LO}{q9:LL}{q8:LO}{A3:LL}{j4:LO}{J9:LO}{C4:LO}(E5:Fn P w K mg base "_law_pool" k F0)(F4:O3 F0)(D8:Fn P w K mg base "paper_sum" k E2)(F1:P1 E2)(g5:FnL P w K mg base "_law_take" k q9)(g8:D7 q9)(w4:Fn P w K mg base "_law_odd_sets" k q8)(v6:D3 q8)(u5:FnL P w K mg base "_law_number" k A3)(u7:J0 A3)(j5:Fn P w K mg base "_law_lowest" k j4)(j0:u9 j4)(J4:Fn P w K mg base "_law_sum" k J9)(J2:R1 J9)(C6:Fn P w K mg base "_law_whole" k C4)(B5:L5 C4)(p7:mg "range"=none)(m_max:mg "max"=none)(w8:mg "tuple"=none)(m_min:mg "min"=none)(m_len:mg "len"=none)(T6:mg "sorted"=none)(m9:mg "isinstance"=none)(m_all:mg "all"=none)(F:Fun K "law" "law" L3 f fd):FnOk P w K mg base CX0 (k+1) f fd ["script"] (spLaw K):=by
 have nd:=a5A.nd
 refine a7Q F a5A rfl rfl (fun cdv A outer s H E hr=>(b6 (D5 qL rfl (Q6 p7 (a6 (qx_b (a3j rfl) a7O m_max (a6 a7 (a6 (qx_b (a3r rfl) a8e m_min (a6 (qx_b k8 F2 m_len (a6 (a5 0) a9)) (a6 a7 a9))) a9))) a9)) (k6 1 nd) (b6 (h7 2 nd (o8 E5 hr (a6 (a5 0) (a6 (a5 1) a9))))
  (b6 (h7 3 nd (p8 a7 (p9 g5 hr (a6 (a5 2) (a6 a7 a9)))))
  (b6 (h7 4 nd (qx_t u6 M0 w8 (a6 (Q0 (N:=["person","pool"]) (js:=[none,some 2]) (li:=some (1,2)) rfl (M5 (by exact(.own (.cap rfl rfl rfl rfl .nil))) rfl (by exact⟨rfl,trivial⟩) (by rfl)) (a0g (Q6 p7 (a6 (a5 3) a9))) (fun _ _ _ _=>(k6 0 (show((["person","pool"]:List Str)++[accN]).Nodup by decide +kernel))) (fun _ _ _ _=>P5) (fun _ _ _ _=>(p9 u5 hr (a6 (a5 1) (a6 a7 a9))))) a9)))
  (b6 (h7 5 nd a5j)
  (b6 (O6 (a7v (a7V (a2S hr (a5 3) a7) (a6f (a2S hr (p9 g5 hr (a6 (a5 2) (a6 a7 a9))) a7)))) (b7 (D5 qL rfl (a0o (a6b w4 hr)) (k6 6 nd) (b7 (a0v hr (a5 5) (a5 6) (o8 j5 hr (a6 (p8 a7 (p9 g5 hr (a6 (a5 2) (a6 (K1 a7 a7) a9)))) (a6 (p8 a7 (p9 g5 hr (a6 (a5 2) (a6 a7 a9)))) a9))))))) z9)
  (b6 (D5 qL rfl (Q6 p7 (a6 (p9 g5 hr (a6 (a5 2) (a6 a7 a9))) a9)) (k6 7 nd) (b6 (a20 6 nd (a0Q (N:=["person","pool"]) (js:=[none,some 2]) (li:=some (1,2)) rfl (M5 (by exact(.own (.cap rfl rfl rfl rfl .nil))) rfl (by exact⟨rfl,trivial⟩) (by rfl)) (a0g (Q6 p7 (a6 (a5 3) a9))) (fun _ _ _ _=>(k6 0 (show((["person","pool"]:List Str)++[accN]).Nodup by decide +kernel))) (fun _ _ _ _=>(a11 rfl (a2B (p9 g5 hr (a6 (a5 1) (a6 a7 a9))) a7))) (fun _ _ _ _=>(a5 0))))
  (b6 (h7 6 nd (a5z (a5 6) a5K (a52 (p8 (a7I (qx_b k8 F2 m_len (a6 (a5 6) a9)) a7) (D2 (qx_b k8 F2 m_len (a6 (a5 6) a9)) a7)))))
  (b7 (O6 (a2B (qx_b k8 F2 m_len (a6 (a5 6) a9)) a7) (b7 (a0v hr (a5 5) (qx_t u6 M0 w8 (a6 (a5 6) a9)) (p9 u5 hr (a6 (a5 2) (a6 a7 a9))))) z9)))))
  (b6 (h7 8 nd (J7 (a6 (a5 4) (a6 (qx_t u6 M0 w8 (a6 (a1l hr T6 (a6 (Q0 (N:=["some","groups"]) (js:=[none,some 5]) (li:=none) rfl (M5 (by exact(.own (.cap rfl rfl rfl rfl .nil))) rfl (by exact⟨rfl,trivial⟩) (by rfl)) (a0g (qi_dt (a5 5))) (fun _ _ _ _=>(k6 0 (show((["some","groups"]:List Str)++[accN]).Nodup by decide +kernel))) (fun _ _ _ _=>P5) (fun _ _ _ _=>(J7 (a6 (a5 0) (a6 (j7 hr (a5 1) (a5 0)) a9))))) a9)) a9)) a9))))
  (b6 (h7 9 nd (o8 D8 hr (a6 (a5 8) a9)))
  (b7 (O6 (a7v (a6x (qt_ne hr (a5 9) (o8 J4 hr (a6 (a5 8) a9))) (a6x (a5x (a4T (a1A (T:="tuple") (a1v (by decide)) m9 w8 (a5 9)))) (a8q (a5x (a4T (qx_b (a3l rfl) a3Q m_all (a6 (Q0 (N:=["one"]) (js:=[none]) (li:=none) rfl (M5 (by exact(.own .nil)) rfl (by exact trivial) (by rfl)) (a0u 9) (fun _ _ _ _=>(k6 0 (show((["one"]:List Str)++[accN]).Nodup by decide +kernel))) (fun _ _ _ _=>P5) (fun _ _ _ _=>(o8 C6 hr (a6 (a5 0) a9)))) a9)))))))) (b7 (n9 a6C)) z9)))))))))))
  (b7 (n9 a6C)))) ?_
 intro ns hl;obtain⟨M,eM,hM⟩:∃M:Int,(if(if(10:Int)<(ns.length:Int) then(10:Int) else(ns.length:Int))>1 then(if(10:Int)<(ns.length:Int) then(10:Int) else(ns.length:Int)) else 1)=M/\1<=M/\M<=10:=⟨_,rfl,by split<;>(try split)<;>walk_at "o",by split<;>(try split)<;>walk_at "o"⟩
 have r1:((-(2^62:Int)<=0/\(0:Int)<2^62)/\-(2^62:Int)<=M/\M<2^62):=by walk_at "o"
 have r1':(-(2^62:Int)<=M/\M<2^62):=r1.2;have ln:=v4 ns;have lp:∀q,lfC (poolD q)=true:=fun q=>rfl;have lp':∀q,lfW (.o (poolD q))=true:=fun q=>rfl
 repeat(first|walk_at "z r" | simp only[zH,eM,r1'])
 generalize el:loopF _ _ _=r;refine a3B el (fun _ ρ=>∃x1 x2 x3 x4 x5 x6 x7 x8 x9:Option W,ρ=[some (.v (.lst (ns.map .int))),x1,x2,x3,x4,x5,x6,x7,x8,x9]/\freeO x1=true/\freeO x2=true/\freeO x3=true/\freeO x4=true/\freeO x5=true/\freeO x6=true/\freeO x7=true/\freeO x8=true/\freeO x9=true) ⟨none,none,none,none,none,none,none,none,none,rfl,rfl,rfl,rfl,rfl,rfl,rfl,rfl,rfl,rfl⟩ ?_ ?_
 ·rintro d x _ hx _ ⟨x1,x2,x3,x4,x5,x6,x7,x8,x9,rfl,f1,f2,f3,f4,f5,f6,f7,f8,f9⟩;obtain⟨i,rfl,hi⟩:=P7 hx;obtain⟨p,e1⟩:=F4 ns i hl (by walk_at "o") (by walk_at "o")
  obtain⟨j,p1,hj,e2⟩:=g8 p 8 (s0 (by decide) (by decide))
  repeat(first|walk_at "z i" | simp only[f1,f2,f3,f4,f5,f6,f7,f8,f9,ln,e1,lp,lp',e2])
  generalize hn:(1:Int)+j=n;have n1:1<=n/\n<=8:=by walk_at "o"
  have rn:(-(2^62:Int)<=n/\n<2^62):=by walk_at "o"
  generalize ec:fComp _ _ _ _ _ _ _=rc;refine W8 ec (fun d B zs=>∃(o:Option D) (p:Int) (qs:List Rat),B=[o.map .v,some (.l (poolD p))]/\zs=qs.map ratD/\qs.length=d.length/\∀q∈qs,Nb q) (xs:=rngD 0 n.toNat) (ρ1:=[some (.v (.lst (ns.map .int))),some (.v (.int i)),some (.o (poolD p1)),some (.v (.int n)),x4,x5,x6,x7,x8,x9]) ?_ ?_ ?_ ?_ ?_ ?_ ?_ ?_
  ·repeat(first|walk_at "z r" | simp only[rn])
  ·rw[K4];unfold lim;walk_at "o"
  ·rfl
  ·rintro d _ _ ⟨_,_,_,rfl,_⟩;rfl
  ·exact⟨none,p1,[],rfl,rfl,rfl,fun _ h=>nomatch h⟩
  ·rintro d x _ _ hx ⟨o,m,qs,rfl,rfl,hb,hqs⟩ hl;obtain⟨i,rfl,_⟩:=P7 hx;obtain⟨q,m',hq,eq⟩:=u7 m 0 (by decide) (by decide)
   rw[zH] at hl;unfold lim at hl;refine⟨[some (.v (.int i)),some (.l (poolD m'))],(qs++[q]).map ratD,?_,⟨some _,m',qs++[q],rfl,rfl,?_,fun x hx=>?_⟩,?_⟩
   ·repeat(first|walk_at "z r" | simp only[lp,eq,zH,hl,xE,o6])
   ·rw[zO,zO,hb];rfl
   ·rcases jM.mp hx with hx|hx
    ·exact hqs x hx
    ·rw[zV.mp hx];exact hq
   ·rw[zH,zH,zO];exact zC _
  ·rintro _ _ ⟨o,m,qs,rfl,rfl,_⟩;exact⟨z8 qs,_,rfl,rfl⟩
  rintro _ _ cc ⟨o,m,qs,rfl,rfl,hb,hqs⟩ hc rfl;cases hc;rw[K4] at hb;have lq:=z8 qs
  repeat(first|walk_at "z i" | simp only[f4,f5,f6,f7,f8,f9,lq])
  have rq:qs.length=n.toNat:=hb;generalize e8:fIfS (fAnd _ _) _ _ _=q;obtain⟨E1,p1,y6,hG,fy,rfl⟩:∃(E1:List Gp) (p1:Int) (y6:Option W),Gk 64 320 E1/\freeO y6=true/\q=some (.nx [some (.v (.lst (ns.map .int))),some (.v (.int i)),some (.o (poolD p1)),some (.v (.int n)),some (.v (.tup (qs.map ratD))),some (.o (gD E1)),y6,x7,x8,x9]):=by
   rw[<-e8];clear e8;have g0:Gk 64 320 []:=⟨nodup_nil,qW _,fun _ h=>(nomatch h),Nat.one_le_two_pow⟩
   by_cases h8:n=8
   ·subst h8;obtain⟨j2,p2,hj2,e2⟩:=g8 m 2 (s0 (by decide) (by decide))
    by_cases h1:j2=1
    ·subst h1;have es:q8 []=_:=v6
     repeat(first|walk_at "z r" | simp only[lp,lp',e2,es])
     generalize el:loopF _ _ _=r;have oL:=a3n;refine C1 el (fun t ρ=>∃(E:List Gp) (p:Int) (y6:Option W),Gk t (4*(((oddOf 256).map fun k=>k.length/2).take t).sum) E/\freeO y6=true/\ρ=[some (.v (.lst (ns.map .int))),some (.v (.int i)),some (.o (poolD p)),some (.v (.int 8)),some (.v (.tup (qs.map ratD))),some (.o (gD E)),y6,x7,x8,x9]) ⟨[],p2,x6,⟨nodup_nil,zC _,fun _ h=>(nomatch h),Nat.one_le_two_pow⟩,f6,rfl⟩ ?_ ?_
     ·rintro t x _ hx ⟨E,p,y6,hE,fy,rfl⟩;rw[qE] at hx;cases hk:(oddOf 256)[t]? with
      | none=>rw[hk] at hx;cases hx
      | some k=>
       rw[hk] at hx;cases hx;have km:=xB hk;have ht:t<64:=by have:=(zE.mp hk).1;rw[oL.1] at this;exact this
       obtain⟨a,p3,ha,e3⟩:=g8 p 1000000 (s0 (by decide) (by decide))
       obtain⟨b,p4,hb2,e4⟩:=g8 p3 12 (s0 (by decide) (by decide))
       have er:=j0 (1+a) (1+b) (by walk_at "o") (xQ (show(1+b).natAbs<=12 by walk_at "o") (zG (by decide:12<2^4) (zT (by decide) (by decide))))
       have hq:Nb (Rat.divInt (1+a) (1+b)):=a4G (by walk_at "o") (by walk_at "o") (by walk_at "o")
       have hd:(Rat.divInt (1+a) (1+b)).den<=2^4:=by
        have:=Nat.le_of_dvd (by walk_at "o") (Int.natAbs_dvd_natAbs.mpr (P8 (t:=1+a) (b:=1+b) (by walk_at "o")))
        rw[qU] at this;walk_at "o"
       generalize Rat.divInt (1+a) (1+b)=q at *;have hp:=hE.put (oL.2.1 k km) hq hd;have pk:=a4R E k q;have lE:(E.map kyS).length<1000000:=by rw[zH];have:=hE.el;walk_at "o"
       have tk:=P9 k;have p6:CPow 10 6:=by decide
       have e6:(10:Int)^(6:Int).toNat=1000000:=by decide +kernel
       refine⟨_,?_,putE E k q,p4,some (.v (tupI k)),?_,rfl,rfl⟩
       ·unfold gD
        repeat(first|walk_at "z r" | simp only[fy,lp,p6,e6,e3,e4,er,o6,r_dv,a7f,a6B,a6F,a6Q,a7u,tk,lE,pk.1,pk.2])
       ·have et:(((oddOf 256).map fun k=>k.length/2).take (t+1)).sum=(((oddOf 256).map fun k=>k.length/2).take t).sum+k.length/2:=by
         rw[take_add_one,qE,hk,List.sum_append];simp
        rw[et,Nat.mul_add];exact hp
     ·rintro _ rfl ⟨E,p,y6,hE,fy,rfl⟩;rw[zH,oL.1] at hE
      have hE2:Gk 64 320 E:=hE.mono (zC _) (by
       have h1:(((oddOf 256).map fun k=>k.length/2).take 64).sum<=((oddOf 256).map fun k=>k.length/2).sum:=by rw[qY (by rw[zH,oL.1];exact zC _)];exact zC _
       have:=oL.2.2
       walk_at "o")
      exact⟨E,p,y6,hE2,fy,rfl⟩
    ·have h1':(j2==1)=false:=beq_eq_false_iff_ne.mpr h1;refine⟨[],p2,x6,g0,f6,?_⟩
     repeat(first|walk_at "z r" | simp only[lp,lp',e2,h1'])
     rfl
   ·have h8':(n==8)=false:=beq_eq_false_iff_ne.mpr h8;refine⟨[],m,x6,g0,f6,?_⟩
    repeat(first|walk_at "z r" | simp only[lp,lp',h8'])
    rfl
  obtain⟨j3,p3,hj3,e3⟩:=g8 p1 7 (s0 (by decide) (by decide))
  have r3:(-(2^62:Int)<=j3/\j3<2^62):=by walk_at "o"
  repeat(first|walk_at "z r" | simp only[lp,lp',e3,r3,fy])
  generalize e7:loopF _ _ _=q;obtain⟨E,p4,z6,z7,hE,g6,g7,rfl⟩:∃(E:List Gp) (p4:Int) (z6 z7:Option W),Gk 70 3866 E/\freeO z6=true/\freeO z7=true/\q=some (.nx [some (.v (.lst (ns.map .int))),some (.v (.int i)),some (.o (poolD p4)),some (.v (.int n)),some (.v (.tup (qs.map ratD))),some (.o (gD E)),z6,z7,x8,x9]):=by
   refine C1 e7 (fun t ρ=>∃(E:List Gp) (p:Int) (z6 z7:Option W),Gk (64+t) (320+591*t) E/\t<=6/\freeO z6=true/\freeO z7=true/\ρ=[some (.v (.lst (ns.map .int))),some (.v (.int i)),some (.o (poolD p)),some (.v (.int n)),some (.v (.tup (qs.map ratD))),some (.o (gD E)),z6,z7,x8,x9]) ⟨E1,p3,y6,x7,hG,qW _,fy,f7,rfl⟩ ?_ ?_
   ·rintro t x _ hx ⟨E,p,z6,z7,hE,ht,g6,g7,rfl⟩;obtain⟨rfl,hi2⟩:=a1G hx;have lE:lfC (gD E)=true:=by
     show lfL (E.map fun e=>ratD e.2)=true;exact G3 fun x hx=>by obtain⟨e,_,rfl⟩:=jJ.mp hx;rfl
    repeat(first|walk_at "z r" | simp only[g6,g7])
    generalize ec:fComp _ _ _ _ _ _ _=rc;refine W8 ec (fun d B zs=>∃(o:Option D) (p:Int) (l:List Int),B=[o.map .v,some (.l (poolD p))]/\zs=l.map D.int/\l.length<=d.length) (xs:=rngD 0 n.toNat) (ρ1:=[some (.v (.lst (ns.map .int))),some (.v (.int i)),some (.o (poolD p)),some (.v (.int n)),some (.v (.tup (qs.map ratD))),some (.o (gD E)),z6,some (.v (.int (0+(t:Int)))),x8,x9]) ?_ ?_ ?_ ?_ ?_ ?_ ?_ ?_
    ·repeat(first|walk_at "z r" | simp only[rn])
    ·rw[K4];unfold lim;walk_at "o"
    ·rfl
    ·rintro d _ _ ⟨_,_,_,rfl,_⟩;rfl
    ·exact⟨none,p,[],rfl,rfl,zC _⟩
    ·rintro d x _ _ hx ⟨o,m,l,rfl,rfl,hb⟩ hl;obtain⟨i',rfl,hi'⟩:=P7 hx;obtain⟨a,m',ha,e4⟩:=g8 m 4 (s0 (by decide) (by decide))
     rw[zH] at hl;unfold lim at hl
     by_cases h0:a>0
     ·have h0':decide (a>0)=true:=qH h0;refine⟨[some (.v (.int i')),some (.l (poolD m'))],(l++[i']).map D.int,?_,⟨some _,m',l++[i'],rfl,rfl,?_⟩,?_⟩
      ·repeat(first|walk_at "z r" | simp only[lp,e4,h0',zH,hl,xE])
      ·rw[zO,zO];exact Nat.add_le_add_right hb _
      ·rw[zH,zH,zO];exact zC _
     ·have h0':decide (a>0)=false:=qB h0;refine⟨[some (.v (.int i')),some (.l (poolD m'))],l.map D.int,?_,⟨some _,m',l,rfl,rfl,?_⟩,?_⟩
      ·repeat(first|walk_at "z r" | simp only[lp,e4,h0'])
      ·rw[zO];walk_at "o"
      ·walk_at "o"
    ·rintro _ _ ⟨o,m,l,rfl,rfl,_⟩;exact⟨v4 l,_,rfl,rfl⟩
    rintro _ _ cc ⟨o,p5,l,rfl,rfl,hb⟩ hc rfl;cases hc;rw[K4] at hb;have d2:dOk 2:=s0 (by decide) (by decide)
    have ll:=v4 l;obtain⟨l',ecut,hl7⟩:∃l':List Int,cutD (l.map D.int) none (some ((l.length:Int)-1+(l.length:Int)%2))=l'.map D.int/\l'.length<=7:=by
     by_cases h0:l.length=0
     ·rw[List.length_eq_zero_iff.mp h0];exact⟨[],by simp[cutD],by decide⟩
     ·refine⟨l.take (l.length-1+l.length%2),?_,?_⟩
      ·rw[show((l.length:Int)-1+(l.length:Int)%2)=((l.length-1+l.length%2:Nat):Int) by walk_at "o",a3d,List.map_take]
      ·rw[qF];walk_at "o"
    have ll':=v4 l';have ht5:t<=5:=by walk_at "o"
    have c2:(0:Int)<2:=by decide
    repeat(first|walk_at "z r" | simp only[g6,ll,ll',zH,d2,ecut])
    by_cases hm:(l'.length:Int)>2
    ·have hm':decide ((l'.length:Int)>2)=true:=qH hm;obtain⟨q,p6,hq,e5⟩:=u7 p5 1 (by decide) (by decide)
     have hp:=hE.put (k:=l') (by walk_at "o") hq hq.2
     have pk:=a4R E l' q;have tk:tkey (.tup (l'.map D.int))=some (l'.map Sum.inl):=P9 l';have lK:E.length<1000000:=by have:=hE.el;walk_at "o"
     refine⟨_,?_,putE E l' q,p6,some (.o (.lst (l'.map D.int))),some (.v (.int (0+(t:Int)))),hp.mono (by walk_at "o") ?_,ht5,rfl,rfl,rfl⟩
     ·unfold gD
      repeat(first|walk_at "z r" | simp only[c2,ecut,hm',lp,e5,o6,zH,ll',r_dv,a7f,a6B,a6F,a6Q,a7u,tk,lK,pk.1,pk.2])
     ·have:197*(l'.length/2)<=591:=by walk_at "o"
      walk_at "o"
    ·have hm':decide ((l'.length:Int)>2)=false:=qB hm;refine⟨_,?_,E,p5,some (.o (.lst (l'.map D.int))),some (.v (.int (0+(t:Int)))),hE.mono (by walk_at "o") (by walk_at "o"),ht5,rfl,rfl,rfl⟩
     repeat(first|walk_at "z r" | simp only[c2,ecut,zH,ll',hm'])
   ·rintro _ rfl ⟨E,p,z6,z7,hE,ht,g6,g7,rfl⟩;exact⟨E,p,z6,z7,hE.mono (by walk_at "o") (by walk_at "o"),g6,g7,rfl⟩
  have lE:lfC (gD E)=true:=by
   show lfL (E.map fun e=>ratD e.2)=true;exact G3 fun x hx=>by obtain⟨e,_,rfl⟩:=jJ.mp hx;rfl
  repeat(first|walk_at "z r" | simp only[g6,g7,lq,lE])
  have hl9:E.length<=100:=zJ hE.el (by decide)
  rw[L8 (ρ1:=[some (.v (.lst (ns.map .int))),some (.v (.int i)),some (.o (poolD p4)),some (.v (.int n)),some (.v (.tup (qs.map ratD))),some (.v (gD E)),z6,z7,x8,x9]) (xs:=(E.map kyS).map keyD) (fun B=>∃o:Option D,B=[o.map .v,some (.v (gD E))]) (fun _=>true) (gpM E)]
  ·rw[G4,a2d hE.nd];obtain⟨E',pm,es⟩:=a5O E;have pk:=hE.pap (qs:=qs) pm (by decide) (by decide) (by walk_at "o") hqs
   have ep:=F1 qs E' pk;have ew:=J2 qs E' pk;unfold paperD at ep ew;have lg:=a3R E';have dq:=a6v (m:=19) (sumP qs E');have it:oIsi "tuple" (ratD (sumP qs E'))=some (.v (.bl true)):=a4Y rfl;have dr:ratD (sumP qs E')= .tup [.int (sumP qs E').num,.int (sumP qs E').den]:=rfl
   repeat(first|walk_at "z r" | simp only[f8,f9,es,ep,ew,lq,lg,o6,dq,it])
   rw[L8 (ρ1:=[some (.v (.lst (ns.map .int))),some (.v (.int i)),some (.o (poolD p4)),some (.v (.int n)),some (.v (.tup (qs.map ratD))),some (.v (gD E)),z6,z7,some (.v (.tup [.tup (qs.map ratD),.tup (E'.map gpD)])),some (.v (ratD (sumP qs E')))]) (xs:=[.int (sumP qs E').num,.int (sumP qs E').den]) (fun B=>∃o:Option D,B=[o.map .v]) (fun _=>true) (fun _=>.bl true)]
   ·have at2:=a8c [.int (sumP qs E').num,.int (sumP qs E').den];rw[G4]
    repeat(first|walk_at "z r" | simp only[at2])
    exact⟨_,rfl,_,_,_,_,_,_,_,_,_,rfl,rfl,rfl,rfl,rfl,rfl,g6,g7,rfl,rfl⟩
   ·rw[dr];walk_at "q"
   ·rintro _ ⟨_,rfl⟩;rfl
   ·exact⟨none,rfl⟩
   ·show 2<=lim;unfold lim;decide
   ·rfl
   ·rintro x hx _ zs ⟨o,rfl⟩;have hw:∃m:Int,x= .int m:=by
     rcases qG.mp hx with rfl|hx
     ·exact⟨_,rfl⟩
     ·exact⟨_,zV.mp hx⟩
    obtain⟨m,rfl⟩:=hw;have e1:=B5 m;refine⟨[some (.v (.int m))],.v (.bl true),⟨some _,rfl⟩,?_,rfl,fun _=>⟨?_,.inl rfl⟩⟩
    ·walk_at "q"
    ·repeat(first|walk_at "z r" | simp only[e1])
  ·unfold gD
   repeat(first|walk_at "z r" | simp only[r_it,r_it2,r_it3])
  ·rintro _ ⟨_,rfl⟩;rfl
  ·exact⟨none,rfl⟩
  ·rw[zH,zH];unfold lim;walk_at "o"
  ·rw[G4,a2d hE.nd];exact a3R E
  ·rintro x hx _ zs ⟨o,rfl⟩;rw[jK] at hx;obtain⟨e,he,rfl⟩:=jJ.mp hx;refine⟨[some (.v (tupI e.1)),some (.v (gD E))],.v (gpD e),⟨some _,rfl⟩,?_,rfl,fun _=>⟨?_,.inl (by rw[a4U hE.nd he])⟩⟩
   ·rw[a4Q];walk_at "q"
   ·have g1:oIxG (gD E) (tupI e.1)=some (.v (ratD e.2)):=a8r (P9 e.1) (a0c hE.nd he)
    repeat(first|walk_at "z r" | simp only[g1,o6])
    try rfl
 ·rintro _ rfl ⟨x1,x2,x3,x4,x5,x6,x7,x8,x9,rfl,_⟩;walk_at "q"
end
end Q22
namespace Q22
open PySem PySem.Spec PyProof.Rows L2 Z
structure DI (K:PySem.W.Frag) (x:Str) (st:Stmt) (f:Addr) (fd:FuncData):Prop where
 a:PySem.W.nsIn K mainGlobals x=some (some (.ref f))
 F:Fun K x x st f fd
theorem DI.mk2 {K:PySem.W.Frag}{x:Str}{st:Stmt}{f:Addr}{od an:Option Addr}{sl:Array (Option Value)}{oc kV dc pm cd ct:Value}(a:PySem.W.nsIn K mainGlobals x=some (some (.ref f)))(l:K.lookup f=some ⟨oc,od,.func (PySem.W.fnOf x x (defArgs st) (defBody st) (defScope st) .none kV dc pm an cd ct),sl⟩)(c:PySem.W.codeIn K cd x=true)(k:PySem.W.keepIn K (.ref f)=true):DI K x st f (PySem.W.fnOf x x (defArgs st) (defBody st) (defScope st) .none kV dc pm an cd ct):=⟨a,a4m l c k⟩
section
variable {P:Program}{w:World}{K:PySem.W.Frag}{mg:Str->Option Value}{base:Heap}{x:Str}{j k:Nat}
theorem _root_.Z.FnS.up {sp:Sp}(F:FnS P w K mg base x j sp)(h:j<=k:=by decide):FnS P w K mg base x k sp:=F.mono h
end
theorem a8k {l:PySem.W.OpenLaw}{w:World}{K:PySem.W.Frag}{h:Heap}{mg:Str->Option Value}{fa f1 f2 f3 f4 f5 f6 f7 f8 f9 f10 f11 f12 f13 f14 f15 f16:Addr}{d1 d2 d3 d4 d5 d6 d7 d8 d9 d10 d11 d12 d13 d14 d15:FuncData}(X:K.In h)(G:h.Ns mainGlobals mg)(hfa:mg "law"=some (.ref fa))
  {od an:Option Addr} {sl:Array (Option Value)} {oc kV dc pm cd ct:Value}
  (i1:DI K "_law_pool" D4 f1 d1) (i2:DI K "common_divisor" t5 f2 d2) (i3:DI K "ratio" a0f f3 d3) (i4:DI K "plus" a1z f4 d4) (i5:DI K "times" Z5 f5 d5) (i6:DI K "total" a0q f6 d6) (i7:DI K "paper_sum" E4 f7 d7) (i8:DI K "_law_take" F5 f8 d8) (i9:DI K "_law_odd_sets" v7 f9 d9) (i10:DI K "_law_lowest" A4 f10 d10) (i11:DI K "_law_number" A2 f11 d11) (i12:DI K "_law_plus" D9 f12 d12) (i13:DI K "_law_total" B9 f13 d13) (i14:DI K "_law_sum" K2 f14 d14) (i15:DI K "_law_whole" C0 f15 d15)
  (a:PySem.W.nsIn K mainGlobals "law"=some (some (.ref f16))) (ll:K.lookup f16=some ⟨oc,od,.func (PySem.W.fnOf "law" "law" (defArgs L3) (defBody L3) (defScope L3) .none kV dc pm an cd ct),sl⟩) (c:PySem.W.codeIn K cd "law"=true) (k:PySem.W.keepIn K (.ref f16)=true)
  (y1:PySem.W.nsIn K mainGlobals "range"=some none) (y2:PySem.W.nsIn K mainGlobals "len"=some none) (y3:PySem.W.nsIn K mainGlobals "abs"=some none) (y4:PySem.W.nsIn K mainGlobals "tuple"=some none) (y5:PySem.W.nsIn K mainGlobals "list"=some none) (y6:PySem.W.nsIn K mainGlobals "isinstance"=some none) (y7:PySem.W.nsIn K mainGlobals "int"=some none) (y8:PySem.W.nsIn K mainGlobals "bool"=some none) (y9:PySem.W.nsIn K mainGlobals "max"=some none) (y10:PySem.W.nsIn K mainGlobals "min"=some none) (y11:PySem.W.nsIn K mainGlobals "sorted"=some none) (y12:PySem.W.nsIn K mainGlobals "all"=some none) {ga1:Addr} {gz1:Array (Option Value)} {gn1:Nat} {gt1_0 gt1_1:Tok} (n1:PySem.W.nsIn K mainGlobals "NOUGHT"=some (some (.ref ga1))) (q1:K.lookup ga1=some ⟨.type "tuple",none,.seq #[.int 0 gt1_0,.int 1 gt1_1] gn1,gz1⟩):
  ∃fd:FuncData,(∀(s:Shared) (v:Value),BindsTo s fd ⟨[v],[]⟩ [("script",v)])/\∀base:Heap,K.In base->base.Ns mainGlobals mg->FnOk l.prog w K mg base CX0 60 fa fd ["script"] (spLaw K):=by
 cases hfa.symm.trans (qI X G a);have p7:=qJ X G y1;have m_len:=qJ X G y2;have m_abs:=qJ X G y3;have w8:=qJ X G y4;have a1t:=qJ X G y5;have m9:=qJ X G y6;have m_int:=qJ X G y7;have a1F:=qJ X G y8;have m_max:=qJ X G y9;have m_min:=qJ X G y10;have T6:=qJ X G y11;have m_all:=qJ X G y12;have Q5:a0Y mg K:=⟨ga1,qI X G n1,.inr ⟨_,_,_,q1,rfl,rfl,rfl,(show(2:Nat)<=sizeLine by decide),(.cons ⟨_,rfl⟩ (.cons ⟨_,rfl⟩ .nil))⟩⟩
 refine⟨PySem.W.fnOf "law" "law" (defArgs L3) (defBody L3) (defScope L3) .none kV dc pm an cd ct,fun s v=>.of_eq rfl,fun base _ _=>?_⟩;obtain⟨F0,E5,F4⟩:=a0r (P:=l.prog) (w:=w) (base:=base) (k:=0) p7 m_len i1.F (i1.F.binds (ps:=["script","k"]) fun _ _ _ _ _ _ us hl=>us2 hl fun _ _=>rfl) (qI X G i1.a);obtain⟨t8,t7,u4⟩:=L0 (P:=l.prog) (w:=w) (base:=base) (k:=0) i2.F (i2.F.binds (ps:=["one","other"]) fun _ _ _ _ _ _ us hl=>us2 hl fun _ _=>rfl) (qI X G i2.a);obtain⟨G2,F8,F9⟩:=a5q (P:=l.prog) (w:=w) (base:=base) (k:=1) t7.up u4 m_abs i3.F (i3.F.binds (ps:=["top","bottom"]) fun _ _ _ _ _ _ us hl=>us2 hl fun _ _=>rfl) (qI X G i3.a);obtain⟨K0,O1,N8⟩:=a5Z (P:=l.prog) (w:=w) (base:=base) (k:=2) F8.up F9 i4.F (i4.F.binds (ps:=["one","other"]) fun _ _ _ _ _ _ us hl=>us2 hl fun _ _=>rfl) (qI X G i4.a);obtain⟨a0l,Y1,a0i⟩:=a5r (P:=l.prog) (w:=w) (base:=base) (k:=2) F8.up F9 i5.F (i5.F.binds (ps:=["one","other"]) fun _ _ _ _ _ _ us hl=>us2 hl fun _ _=>rfl) (qI X G i5.a);obtain⟨a0j,P4,P6⟩:=a3H (P:=l.prog) (w:=w) (base:=base) (k:=3) O1.up N8 Q5 i6.F (i6.F.binds (ps:=["some"]) fun _ _ _ _ _ _ us hl=>us1 hl fun _=>rfl) (qI X G i6.a);obtain⟨E2,D8,F1⟩:=Z0 (P:=l.prog) (w:=w) (base:=base) (k:=4) O1.up N8 Y1.up a0i P4.up P6 m_len i7.F (i7.F.binds (ps:=["paper"]) fun _ _ _ _ _ _ us hl=>us1 hl fun _=>rfl) (qI X G i7.a);obtain⟨q9,g5,g8⟩:=a0h (P:=l.prog) (w:=w) (base:=base) (k:=0) i8.F (i8.F.binds (ps:=["pool","many"]) fun _ _ _ _ _ _ us hl=>us2 hl fun _ _=>rfl) (qI X G i8.a);obtain⟨q8,w4,v6⟩:=M8 (P:=l.prog) (w:=w) (base:=base) (k:=0) p7 w8 m_len i9.F (i9.F.binds (ps:=[]) fun _ _ _ _ _ _ us hl=>by cases us with|nil=>rfl|cons _ _=>cases hl) (qI X G i9.a)
 obtain⟨j4,j5,j0⟩:=T8 (P:=l.prog) (w:=w) (base:=base) (k:=0) m_abs i10.F (i10.F.binds (ps:=["top","bottom"]) fun _ _ _ _ _ _ us hl=>us2 hl fun _ _=>rfl) (qI X G i10.a);obtain⟨A3,u5,u7⟩:=Q9 (P:=l.prog) (w:=w) (base:=base) (k:=1) g5.up g8 j5.up j0 i11.F (i11.F.binds (ps:=["pool","least"]) fun _ _ _ _ _ _ us hl=>us2 hl fun _ _=>rfl) (qI X G i11.a);obtain⟨A1,D6,E9⟩:=Y8 (P:=l.prog) (w:=w) (base:=base) (k:=1) j5.up j0 i12.F (i12.F.binds (ps:=["one","other"]) fun _ _ _ _ _ _ us hl=>us2 hl fun _ _=>rfl) (qI X G i12.a);obtain⟨B7,C7,D1⟩:=U2 (P:=l.prog) (w:=w) (base:=base) (k:=2) D6.up E9 i13.F (i13.F.binds (ps:=["numbers"]) fun _ _ _ _ _ _ us hl=>us1 hl fun _=>rfl) (qI X G i13.a);obtain⟨J9,J4,J2⟩:=a0B (P:=l.prog) (w:=w) (base:=base) (k:=3) C7.up D1 a1t m_len i14.F (i14.F.binds (ps:=["paper"]) fun _ _ _ _ _ _ us hl=>us1 hl fun _=>rfl) (qI X G i14.a);obtain⟨C4,C6,B5⟩:=U0 (P:=l.prog) (w:=w) (base:=base) (k:=0) m9 m_int a1F i15.F (i15.F.binds (ps:=["thing"]) fun _ _ _ _ _ _ us hl=>us1 hl fun _=>rfl) (qI X G i15.a);exact a7X (P:=l.prog) (w:=w) (base:=base) (k:=59) E5.up F4 D8.up F1 g5.up g8 w4.up v6 u5.up u7 j5.up j0 J4.up J2 C6.up B5 p7 m_max w8 m_min m_len T6 m9 m_all (a4m (st:=L3) ll c k)
end Q22
open PySem PySem.W PyProof.Rows
set_option maxRecDepth 100000 in
set_option maxHeartbeats 0 in
theorem PySem.Challenge.cw_twainhoard_k22_sums_of_papers_holds : PySem.Challenge.rw_twainhoard_k22_sums_of_papers.Holds := by
 w_on;o_law;k_head;(case hw=>w_witness2)
 k_fill
 refine Z.walk (l:=PySem.Challenge.rw_twainhoard_k22_sums_of_papers) rfl rfl (fun w h Y=>PySem.W.kIn_of Y) ?F
 case F=>
  intro w mg fa h KX G hmg
  refine' Q22.a8k KX G hmg (Q22.DI.mk2 ?_ ?_ ?_ ?_) (Q22.DI.mk2 ?_ ?_ ?_ ?_) (Q22.DI.mk2 ?_ ?_ ?_ ?_) (Q22.DI.mk2 ?_ ?_ ?_ ?_) (Q22.DI.mk2 ?_ ?_ ?_ ?_) (Q22.DI.mk2 ?_ ?_ ?_ ?_) (Q22.DI.mk2 ?_ ?_ ?_ ?_) (Q22.DI.mk2 ?_ ?_ ?_ ?_) (Q22.DI.mk2 ?_ ?_ ?_ ?_) (Q22.DI.mk2 ?_ ?_ ?_ ?_) (Q22.DI.mk2 ?_ ?_ ?_ ?_) (Q22.DI.mk2 ?_ ?_ ?_ ?_) (Q22.DI.mk2 ?_ ?_ ?_ ?_) (Q22.DI.mk2 ?_ ?_ ?_ ?_) (Q22.DI.mk2 ?_ ?_ ?_ ?_) ?_ ?_ ?_ ?_ ?_ ?_ ?_ ?_ ?_ ?_ ?_ ?_ ?_ ?_ ?_ ?_ ?_ ?_
  all_goals try k_is
