import PyProof.Rows.All
import Wide.All
import OpenK.AllK
import Wide.FinOn
import Lean
import PyProof.EqAt
import PyProof.EqKinds
import PyProof.TupleCall
import PyProof.DictRoadsH
import PyProof.DictRoads
import PyProof.DictIter
import PyProof.CompUse
import PyProof.SumWalkG
import KE.KSort
import PyProof.EnumMake
import PyProof.Rows.ZipGen
import PyProof.Rows.RuleDivmod
import PyProof.ListRange
import KE.KDictSum
import KE.KSortTup
import PyProof.DictCompW
import PyProof.ListMulAny
import PyProof.WalksMore
import PyProof.Rows.MinMaxN
import PyProof.Rows.SeqMore
import PyProof.Rows.SortRuns
import PyProof.Rows.SortRun
import PySem.Challenge.RW_twainhoard_k20_all_best_told
set_option Elab.async false
set_option compiler.extract_closed false
set_option genSizeOf false
set_option genInjectivity false
set_option bootstrap.genMatcherCode false
set_option linter.all false
set_option maxRecDepth 100000
open List (perm_append_comm append_assoc take_sublist drop_drop mem_of_mem_drop length_drop take_zero take_drop zipIdx_cons nil_append getElem?_eq_getElem mem_filterMap filterMap_cons nodup_cons of_mem_zip zip_nil_left length_set all_cons any_cons length_singleton find?_cons nodup_nil ext_getElem? all_eq_true map_id length_zip mem_flatMap sublist_nil filter_sublist filter_congr sum_cons filter_map flatMap_cons filter_append filter_nil)
open Option (isSome_iff_exists getD_none isSome_map bind_some)
open PySem.Heap (size_push)
abbrev zA:=@PySem.wpAny_bind
abbrev zB:=@List.length_map
abbrev zC:=@PySem.wpAny_pure
abbrev zD:=@Nat.le_refl
abbrev zE:=@PySem.Heap.get?_push_of_some
abbrev zF:=@PyProof.Rows.wpS_bind
abbrev zG:=@List.mem_map
abbrev zH:=@List.length_append
abbrev zI:=@PyProof.Rows.wpS_pure
abbrev zJ:=@Nat.lt_of_lt_of_le
abbrev zK:=@Array.length_toList
abbrev zL:=@List.mem_cons_of_mem
abbrev zM:=@List.mem_cons_self
abbrev zN:=@List.mem_singleton
abbrev zO:=@List.getElem?_eq_some_iff
abbrev zP:=@List.map_cons
abbrev zQ:=@Nat.le_trans
abbrev zR:=@Array.getElem?_toList
abbrev zS:=@List.mem_cons
abbrev zT:=@List.size_toArray
abbrev zU:=@List.getElem?_set_ne
abbrev zV:=@Nat.ne_of_lt
abbrev zW:=@PySem.Heap.lt_size
abbrev zZ:=@PySem.wpAny_mono
abbrev qA:=@PySem.Heap.get?_push_size
abbrev qB:=@List.length_cons
abbrev qC:=@List.map_map
abbrev qD:=@Bool.false_ne_true
abbrev qE:=@List.mem_append
abbrev qF:=@List.map_append
abbrev qG:=@List.getElem?_append_left
abbrev qH:=@List.getElem?_map
abbrev qI:=@List.getElem?_append_right
abbrev qJ:=@List.mem_filter
abbrev qK:=@List.length_take
abbrev qL:=@Nat.zero_le
abbrev qM:=@decide_eq_false
abbrev qN:=@PySem.wpAny_holding
abbrev qO:=@decide_eq_true
abbrev qP:=@PySem.PassesOwn.never
abbrev qQ:=@List.mem_append_right
abbrev qR:=@Bool.and_eq_true
abbrev qS:=@List.map_congr_left
abbrev qT:=@PySem.wpAny_callSpecial?_slot
abbrev qU:=@List.append_assoc
abbrev qV:=@PySem.wpAny_call_entry
abbrev qW:=@List.nodup_append
abbrev qX:=@List.nodup_iff_pairwise_ne
abbrev qY:=@PySem.Heap.SameBut.update
abbrev qZ:=@PySem.W.mg_of
abbrev jA:=@PySem.W.mg_none_of
abbrev jB:=@Option.some.inj
abbrev jC:=@PyProof.Rows.wpS_forRange
abbrev jD:=@List.pairwise_map
abbrev jE:=@Ne.symm
abbrev jF:=@PyProof.Rows.callWith_type1
abbrev jG:=@PySem.wpAny_newObj_type
abbrev jH:=@PyProof.Rows.slot_tuple_getitem
abbrev jI:=@Array.perm_iff_toList_perm
abbrev jJ:=@Bool.false_eq_true
abbrev jK:=@List.getElem?_cons_succ
abbrev jL:=@if_true
abbrev jM:=@PySem.wpAny_field
abbrev jN:=@List.zip_cons_cons
abbrev jO:=@List.drop_of_length_le
abbrev jP:=@PySem.wpAny_rule
abbrev jQ:=@List.take_append_drop
abbrev jR:=@Nat.sub_self
abbrev jS:=@Option.map_some
abbrev jT:=@List.length_filter_le
abbrev jU:=@Nat.lt_irrefl
abbrev jV:=@Nat.pow_le_pow_right
abbrev jW:=@PySem.F.slot_dict_keyiterator_next
abbrev jX:=@List.take_of_length_le
abbrev jY:=@List.take_length
abbrev jZ:=@List.append_nil
abbrev xA:=@PyProof.Rows.wpS_mono
abbrev xB:=@List.getElem?_eq_none
abbrev xC:=@PySem.Heap.get?_update_ne
abbrev xD:=@PySem.sizeLine_eq
abbrev xE:=@List.mem_of_getElem?
abbrev xF:=@if_false
abbrev xG:=@List.mem_append_left
abbrev xH:=@PySem.W.kia_one
abbrev xI:=@PyProof.Rows.KeyOrd.kle_refl
abbrev xJ:=@PySem.AutoSeq1.wpAny_loadPart'
abbrev xK:=@of_decide_eq_true
abbrev xL:=@List.getElem?_drop
abbrev xM:=@List.getElem?_take
abbrev xN:=@PySem.Paired.length
abbrev xO:=@List.mem_range
abbrev xP:=@List.pairwise_cons
abbrev xQ:=@List.drop_append_of_le_length
abbrev xR:=@PySem.wpAny_typeNameOfWhole_keyiter
abbrev xS:=@List.getElem?_eq_getElem
abbrev xT:=@List.mem_iff_getElem?
abbrev xU:=@PySem.Heap.get?_update_self
abbrev xV:=@PySem.wpAny_seqItems
abbrev xW:=@beq_iff_eq
abbrev xX:=@Array.getElem?_eq_none
abbrev xY:=@List.mem_flatten
abbrev xZ:=@Nat.zero_add
abbrev yA:=@List.length_eq_zero_iff
abbrev yB:=@PySem.wpAny_setField_rec
abbrev yC:=@List.length_range
abbrev yD:=@List.mem_of_mem_take
abbrev yE:=@List.getD_eq_getElem?_getD
abbrev yF:=@List.perm_ext_iff_of_nodup
abbrev yG:=@decide_eq_true_eq
abbrev yH:=@List.pairwise_iff_getElem
abbrev yI:=@List.length_nil
abbrev yJ:=@List.getElem?_eq_none_iff
abbrev yK:=@List.filter_cons
abbrev yL:=@List.map_nil
abbrev yM:=@PySem.wpAny_typeNameOf_keyiter
abbrev yN:=@PySem.mem_of_lookup
abbrev yO:=@List.getElem?_cons_zero
abbrev yP:=@List.filter_cons_of_pos
abbrev yQ:=@List.filter_cons_of_neg
abbrev yR:=@List.pairwise_append
abbrev yS:=@List.drop_zero
abbrev yT:=@PySem.wpAny_Call_Name_kw
abbrev yU:=@PySem.tupleKind_room_in1
abbrev yV:=@PyProof.Rows.get?_update_seq
abbrev yW:=@PyProof.Rows.subscriptTail_builtinR
abbrev yX:=@List.not_mem_nil
abbrev yY:=@List.zipWith_cons_cons
abbrev yZ:=@List.length_pos_of_mem
abbrev vA:=@Bool.not_eq_true'
abbrev vB:=@List.Perm.append_left
abbrev vC:=@List.take_add_one
abbrev vD:=@List.getElem?_range
abbrev vE:=@List.flatten_cons
noncomputable section
set_option maxHeartbeats 1000000
local macro_rules | `(tactic| walk_at "o") => `(tactic| first | lia | omega)
namespace Z
open PySem PyProof.Rows
def gallop':Bool->Keyed->Array Keyed->Nat->Nat->Nat->StateT SortSt Sem (Option Nat):=sortPriv% PySem.Builtin.gallop
def mergeLo':Array Keyed->Array Keyed->StateT SortSt Sem (Array Keyed):=sortPriv% PySem.Builtin.mergeLo
def mergeHi':Array Keyed->Array Keyed->StateT SortSt Sem (Array Keyed):=sortPriv% PySem.Builtin.mergeHi
def setMinGallop':Nat->StateT SortSt Sem Unit:=sortPriv% PySem.Builtin.setMinGallop
def beyond' (left:Bool) (key:Keyed) (arr:Array Keyed) (base i:Nat):StateT SortSt Sem (Option Bool):=do
 let x <-elem' arr (base+i)
 if left then lt' x key else return (<-lt' key x).map (!·)
theorem a3k (left:Bool)(key:Keyed)(arr:Array Keyed)(base n hint:Nat):gallop' left key arr base n hint=(do
 let mut lastofs:=0
 let mut ofs:=1
 let mut lo:=0
 let mut hi:=0
 let some right <-beyond' left key arr base hint|return none
 if right then
  let maxofs:=n-hint
  for _ in [0:n] do
   if ofs≥maxofs then break
   let some more <-beyond' left key arr base (hint+ofs)|return none
   if !more then break
   lastofs:=ofs
   ofs:=2*ofs+1
  lo:=hint+lastofs+1
  hi:=hint+min ofs maxofs
 else
  let maxofs:=hint+1
  for _ in [0:n] do
   if ofs≥maxofs then break
   let some found <-beyond' left key arr base (hint-ofs)|return none
   if found then break
   lastofs:=ofs
   ofs:=2*ofs+1
  lo:=hint+1-min ofs maxofs
  hi:=hint-lastofs
 for _ in [0:n] do
  if lo≥hi then break
  let m:=lo+(hi-lo)/2
  let some more <-beyond' left key arr base m|return none
  if more then lo:=m+1 else hi:=m
 return some hi):=rfl
theorem W2 (g:Nat):setMinGallop' g=modify (fun s=>SortSt.mk' (kindOf s) (arrOf s) (pendingOf s) g (failedOf s)):=rfl
section
variable {prog:Program}{w:World}{A:Around}{E:Value->Shared->Prop}{s:Shared}{κ:SortKind}{blt:Keyed->Keyed->Bool}{S:Keyed->Prop}
def Cmp (prog:Program) (w:World) (A:Around) (E:Value->Shared->Prop) (s:Shared) (κ:SortKind) (blt:Keyed->Keyed->Bool) (S:Keyed->Prop):Prop:=
 ∀x y,S x->S y->∀(st:SortSt) (Q:Option Bool->SortSt->Prop),kindOf st=κ->Q (some (blt x y)) st->wpS (model prog w) A E s (lt' x y) Q st
def bey (blt:Keyed->Keyed->Bool) (left:Bool) (key x:Keyed):Bool:=if left then blt x key else !(blt key x)
theorem l7 {arr:Array Keyed}{i:Nat}{x:Keyed}{st:SortSt}{Q:Keyed->SortSt->Prop}(hx:arr[i]? =some x)(h:Q x st):wpS (model prog w) A E s (elem' arr i) Q st:=by
 rw[elem'_eq,hx];exact zI h
theorem a5m (hC:Cmp prog w A E s κ blt S){left:Bool}{key x:Keyed}{arr:Array Keyed}{base i:Nat}{st:SortSt}{Q:Option Bool->SortSt->Prop}(hk:kindOf st=κ)(hx:arr[base+i]? =some x)(hS:S x)(hK:S key)
  (h:Q (some (bey blt left key x)) st):wpS (model prog w) A E s (beyond' left key arr base i) Q st:=by
 unfold beyond';refine zF (l7 hx ?_);unfold bey at h;cases left with
 | true=>exact hC x key hS hK st Q hk h
 | false=>exact zF (hC key x hK hS st _ hk (zI h))
def Cut (f:Nat->Bool) (n k:Nat):Prop:=k<=n/\(∀i,i<k->f i=true)/\∀i,k<=i->i<n->f i=false
def findM (left:Bool) (key:Keyed) (arr:Array Keyed) (base n lo hi:Nat):StateT SortSt Sem (Option (Option Nat)×Nat×Nat):=
 forIn [:n] ((none,lo,hi):Option (Option Nat)×Nat×Nat) fun _ __s=>
  if __s.snd.fst≥__s.snd.snd then pure (ForInStep.done (none,__s.snd.fst,__s.snd.snd))
  else do
   let __x <-beyond' left key arr base (__s.snd.fst+(__s.snd.snd-__s.snd.fst)/2)
   match __x with
    | some more=>
     if more=true then pure (ForInStep.yield (none,__s.snd.fst+(__s.snd.snd-__s.snd.fst)/2+1,__s.snd.snd))
     else pure (ForInStep.yield (none,__s.snd.fst,__s.snd.fst+(__s.snd.snd-__s.snd.fst)/2))
    | _=>pure (ForInStep.done (some none,__s.snd.fst,__s.snd.snd))
theorem a4q {left:Bool}{key:Keyed}{arr:Array Keyed}{base n lo hi:Nat}{st:SortSt}{Q:Option Nat->SortSt->Prop}{f:Nat->Bool}{F:Option (Option Nat)×Nat×Nat->StateT SortSt Sem (Option Nat)}
  (ask:∀i,i<n->∀Q':Option Bool->SortSt->Prop,Q' (some (f i)) st->wpS (model prog w) A E s (beyond' left key arr base i) Q' st)
  (hf:∀i j,i<=j->j<n->f j=true->f i=true) (h0:lo<=hi) (h1:hi<=n) (h2:∀i,i<lo->f i=true) (h3:∀i,hi<=i->i<n->f i=false) (h:∀k,Cut f n k->wpS (model prog w) A E s (F (none,k,k)) Q st):
  wpS (model prog w) A E s (findM left key arr base n lo hi >>=F) Q st:=by
 unfold findM
 refine zF (xA (jC (I:=fun x c st'=>st'=st/\∃l r,c=(none,l,r)/\l<=r/\r<=n/\r-l<=n-x/\(∀i,i<l->f i=true)/\∀i,r<=i->i<n->f i=false)
  (Q:=fun c st'=>st'=st/\∃r,c=(none,r,r)/\r<=n/\(∀i,i<r->f i=true)/\∀i,r<=i->i<n->f i=false) ?step ?fin ⟨rfl,lo,hi,rfl,h0,h1,by walk_at "o",h2,h3⟩) ?post)
 case step=>
  rintro x c st' _ hx ⟨rfl,l,r,rfl,a0,a1,a2,a3,a4⟩;dsimp only
  by_cases hlr:l≥r
  ·rw[if_pos hlr]
   have:l=r:=by walk_at "o"
   subst this;exact zI ⟨rfl,l,rfl,a1,a3,a4⟩
  ·rw[if_neg hlr];generalize hm:l+(r-l)/2=m;have m1:l<=m:=by walk_at "o"
   have m2:m<r:=by walk_at "o"
   refine zF (ask m (by walk_at "o") _ ?_)
   dsimp only;cases e:f m with
   | true=>
    rw[if_pos rfl];exact zI ⟨rfl,m+1,r,rfl,by walk_at "o",a1,by walk_at "o",fun i hi=>hf i m (by walk_at "o") (by walk_at "o") e,a4⟩
   | false=>
    rw[if_neg (by simp)]
    refine zI ⟨rfl,l,m,rfl,m1,by walk_at "o",by walk_at "o",a3,fun i hi hn=>?_⟩
    cases e2:f i with
    | false=>rfl
    | true=>rw[hf m i hi hn e2] at e;cases e
 case fin=>
  rintro c st' ⟨rfl,l,r,rfl,a0,a1,a2,a3,a4⟩
  have:l=r:=by walk_at "o"
  subst this;exact⟨rfl,l,rfl,a1,a3,a4⟩
 case post=>
  rintro c st' ⟨rfl,r,rfl,a1,a3,a4⟩;exact h r ⟨a1,a3,a4⟩
theorem a5y (hC:Cmp prog w A E s κ blt S){left:Bool}{key:Keyed}{arr:Array Keyed}{base n hint:Nat}{st:SortSt}{Q:Option Nat->SortSt->Prop}{f:Nat->Bool}(hk:kindOf st=κ)(hK:S key)(hn:hint<n)
  (hx:∀i,i<n->∃x,arr[base+i]? =some x/\S x/\bey blt left key x=f i) (hf:∀i j,i<=j->j<n->f j=true->f i=true) (h:∀k,Cut f n k->Q (some k) st):wpS (model prog w) A E s (gallop' left key arr base n hint) Q st:=by
 have ask:∀i,i<n->∀Q':Option Bool->SortSt->Prop,Q' (some (f i)) st->wpS (model prog w) A E s (beyond' left key arr base i) Q' st:=fun i hi Q' hq=>by
  obtain⟨x,h1,h2,h3⟩:=hx i hi;exact a5m hC hk h1 h2 hK (by rw[h3];exact hq)
 have hff:∀i j,i<=j->j<n->f i=false->f j=false:=fun i j h1 h2 h3=>by
  cases e:f j with
  | false=>rfl
  | true=>rw[hf i j h1 h2 e] at h3;cases h3
 rw[a3k];refine zF (ask hint hn _ ?_);dsimp only;cases hr:f hint with
 | true=>
  rw[if_pos rfl]
  refine zF (xA (jC (I:=fun x c st'=>st'=st/\∃l o,c=(none,l,o)/\l<o/\x+1<=o/\hint+l<n/\f (hint+l)=true)
   (Q:=fun c st'=>st'=st/\∃l o,c=(none,l,o)/\l<o/\hint+l<n/\f (hint+l)=true/\(o≥n-hint\/f (hint+o)=false)) ?step ?fin ⟨rfl,0,1,rfl,by walk_at "o",by walk_at "o",hn,hr⟩) ?post)
  case step=>
   rintro x c st' _ hxn ⟨rfl,l,o,rfl,a0,a1,a2,a3⟩;dsimp only
   by_cases ho:o≥n-hint
   ·rw[if_pos ho];exact zI ⟨rfl,l,o,rfl,a0,a2,a3,.inl ho⟩
   ·rw[if_neg ho];refine zF (ask (hint+o) (by walk_at "o") _ ?_)
    dsimp only;cases e:f (hint+o) with
    | true=>rw[if_neg (by simp)];exact zI ⟨rfl,o,2*o+1,rfl,by walk_at "o",by walk_at "o",by walk_at "o",e⟩
    | false=>rw[if_pos (by simp)];exact zI ⟨rfl,l,o,rfl,a0,a2,a3,.inr e⟩
  case fin=>
   rintro c st' ⟨rfl,l,o,rfl,a0,a1,a2,a3⟩;exact⟨rfl,l,o,rfl,a0,a2,a3,.inl (by walk_at "o")⟩
  case post=>
   rintro c st' ⟨rfl,l,o,rfl,a0,a2,a3,a4⟩;dsimp only;refine a4q (lo:=hint+l+1) (hi:=hint+min o (n-hint)) ask hf (by walk_at "o") (by walk_at "o") (fun i hi=>hf i (hint+l) (by walk_at "o") a2 a3) (fun i h1 h2=>?_) fun k hc=>zI (h k hc)
   rcases a4 with a4|a4
   ·walk_at "o"
   ·exact hff (hint+o) i (by walk_at "o") h2 a4
 | false=>
  rw[if_neg (by simp)]
  refine zF (xA (jC (I:=fun x c st'=>st'=st/\∃l o,c=(none,l,o)/\l<o/\x+1<=o/\l<=hint/\f (hint-l)=false)
   (Q:=fun c st'=>st'=st/\∃l o,c=(none,l,o)/\l<o/\l<=hint/\f (hint-l)=false/\(o≥hint+1\/f (hint-o)=true)) ?step ?fin ⟨rfl,0,1,rfl,by walk_at "o",by walk_at "o",by walk_at "o",hr⟩) ?post)
  case step=>
   rintro x c st' _ hxn ⟨rfl,l,o,rfl,a0,a1,a2,a3⟩;dsimp only
   by_cases ho:o≥hint+1
   ·rw[if_pos ho];exact zI ⟨rfl,l,o,rfl,a0,a2,a3,.inl ho⟩
   ·rw[if_neg ho];refine zF (ask (hint-o) (by walk_at "o") _ ?_)
    dsimp only;cases e:f (hint-o) with
    | false=>rw[if_neg (by simp)];exact zI ⟨rfl,o,2*o+1,rfl,by walk_at "o",by walk_at "o",by walk_at "o",e⟩
    | true=>rw[if_pos rfl];exact zI ⟨rfl,l,o,rfl,a0,a2,a3,.inr e⟩
  case fin=>
   rintro c st' ⟨rfl,l,o,rfl,a0,a1,a2,a3⟩;exact⟨rfl,l,o,rfl,a0,a2,a3,.inl (by walk_at "o")⟩
  case post=>
   rintro c st' ⟨rfl,l,o,rfl,a0,a2,a3,a4⟩;dsimp only;refine a4q (lo:=hint+1-min o (hint+1)) (hi:=hint-l) ask hf (by walk_at "o") (by walk_at "o") (fun i hi=>?_) (fun i h1 h2=>hff (hint-l) i (by walk_at "o") h2 a3) fun k hc=>zI (h k hc)
   rcases a4 with a4|a4
   ·walk_at "o"
   ·exact hf i (hint-o) (by walk_at "o") (by walk_at "o") a4
end
theorem a2t (a b:Array Keyed):mergeLo' a b=(do
 rule "list.sort.merge-lo"
 let total:=a.size+b.size
 let done (out:Array Keyed) (ia ib:Nat):=out++a.extract ia a.size++b.extract ib b.size
 let lastOfA (out:Array Keyed) (ia ib:Nat):=out++b.extract ib b.size++a.extract ia a.size
 let mut out:Array Keyed:= #[<-elem' b 0]
 let mut ia:=0
 let mut ib:=1
 if ib==b.size then return done out ia ib
 if ia+1==a.size then return lastOfA out ia ib
 let mut minGallop:=gallopOf (<-get)
 for _ in [0:total] do
  let mut acount:=0
  let mut bcount:=0
  for _ in [0:total] do
   let some bWins <-lt' (<-elem' b ib) (<-elem' a ia)|return done out ia ib
   if bWins then
    out:=out.push (<-elem' b ib);ib:=ib+1;bcount:=bcount+1;acount:=0
    if ib==b.size then return done out ia ib
    if bcount≥minGallop then break
   else
    out:=out.push (<-elem' a ia);ia:=ia+1;acount:=acount+1;bcount:=0
    if ia+1==a.size then return lastOfA out ia ib
    if acount≥minGallop then break
  rule "list.sort.gallop"
  minGallop:=minGallop+1
  for _ in [0:total] do
   if minGallop>1 then minGallop:=minGallop-1
   setMinGallop' minGallop
   let some k <-gallop' false (<-elem' b ib) a ia (a.size-ia) 0|return done out ia ib
   acount:=k
   if k>0 then
    out:=out++a.extract ia (ia+k);ia:=ia+k
    if ia+1==a.size then return lastOfA out ia ib
    if ia==a.size then return done out ia ib
   out:=out.push (<-elem' b ib);ib:=ib+1
   if ib==b.size then return done out ia ib
   let some k <-gallop' true (<-elem' a ia) b ib (b.size-ib) 0|return done out ia ib
   bcount:=k
   if k>0 then
    out:=out++b.extract ib (ib+k);ib:=ib+k
    if ib==b.size then return done out ia ib
   out:=out.push (<-elem' a ia);ia:=ia+1
   if ia+1==a.size then return lastOfA out ia ib
   if acount<7&&bcount<7 then break
  minGallop:=minGallop+1
  setMinGallop' minGallop
 unsupported "internal:list.sort.merge-bound"):=rfl
def Le (blt:Keyed->Keyed->Bool) (x y:Keyed):Prop:=blt y x=false
structure Tot (blt:Keyed->Keyed->Bool) (S:Keyed->Prop):Prop where
 tr:∀x y z,S x->S y->S z->Le blt x y->Le blt y z->Le blt x z
 as:∀x y,S x->S y->blt x y=true->Le blt x y
structure Mi (blt:Keyed->Keyed->Bool) (a b out:List Keyed) (ia ib:Nat):Prop where
 la:ia<=a.length
 lb:ib<=b.length
 pe:out.Perm (a.take ia++b.take ib)
 so:out.Pairwise (Le blt)
 oa:∀x∈out,∀y∈a.drop ia,Le blt x y
 ob:∀x∈out,∀y∈b.drop ib,Le blt x y
section
variable {blt:Keyed->Keyed->Bool}{a b out r:List Keyed}{ia ib k:Nat}
theorem Mi.symm (h:Mi blt a b out ia ib):Mi blt b a out ib ia:=⟨h.lb,h.la,h.pe.trans perm_append_comm,h.so,h.ob,h.oa⟩
theorem Mi.add (h:Mi blt a b out ia ib)(hk:ia+k<=a.length)(sA:a.Pairwise (Le blt))(hl:∀x∈(a.drop ia).take k,∀y∈b.drop ib,Le blt x y):Mi blt a b (out++(a.drop ia).take k) (ia+k) ib where
 la:=hk
 lb:=h.lb
 pe:=by
  rw[List.take_add];refine(List.Perm.append_right _ h.pe).trans ?_;rw[qU,qU];exact vB _ perm_append_comm
 so:=yR.mpr ⟨h.so,(sA.sublist (List.drop_sublist _ _)).sublist (take_sublist _ _),fun x hx y hy=>h.oa x hx y (yD hy)⟩
 oa:=fun x hx y hy=>by
  rw[<-drop_drop] at hy;rcases qE.mp hx with z|z
  ·exact h.oa x z y (mem_of_mem_drop hy)
  ·have p:=sA.sublist (List.drop_sublist ia a);rw[<-jQ k (a.drop ia)] at p;exact(yR.mp p).2.2 x z y hy
 ob:=fun x hx y hy=>by
  rcases qE.mp hx with z|z
  ·exact h.ob x z y hy
  ·exact hl x z y hy
def Gd (blt:Keyed->Keyed->Bool) (a b r:List Keyed):Prop:=r.Perm (a++b)/\r.Pairwise (Le blt)
theorem Mi.all (h:Mi blt a b out a.length b.length):Gd blt a b out:=⟨by have:=h.pe;rwa [jY,jY] at this,h.so⟩
theorem Mi.doneB (h:Mi blt a b out ia b.length)(sA:a.Pairwise (Le blt)):Gd blt a b (out++a.drop ia):=by
 have:=h.add (k:=a.length-ia) (by have:=h.la;walk_at "o") sA fun x _ y hy=>by rw[List.drop_length] at hy;cases hy
 rw[show ia+(a.length-ia)=a.length by have:=h.la;walk_at "o",jX (by rw[length_drop];walk_at "o")] at this
 exact this.all
theorem Gd.symm (h:Gd blt a b r):Gd blt b a r:=⟨h.1.trans perm_append_comm,h.2⟩
theorem Mi.doneA (h:Mi blt a b out a.length ib)(sB:b.Pairwise (Le blt)):Gd blt a b (out++b.drop ib):=(h.symm.doneB sB).symm
theorem Mi.last (h:Mi blt a b out ia ib)(sA:a.Pairwise (Le blt))(sB:b.Pairwise (Le blt))(hl:∀x∈b,∀y∈a.drop ia,Le blt x y):Gd blt a b (out++b.drop ib++a.drop ia):=by
 have:=h.symm.add (k:=b.length-ib) (by have:=h.lb;walk_at "o") sB fun x hx y hy=>hl x (mem_of_mem_drop (yD hx)) y hy
 rw[show ib+(b.length-ib)=b.length by have:=h.lb;walk_at "o",jX (by rw[length_drop];walk_at "o")] at this
 exact this.symm.doneB sA
end
theorem Tot.rf {blt:Keyed->Keyed->Bool}{S:Keyed->Prop}(hO:Tot blt S){x:Keyed}(h:S x):Le blt x x:=by
 unfold Le;cases e:blt x x with
 | false=>rfl
 | true=>have:=hO.as x x h h e;unfold Le at this;rw[e] at this;cases this
theorem a1w {a:Array Keyed}{i:Nat}{x:Keyed}(h:a[i]? =some x):a.toList.drop i=x::a.toList.drop (i+1):=by
 rw[<-zR] at h;obtain⟨h1,h2⟩:=zO.mp h;rw[List.drop_eq_getElem_cons h1,h2]
theorem g8 {a:Array Keyed}{i:Nat}{x:Keyed}(h:a[i]? =some x):x∈a.toList:=by
 rw[<-zR] at h;exact xE h
theorem a1p {blt:Keyed->Keyed->Bool}{S:Keyed->Prop}(hO:Tot blt S){a:Array Keyed}(ha:∀x∈a.toList,S x)(sA:a.toList.Pairwise (Le blt)){i j:Nat}{x y:Keyed}(hi:a[i]? =some x)(hj:a[j]? =some y)(hij:i<=j):Le blt x y:=by
 rcases Nat.lt_or_eq_of_le hij with z|z
 ·rw[<-zR] at hi hj;obtain⟨h1,h2⟩:=zO.mp hi;obtain⟨h3,h4⟩:=zO.mp hj
  have:=yH.mp sA i j h1 h3 z
  rwa [h2,h4] at this
 ·subst z;rw[hi] at hj;cases hj;exact hO.rf (ha _ (g8 hi))
theorem O3 {blt:Keyed->Keyed->Bool}{S:Keyed->Prop}(hO:Tot blt S){a:Array Keyed}(ha:∀x∈a.toList,S x)(sA:a.toList.Pairwise (Le blt)){i:Nat}{x y:Keyed}(hi:a[i]? =some x)(hS:S y)(h:Le blt y x):∀z∈a.toList.drop i,Le blt y z:=by
 intro z hz;obtain⟨j,hj⟩:=xT.mp hz;rw[xL,zR] at hj;exact hO.tr _ _ _ hS (ha _ (g8 hi)) (ha _ (g8 hj)) h (a1p hO ha sA hi hj (by walk_at "o"))
theorem k7 {a:Array Keyed}{i:Nat}(h:i<a.size):∃x,a[i]? =some x:=⟨a[i],Array.getElem?_eq_getElem h⟩
theorem a2B (out a:Array Keyed)(i k:Nat):(out++a.extract i (i+k)).toList=out.toList++(a.toList.drop i).take k:=by
 rw[Array.toList_append,Array.toList_extract,List.extract_eq_take_drop,Nat.add_sub_cancel_left]
def SmG (st st':SortSt):Prop:=kindOf st'=kindOf st/\arrOf st'=arrOf st/\pendingOf st'=pendingOf st/\failedOf st'=failedOf st
section
variable {prog:Program}{w:World}{A:Around}{E:Value->Shared->Prop}{s:Shared}{κ:SortKind}{blt:Keyed->Keyed->Bool}{S:Keyed->Prop}
theorem SmG.trans {st st' st2:SortSt}(h:SmG st st')(k:SmG st' st2):SmG st st2:=⟨k.1.trans h.1,k.2.1.trans h.2.1,k.2.2.1.trans h.2.2.1,k.2.2.2.trans h.2.2.2⟩
theorem O1 {g:Nat}{st:SortSt}{Q:Unit->SortSt->Prop}(h:∀st',SmG st st'->Q ⟨⟩ st'):wpS (model prog w) A E s (setMinGallop' g) Q st:=by
 rw[W2];exact wpS_modify (h _ ⟨rfl,rfl,rfl,rfl⟩)
theorem W7 (hC:Cmp prog w A E s κ blt S)(hO:Tot blt S){left:Bool}{key:Keyed}{arr:Array Keyed}{base n hint:Nat}{st:SortSt}{Q:Option Nat->SortSt->Prop}(hk:kindOf st=κ)(hK:S key)(hn:hint<n)(hz:base+n<=arr.size)
  (hS:∀i x,i<n->arr[base+i]? =some x->S x) (hs:∀i j x y,i<=j->j<n->arr[base+i]? =some x->arr[base+j]? =some y->Le blt x y)
  (h:∀k,k<=n->(∀i x,i<k->arr[base+i]? =some x->bey blt left key x=true)->(∀i x,k<=i->i<n->arr[base+i]? =some x->bey blt left key x=false)->Q (some k) st):wpS (model prog w) A E s (gallop' left key arr base n hint) Q st:=by
 have at_:∀i,i<n->∃x,arr[base+i]? =some x:=fun i hi=>k7 (by walk_at "o")
 refine a5y (f:=fun i=>match arr[base+i]? with|some x=>bey blt left key x|none=>false) hC hk hK hn (fun i hi=>?_) (fun i j hij hj e=>?_) fun k hc=>h k hc.1 (fun i x hi hx=>?_) fun i x hi hn hx=>?_
 ·obtain⟨x,hx⟩:=at_ i hi;exact⟨x,hx,hS i x hi hx,by rw[hx]⟩
 ·obtain⟨x,hx⟩:=at_ i (by walk_at "o")
  obtain⟨y,hy⟩:=at_ j hj;have l:=hs i j x y hij hj hx hy;have sx:=hS i x (by walk_at "o") hx
  have sy:=hS j y hj hy;simp only[hx,hy] at e ⊢;unfold bey at e ⊢;cases left with
  | true=>
   rw[if_pos rfl] at e ⊢;cases e2:blt x key with
   | true=>rfl
   | false=>
    have:=hO.tr _ _ _ hK sx sy e2 l
    unfold Le at this;rw[this] at e;cases e
  | false=>
   simp only[jJ,xF,vA] at e ⊢;exact hO.tr _ _ _ sx sy hK l e
 ·have:=hc.2.1 i hi
  simp only[hx] at this;exact this
 ·have:=hc.2.2 i hi hn
  simp only[hx] at this;exact this
theorem a3B (hC:Cmp prog w A E s κ blt S)(hO:Tot blt S){a b:Array Keyed}{st:SortSt}{Q:Array Keyed->SortSt->Prop}(hk:kindOf st=κ)(ha:∀x∈a.toList,S x)(hb:∀x∈b.toList,S x)(sA:a.toList.Pairwise (Le blt))(sB:b.toList.Pairwise (Le blt))
  (h1:0<a.size) (h2:0<b.size) (hf:∀x,b[0]? =some x->∀y∈a.toList,Le blt x y) (hl:∀y,a[a.size-1]? =some y->∀x∈b.toList,Le blt x y)
  (h:∀r st',Gd blt a.toList b.toList r.toList->SmG st st'->Q r st'):wpS (model prog w) A E s (mergeLo' a b) Q st:=by
 have la:a.toList.length=a.size:=zK;have lb:b.toList.length=b.size:=zK;have stA:∀{out:Array Keyed} {ia ib:Nat} {x:Keyed},Mi blt a.toList b.toList out.toList ia ib->a[ia]? =some x->(∀y∈b.toList.drop ib,Le blt x y)->Mi blt a.toList b.toList (out.push x).toList (ia+1) ib:=fun{out ia ib x} m hx hy=>by
  have e:=a1w hx;have hi:=(Array.getElem?_eq_some_iff.mp hx).1
  have:=m.add (k:=1) (by walk_at "o") sA (by rw[e];intro z hz;have:z=x:=(by simpa using hz);subst this;exact hy)
  rwa [e,List.take_succ_cons,take_zero,<-Array.toList_push] at this
 have stB:∀{out:Array Keyed} {ia ib:Nat} {x:Keyed},Mi blt a.toList b.toList out.toList ia ib->b[ib]? =some x->(∀y∈a.toList.drop ia,Le blt x y)->Mi blt a.toList b.toList (out.push x).toList ia (ib+1):=fun{out ia ib x} m hx hy=>by
  have e:=a1w hx;have hi:=(Array.getElem?_eq_some_iff.mp hx).1
  have:=m.symm.add (k:=1) (by walk_at "o") sB (by rw[e];intro z hz;have:z=x:=(by simpa using hz);subst this;exact hy)
  rw[e,List.take_succ_cons,take_zero,<-Array.toList_push] at this;exact this.symm
 have dB:∀{out:Array Keyed} {ia ib:Nat},Mi blt a.toList b.toList out.toList ia ib->ib=b.size->Gd blt a.toList b.toList (out++a.extract ia a.size++b.extract ib b.size).toList:=fun{out ia ib} m e=>by
  subst e
  have:=Mi.doneB (by rw[lb];exact m) sA
  simpa [jX,Array.extract_empty_of_size_le_start] using this
 have dA:∀{out:Array Keyed} {ia ib:Nat},Mi blt a.toList b.toList out.toList ia ib->ia=a.size->Gd blt a.toList b.toList (out++a.extract ia a.size++b.extract ib b.size).toList:=fun{out ia ib} m e=>by
  subst e
  have:=Mi.doneA (by rw[la];exact m) sB
  simpa [jX,Array.extract_empty_of_size_le_start] using this
 have dL:∀{out:Array Keyed} {ia ib:Nat},Mi blt a.toList b.toList out.toList ia ib->ia+1=a.size->Gd blt a.toList b.toList (out++b.extract ib b.size++a.extract ia a.size).toList:=fun{out ia ib} m e=>by
  obtain⟨y,hy⟩:=k7 (a:=a) (i:=a.size-1) (by walk_at "o")
  have e2:ia=a.size-1:=by walk_at "o"
  have:=m.last sA sB fun x hx z hz=>by
   rw[e2,a1w hy,jO (by walk_at "o")] at hz
   have:z=y:=by simpa using hz
   subst this;exact hl z hy x hx
  simpa [jX] using this
 rw[a2t];refine zF (wpS_lift (jP ⟨rfl,?_⟩));obtain⟨b0,hb0⟩:=k7 h2;refine zF (l7 hb0 ?_);have m0:Mi blt a.toList b.toList (#[b0]:Array Keyed).toList 0 1:=by
  have:=stB (out:= #[]) (ia:=0) (ib:=0) ⟨by walk_at "o",by walk_at "o",.refl _,.nil,fun x hx=>by simp at hx,fun x hx=>by simp at hx⟩ hb0 (by rw[yS];exact hf b0 hb0)
  exact this
 dsimp only
 by_cases c1:1=b.size
 ·rw[if_pos (by simpa using c1)]
  exact zI (h _ _ (dB m0 c1) ⟨rfl,rfl,rfl,rfl⟩)
 rw[if_neg (by simpa using c1)]
 by_cases c2:0+1=a.size
 ·rw[if_pos (by simpa using c2)]
  exact zI (h _ _ (dL m0 c2) ⟨rfl,rfl,rfl,rfl⟩)
 rw[if_neg (by simpa using c2)]
 refine zF (wpS_get ?_)
 refine zF (xA (jC (I:=fun x c st'=>∃out ia ib g,c=(none,out,ia,ib,g)/\SmG st st'/\Mi blt a.toList b.toList out.toList ia ib/\ia+1<a.size/\ib<b.size/\x+1<=ia+ib)
  (Q:=fun c st'=>∃r out ia ib g,c=(some r,out,ia,ib,g)/\SmG st st'/\Gd blt a.toList b.toList r.toList) ?step ?fin ⟨_,0,1,_,rfl,⟨rfl,rfl,rfl,rfl⟩,m0,by walk_at "o",by walk_at "o",by walk_at "o"⟩) ?post)
 case fin=>
  rintro c st' ⟨out,ia,ib,g,rfl,_,m,a1,a2,a3⟩;walk_at "o"
 case post=>
  rintro c st' ⟨r,out,ia,ib,g,rfl,sm,gd⟩;exact zI (h r st' gd sm)
 case step=>
  rintro x c st1 _ hx ⟨out,ia,ib,g,rfl,sm,m,a1,a2,a3⟩;dsimp only
  refine zF (xA (jC (I:=fun y c st'=>∃out ia ib p q,c=(none,out,ia,ib,p,q)/\SmG st st'/\Mi blt a.toList b.toList out.toList ia ib/\ia+1<a.size/\ib<b.size/\x+y+1<=ia+ib)
   (Q:=fun c st'=>∃rr out ia ib p q,c=(rr,out,ia,ib,p,q)/\SmG st st'/\((∃r,rr=some r/\Gd blt a.toList b.toList r.toList)\/rr=none/\Mi blt a.toList b.toList out.toList ia ib/\ia+1<a.size/\ib<b.size/\x+2<=ia+ib)) ?step2 ?fin2 ⟨out,ia,ib,0,0,rfl,sm,m,a1,a2,a3⟩) ?post2)
  case fin2=>
   rintro c st' ⟨out,ia,ib,p,q,rfl,sm,m,a1,a2,a3⟩;exact⟨none,out,ia,ib,p,q,rfl,sm,.inr ⟨rfl,m,a1,a2,by walk_at "o"⟩⟩
  case step2=>
   rintro y c st2 _ hy ⟨out,ia,ib,p,q,rfl,sm,m,a1,a2,a3⟩;dsimp only;obtain⟨u,hu⟩:=k7 (a:=a) (i:=ia) (by walk_at "o")
   obtain⟨v,hv⟩:=k7 (a:=b) (i:=ib) a2;have su:=ha u (g8 hu);have sv:=hb v (g8 hv);refine zF (l7 hv (zF (l7 hu (zF (hC v u sv su _ _ (sm.1.trans hk) ?_)))));dsimp only;cases e:blt v u with
   | true=>
    rw[if_pos rfl];have m2:=stB m hv (O3 hO ha sA hu sv (hO.as v u sv su e));refine zF (l7 hv ?_)
    by_cases c3:ib+1=b.size
    ·rw[if_pos (by simpa using c3)]
     exact zI ⟨_,_,_,_,_,_,rfl,sm,.inl ⟨_,rfl,dB m2 c3⟩⟩
    rw[if_neg (by simpa using c3)]
    split
    ·exact zI ⟨_,_,_,_,_,_,rfl,sm,.inr ⟨rfl,m2,a1,by walk_at "o",by walk_at "o"⟩⟩
    ·exact zI ⟨_,_,_,_,_,rfl,sm,m2,a1,by walk_at "o",by walk_at "o"⟩
   | false=>
    rw[if_neg (by simp)]
    have m2:=stA m hu (O3 hO hb sB hv su e);refine zF (l7 hu ?_)
    by_cases c3:ia+1+1=a.size
    ·rw[if_pos (by simpa using c3)]
     exact zI ⟨_,_,_,_,_,_,rfl,sm,.inl ⟨_,rfl,dL m2 c3⟩⟩
    rw[if_neg (by simpa using c3)]
    split
    ·exact zI ⟨_,_,_,_,_,_,rfl,sm,.inr ⟨rfl,m2,by walk_at "o",a2,by walk_at "o"⟩⟩
    ·exact zI ⟨_,_,_,_,_,rfl,sm,m2,by walk_at "o",a2,by walk_at "o"⟩
  case post2=>
   rintro c st2 ⟨rr,out,ia,ib,p,q,rfl,sm,⟨r,rfl,gd⟩|⟨rfl,m,a1,a2,a3⟩⟩
   ·dsimp only;exact zI ⟨r,out,ia,ib,g,rfl,sm,gd⟩
   dsimp only;refine zF (wpS_lift (jP ⟨rfl,?_⟩))
   refine zF (xA (jC (I:=fun y c st'=>∃out ia ib g p q,c=(none,out,ia,ib,g,p,q)/\SmG st st'/\Mi blt a.toList b.toList out.toList ia ib/\ia+1<a.size/\ib<b.size/\x+2<=ia+ib)
    (Q:=fun c st'=>∃rr out ia ib g p q,c=(rr,out,ia,ib,g,p,q)/\SmG st st'/\((∃r,rr=some r/\Gd blt a.toList b.toList r.toList)\/rr=none/\Mi blt a.toList b.toList out.toList ia ib/\ia+1<a.size/\ib<b.size/\x+2<=ia+ib)) ?step3 ?fin3 ⟨out,ia,ib,_,p,q,rfl,sm,m,a1,a2,a3⟩) ?post3)
   case fin3=>
    rintro c st' ⟨out,ia,ib,g,p,q,rfl,sm,m,a1,a2,a3⟩;exact⟨none,out,ia,ib,g,p,q,rfl,sm,.inr ⟨rfl,m,a1,a2,a3⟩⟩
   case post3=>
    rintro c st2 ⟨rr,out,ia,ib,g,p,q,rfl,sm,⟨r,rfl,gd⟩|⟨rfl,m,a1,a2,a3⟩⟩
    ·dsimp only;exact zI ⟨r,out,ia,ib,g,rfl,sm,gd⟩
    dsimp only;refine zF (O1 fun st3 sm3=>?_);exact zI ⟨out,ia,ib,_,rfl,sm.trans sm3,m,a1,a2,by walk_at "o"⟩
   case step3=>
    rintro y c st3 _ hy ⟨out,ia,ib,g,p,q,rfl,sm,m,a1,a2,a3⟩;dsimp only;obtain⟨v,hv⟩:=k7 (a:=b) (i:=ib) a2;have sv:=hb v (g8 hv)
    by_cases hg:g>1
    case' pos=>rw[if_pos hg]
    case' neg=>rw[if_neg hg]
    all_goals
     refine zF (O1 fun st4 sm4=>?_);have sm:=sm.trans sm4;refine zF (l7 hv (zF (W7 hC hO (sm.1.trans hk) sv (by walk_at "o") (by walk_at "o") (fun i x hi hx=>ha x (g8 hx)) (fun i j x y hij hj hx hy=>a1p hO ha sA hx hy (by walk_at "o")) fun k k0 k1 k2=>?_)))
     dsimp only;have mk:Mi blt a.toList b.toList (out++a.extract ia (ia+k)).toList (ia+k) ib:=by
      rw[a2B];refine m.add (by walk_at "o") sA fun z hz=>?_
      obtain⟨i,hi⟩:=xT.mp hz;rw[xM] at hi;split at hi
      ·rename_i hik;rw[xL,zR] at hi
       have:=k1 i z hik hi
       unfold bey at this;exact O3 hO hb sB hv (ha z (g8 hi)) (by unfold Le;simpa using this)
      ·cases hi
     by_cases hk0:k>0
     case' pos=>
      rw[if_pos hk0];have m2:=mk
      by_cases c3:ia+k+1=a.size
      case pos=>
       rw[if_pos (by simpa using c3)]
       exact zI ⟨_,_,_,_,_,_,_,rfl,sm,.inl ⟨_,rfl,dL m2 c3⟩⟩
      rw[if_neg (by simpa using c3)]
      by_cases c4:ia+k=a.size
      case pos=>
       rw[if_pos (by simpa using c4)]
       exact zI ⟨_,_,_,_,_,_,_,rfl,sm,.inl ⟨_,rfl,dA m2 c4⟩⟩
      rw[if_neg (by simpa using c4)]
      have b1:ia+k+1<a.size:=by walk_at "o"
      have b3:x+2<=ia+k+ib:=by walk_at "o"
      obtain⟨u,hu⟩:=k7 (a:=a) (i:=ia+k) (by walk_at "o")
      have e2:=k2 k u (zD _) (by walk_at "o") hu
     case' neg=>
      rw[if_neg hk0];have m2:=m;have b1:=a1;have b3:=a3;obtain⟨u,hu⟩:=k7 (a:=a) (i:=ia) (by walk_at "o")
      have e2:=k2 0 u (by walk_at "o") (by walk_at "o") hu
     all_goals
      have su:=ha u (g8 hu);have e3:blt v u=true:=by unfold bey at e2;simpa using e2
      have m3:=stB m2 hv (O3 hO ha sA hu sv (hO.as v u sv su e3));refine zF (l7 hv ?_)
      by_cases c5:ib+1=b.size
      case pos=>
       rw[if_pos (by simpa using c5)]
       exact zI ⟨_,_,_,_,_,_,_,rfl,sm,.inl ⟨_,rfl,dB m3 c5⟩⟩
      rw[if_neg (by simpa using c5)]
      refine zF (l7 hu (zF (W7 hC hO (sm.1.trans hk) su (by walk_at "o") (by walk_at "o") (fun i x hi hx=>hb x (g8 hx)) (fun i j x y hij hj hx hy=>a1p hO hb sB hx hy (by walk_at "o")) fun l l0 l1 l2=>?_)))
      dsimp only;have ml:=fun(z:Keyed) (hz:z∈(b.toList.drop (ib+1)).take l)=>show ∀y∈a.toList.drop _,Le blt z y by
       obtain⟨i,hi⟩:=xT.mp hz;rw[xM] at hi;split at hi
       ·rename_i hik;rw[xL,zR] at hi
        have:=l1 i z hik hi
        unfold bey at this;have sz:=hb z (g8 hi);exact O3 hO ha sA hu sz (hO.as _ _ sz su (by simpa using this))
       ·cases hi
      have ml:=(m3.symm.add (by walk_at "o") sB ml).symm
      rw[<-a2B] at ml
      by_cases hl0:l>0
      case' pos=>
       rw[if_pos hl0];have m4:=ml
       by_cases c6:ib+1+l=b.size
       case pos=>
        rw[if_pos (by simpa using c6)]
        exact zI ⟨_,_,_,_,_,_,_,rfl,sm,.inl ⟨_,rfl,dB m4 c6⟩⟩
       rw[if_neg (by simpa using c6)]
       have b4:ib+1+l<b.size:=by walk_at "o"
       obtain⟨v2,hv2⟩:=k7 (a:=b) (i:=ib+1+l) b4;have e4:=l2 l v2 (zD _) (by walk_at "o") hv2
      case' neg=>
       rw[if_neg hl0];have m4:=m3;have b4:ib+1<b.size:=by walk_at "o"
       obtain⟨v2,hv2⟩:=k7 (a:=b) (i:=ib+1) b4;have e4:=l2 0 v2 (by walk_at "o") (by walk_at "o") hv2
      all_goals
       have e5:Le blt u v2:=by unfold bey at e4;unfold Le;simpa using e4
       have m5:=stA m4 hu (O3 hO hb sB hv2 su e5);refine zF (l7 hu ?_)
       split
       ·rename_i c7;exact zI ⟨_,_,_,_,_,_,_,rfl,sm,.inl ⟨_,rfl,dL m5 (by simpa using c7)⟩⟩
       ·rename_i c7;simp only[xW] at c7
        split
        ·exact zI ⟨_,_,_,_,_,_,_,rfl,sm,.inr ⟨rfl,m5,by walk_at "o",b4,by walk_at "o"⟩⟩
        ·exact zI ⟨_,_,_,_,_,_,rfl,sm,m5,by walk_at "o",b4,by walk_at "o"⟩
end
theorem a2q (a b:Array Keyed):mergeHi' a b=(do
 rule "list.sort.merge-hi"
 let total:=a.size+b.size
 let done (out:Array Keyed) (na nb:Nat):=a.extract 0 na++b.extract 0 nb++out.reverse
 let firstOfB (out:Array Keyed) (na nb:Nat):=b.extract 0 nb++a.extract 0 na++out.reverse
 let mut na:=a.size-1
 let mut nb:=b.size
 let mut out:Array Keyed:= #[<-elem' a na]
 if na==0 then return done out na nb
 if nb==1 then return firstOfB out na nb
 let mut minGallop:=gallopOf (<-get)
 for _ in [0:total] do
  let mut acount:=0
  let mut bcount:=0
  for _ in [0:total] do
   let some aWins <-lt' (<-elem' b (nb-1)) (<-elem' a (na-1))|return done out na nb
   if aWins then
    na:=na-1;out:=out.push (<-elem' a na);acount:=acount+1;bcount:=0
    if na==0 then return done out na nb
    if acount≥minGallop then break
   else
    nb:=nb-1;out:=out.push (<-elem' b nb);bcount:=bcount+1;acount:=0
    if nb==1 then return firstOfB out na nb
    if bcount≥minGallop then break
  rule "list.sort.gallop"
  minGallop:=minGallop+1
  for _ in [0:total] do
   if minGallop>1 then minGallop:=minGallop-1
   setMinGallop' minGallop
   let some at_ <-gallop' false (<-elem' b (nb-1)) a 0 na (na-1)|return done out na nb
   let k:=na-at_
   acount:=k
   if k>0 then
    out:=out++(a.extract at_ na).reverse;na:=at_
    if na==0 then return done out na nb
   nb:=nb-1;out:=out.push (<-elem' b nb)
   if nb==1 then return firstOfB out na nb
   let some at_ <-gallop' true (<-elem' a (na-1)) b 0 nb (nb-1)|return done out na nb
   let k:=nb-at_
   bcount:=k
   if k>0 then
    out:=out++(b.extract at_ nb).reverse;nb:=at_
    if nb==1 then return firstOfB out na nb
    if nb==0 then return done out na nb
   na:=na-1;out:=out.push (<-elem' a na)
   if na==0 then return done out na nb
   if acount<7&&bcount<7 then break
  minGallop:=minGallop+1
  setMinGallop' minGallop
 unsupported "internal:list.sort.merge-bound"):=rfl
structure Mh (blt:Keyed->Keyed->Bool) (a b o:List Keyed) (na nb:Nat):Prop where
 la:na<=a.length
 lb:nb<=b.length
 pe:o.Perm (a.drop na++b.drop nb)
 so:o.Pairwise (Le blt)
 oa:∀x∈a.take na,∀y∈o,Le blt x y
 ob:∀x∈b.take nb,∀y∈o,Le blt x y
section
variable {blt:Keyed->Keyed->Bool}{a b o:List Keyed}{na nb m:Nat}
theorem Mh.symm (h:Mh blt a b o na nb):Mh blt b a o nb na:=⟨h.lb,h.la,h.pe.trans perm_append_comm,h.so,h.ob,h.oa⟩
theorem Mh.add (h:Mh blt a b o na nb)(hm:m<=na)(sA:a.Pairwise (Le blt))(hl:∀x∈b.take nb,∀y∈(a.take na).drop m,Le blt x y):Mh blt a b ((a.take na).drop m++o) m nb where
 la:=zQ hm h.la
 lb:=h.lb
 pe:=by
  have e:a.drop m=(a.take na).drop m++a.drop na:=by
   rw[<-xQ (by rw[qK];have:=h.la;walk_at "o"),jQ]
  rw[e,qU];exact vB _ h.pe
 so:=yR.mpr ⟨(sA.sublist (take_sublist _ _)).sublist (List.drop_sublist _ _),h.so,fun x hx y hy=>h.oa x (mem_of_mem_drop hx) y hy⟩
 oa:=fun x hx y hy=>by
  have e:a.take m=(a.take na).take m:=by rw[List.take_take,Nat.min_eq_left hm]
  rw[e] at hx;rcases qE.mp hy with z|z
  ·have p:=sA.sublist (take_sublist na a);rw[<-jQ m (a.take na)] at p;exact(yR.mp p).2.2 x hx y z
  ·exact h.oa x (yD hx) y z
 ob:=fun x hx y hy=>by
  rcases qE.mp hy with z|z
  ·exact hl x hx y z
  ·exact h.ob x hx y z
theorem Mh.all (h:Mh blt a b o 0 0):Gd blt a b o:=⟨by have:=h.pe;rwa [yS,yS] at this,h.so⟩
theorem Mh.doneA (h:Mh blt a b o 0 nb)(sB:b.Pairwise (Le blt)):Gd blt a b (b.take nb++o):=by
 have:=h.symm.add (m:=0) (qL _) sB fun x hx=>by rw[take_zero] at hx;cases hx
 rw[yS] at this;exact this.symm.all
theorem Mh.doneB (h:Mh blt a b o na 0)(sA:a.Pairwise (Le blt)):Gd blt a b (a.take na++o):=(h.symm.doneA sA).symm
theorem Mh.first (h:Mh blt a b o na nb)(sA:a.Pairwise (Le blt))(sB:b.Pairwise (Le blt))(hl:∀x∈b.take nb,∀y∈a,Le blt x y):Gd blt a b (b.take nb++(a.take na++o)):=by
 have:=h.add (m:=0) (qL _) sA fun x hx y hy=>hl x hx y (yD (mem_of_mem_drop hy))
 rw[yS] at this;exact this.doneA sB
end
theorem a13 {a:Array Keyed}{i:Nat}{x:Keyed}(h:a[i]? =some x):(a.toList.take (i+1)).drop i=[x]:=by
 have hi:=(Array.getElem?_eq_some_iff.mp h).1;rw[vC,zR,h,xQ (by rw[qK,zK];walk_at "o"),jO (by rw[qK,zK];walk_at "o")];rfl
theorem N0 {blt:Keyed->Keyed->Bool}{S:Keyed->Prop}(hO:Tot blt S){a:Array Keyed}(ha:∀x∈a.toList,S x)(sA:a.toList.Pairwise (Le blt)){i:Nat}{x y:Keyed}(hi:a[i]? =some x)(hS:S y)(h:Le blt x y):∀z∈a.toList.take (i+1),Le blt z y:=by
 intro z hz;obtain⟨j,hj⟩:=xT.mp hz;rw[xM] at hj;split at hj
 ·rename_i hji;rw[zR] at hj;exact hO.tr _ _ _ (ha _ (g8 hj)) (ha _ (g8 hi)) hS (a1p hO ha sA hj hi (by walk_at "o")) h
 ·cases hj
theorem a2E (out a:Array Keyed)(i n:Nat):(out++(a.extract i n).reverse).toList.reverse=(a.toList.take n).drop i++out.toList.reverse:=by
 rw[Array.toList_append,List.reverse_append,Array.toList_reverse,List.reverse_reverse,Array.toList_extract];congr 1;rw[List.extract_eq_take_drop,take_drop]
 by_cases h:i<=n
 ·rw[Nat.add_sub_cancel' h]
 ·rw[jO (by rw[qK];walk_at "o"),jO (by rw[qK];walk_at "o")]
section
variable {prog:Program}{w:World}{A:Around}{E:Value->Shared->Prop}{s:Shared}{κ:SortKind}{blt:Keyed->Keyed->Bool}{S:Keyed->Prop}
theorem a3s (hC:Cmp prog w A E s κ blt S)(hO:Tot blt S){a b:Array Keyed}{st:SortSt}{Q:Array Keyed->SortSt->Prop}(hk:kindOf st=κ)(ha:∀x∈a.toList,S x)(hb:∀x∈b.toList,S x)(sA:a.toList.Pairwise (Le blt))(sB:b.toList.Pairwise (Le blt))
  (h1:0<a.size) (h2:0<b.size) (hf:∀x,b[0]? =some x->∀y∈a.toList,Le blt x y) (hl:∀y,a[a.size-1]? =some y->∀x∈b.toList,Le blt x y)
  (h:∀r st',Gd blt a.toList b.toList r.toList->SmG st st'->Q r st'):wpS (model prog w) A E s (mergeHi' a b) Q st:=by
 have la:a.toList.length=a.size:=zK;have lb:b.toList.length=b.size:=zK;have stA:∀{out:Array Keyed} {na nb:Nat} {x:Keyed},Mh blt a.toList b.toList out.toList.reverse (na+1) nb->a[na]? =some x->(∀y∈b.toList.take nb,Le blt y x)->Mh blt a.toList b.toList (out.push x).toList.reverse na nb:=fun{out na nb x} m hx hy=>by
  have e:=a13 hx
  have:=m.add (m:=na) (by walk_at "o") sA (by rw[e];intro y hy2 z hz;have:z=x:=(by simpa using hz);subst this;exact hy y hy2)
  rw[e] at this;simpa using this
 have stB:∀{out:Array Keyed} {na nb:Nat} {x:Keyed},Mh blt a.toList b.toList out.toList.reverse na (nb+1)->b[nb]? =some x->(∀y∈a.toList.take na,Le blt y x)->Mh blt a.toList b.toList (out.push x).toList.reverse na nb:=fun{out na nb x} m hx hy=>by
  have e:=a13 hx
  have:=m.symm.add (m:=nb) (by walk_at "o") sB (by rw[e];intro y hy2 z hz;have:z=x:=(by simpa using hz);subst this;exact hy y hy2)
  rw[e] at this;simpa using this.symm
 have dA:∀{out:Array Keyed} {na nb:Nat},Mh blt a.toList b.toList out.toList.reverse na nb->na=0->Gd blt a.toList b.toList (a.extract 0 na++b.extract 0 nb++out.reverse).toList:=fun{out na nb} m e=>by
  subst e;simpa using m.doneA sB
 have dB:∀{out:Array Keyed} {na nb:Nat},Mh blt a.toList b.toList out.toList.reverse na nb->nb=0->Gd blt a.toList b.toList (a.extract 0 na++b.extract 0 nb++out.reverse).toList:=fun{out na nb} m e=>by
  subst e;simpa using m.doneB sA
 have dF:∀{out:Array Keyed} {na nb:Nat},Mh blt a.toList b.toList out.toList.reverse na nb->nb=1->Gd blt a.toList b.toList (b.extract 0 nb++a.extract 0 na++out.reverse).toList:=fun{out na nb} m e=>by
  subst e;obtain⟨x,hx⟩:=k7 h2
  have:=m.first sA sB fun z hz y hy=>by
   have e2:=a13 hx;rw[yS] at e2;rw[e2] at hz
   have:z=x:=by simpa using hz
   subst this;exact hf z hx y hy
  simpa using this
 rw[a2q];refine zF (wpS_lift (jP ⟨rfl,?_⟩));obtain⟨al,hal⟩:=k7 (a:=a) (i:=a.size-1) (by walk_at "o")
 refine zF (l7 hal ?_);have m0:Mh blt a.toList b.toList (#[al]:Array Keyed).toList.reverse (a.size-1) b.size:=by
  refine stA (out:= #[]) ⟨by walk_at "o",by walk_at "o",?_,.nil,fun x _ y hy=>by simp at hy,fun x _ y hy=>by simp at hy⟩ hal fun y hy=>hl al hal y (yD hy)
  rw[jO (by walk_at "o"),jO (by walk_at "o")];exact .refl _
 dsimp only
 by_cases c1:a.size-1=0
 ·rw[if_pos (by simpa using c1)]
  exact zI (h _ _ (dA m0 c1) ⟨rfl,rfl,rfl,rfl⟩)
 rw[if_neg (by simpa using c1)]
 by_cases c2:b.size=1
 ·rw[if_pos (by simpa using c2)]
  exact zI (h _ _ (dF m0 c2) ⟨rfl,rfl,rfl,rfl⟩)
 rw[if_neg (by simpa using c2)]
 refine zF (wpS_get ?_)
 refine zF (xA (jC (I:=fun x c st'=>∃out na nb g,c=(none,na,nb,out,g)/\SmG st st'/\Mh blt a.toList b.toList out.toList.reverse na nb/\1<=na/\2<=nb/\x+1+na+nb<=a.size+b.size)
  (Q:=fun c st'=>∃r out na nb g,c=(some r,na,nb,out,g)/\SmG st st'/\Gd blt a.toList b.toList r.toList) ?step ?fin ⟨_,a.size-1,b.size,_,rfl,⟨rfl,rfl,rfl,rfl⟩,m0,by walk_at "o",by walk_at "o",by walk_at "o"⟩) ?post)
 case fin=>
  rintro c st' ⟨out,na,nb,g,rfl,_,m,a1,a2,a3⟩;walk_at "o"
 case post=>
  rintro c st' ⟨r,out,na,nb,g,rfl,sm,gd⟩;exact zI (h r st' gd sm)
 case step=>
  rintro x c st1 _ hx ⟨out,na,nb,g,rfl,sm,m,a1,a2,a3⟩;dsimp only
  refine zF (xA (jC (I:=fun y c st'=>∃out na nb p q,c=(none,na,nb,out,p,q)/\SmG st st'/\Mh blt a.toList b.toList out.toList.reverse na nb/\1<=na/\2<=nb/\x+y+1+na+nb<=a.size+b.size)
   (Q:=fun c st'=>∃rr out na nb p q,c=(rr,na,nb,out,p,q)/\SmG st st'/\((∃r,rr=some r/\Gd blt a.toList b.toList r.toList)\/rr=none/\Mh blt a.toList b.toList out.toList.reverse na nb/\1<=na/\2<=nb/\x+2+na+nb<=a.size+b.size)) ?step2 ?fin2 ⟨out,na,nb,0,0,rfl,sm,m,a1,a2,a3⟩) ?post2)
  case fin2=>
   rintro c st' ⟨out,na,nb,p,q,rfl,sm,m,a1,a2,a3⟩;exact⟨none,out,na,nb,p,q,rfl,sm,.inr ⟨rfl,m,a1,a2,by walk_at "o"⟩⟩
  case step2=>
   rintro y c st2 _ hy ⟨out,na,nb,p,q,rfl,sm,m,a1,a2,a3⟩;dsimp only;have e1:na-1+1=na:=by walk_at "o"
   have e2:nb-1+1=nb:=by walk_at "o"
   have l1:=m.la;have l2:=m.lb;obtain⟨u,hu⟩:=k7 (a:=a) (i:=na-1) (by walk_at "o")
   obtain⟨v,hv⟩:=k7 (a:=b) (i:=nb-1) (by walk_at "o")
   have su:=ha u (g8 hu);have sv:=hb v (g8 hv);refine zF (l7 hv (zF (l7 hu (zF (hC v u sv su _ _ (sm.1.trans hk) ?_)))));dsimp only;cases e:blt v u with
   | true=>
    rw[if_pos rfl];have m2:=stA (na:=na-1) (by rw[e1];exact m) hu (by have:=N0 hO hb sB hv su (hO.as v u sv su e);rwa [e2] at this)
    refine zF (l7 hu ?_)
    split
    ·rename_i c3;exact zI ⟨_,_,_,_,_,_,rfl,sm,.inl ⟨_,rfl,dA m2 (by simpa using c3)⟩⟩
    ·rename_i c3;simp only[xW] at c3
     split
     ·exact zI ⟨_,_,_,_,_,_,rfl,sm,.inr ⟨rfl,m2,by walk_at "o",a2,by walk_at "o"⟩⟩
     ·exact zI ⟨_,_,_,_,_,rfl,sm,m2,by walk_at "o",a2,by walk_at "o"⟩
   | false=>
    rw[if_neg (by simp)]
    have m2:=stB (nb:=nb-1) (by rw[e2];exact m) hv (by have:=N0 hO ha sA hu sv e;rwa [e1] at this)
    refine zF (l7 hv ?_)
    split
    ·rename_i c3;exact zI ⟨_,_,_,_,_,_,rfl,sm,.inl ⟨_,rfl,dF m2 (by simpa using c3)⟩⟩
    ·rename_i c3;simp only[xW] at c3
     split
     ·exact zI ⟨_,_,_,_,_,_,rfl,sm,.inr ⟨rfl,m2,a1,by walk_at "o",by walk_at "o"⟩⟩
     ·exact zI ⟨_,_,_,_,_,rfl,sm,m2,a1,by walk_at "o",by walk_at "o"⟩
  case post2=>
   rintro c st2 ⟨rr,out,na,nb,p,q,rfl,sm,⟨r,rfl,gd⟩|⟨rfl,m,a1,a2,a3⟩⟩
   ·dsimp only;exact zI ⟨r,out,na,nb,g,rfl,sm,gd⟩
   dsimp only;refine zF (wpS_lift (jP ⟨rfl,?_⟩))
   refine zF (xA (jC (I:=fun y c st'=>∃out na nb g p q,c=(none,na,nb,out,g,p,q)/\SmG st st'/\Mh blt a.toList b.toList out.toList.reverse na nb/\1<=na/\2<=nb/\x+2+na+nb<=a.size+b.size)
    (Q:=fun c st'=>∃rr out na nb g p q,c=(rr,na,nb,out,g,p,q)/\SmG st st'/\((∃r,rr=some r/\Gd blt a.toList b.toList r.toList)\/rr=none/\Mh blt a.toList b.toList out.toList.reverse na nb/\1<=na/\2<=nb/\x+2+na+nb<=a.size+b.size)) ?step3 ?fin3 ⟨out,na,nb,_,p,q,rfl,sm,m,a1,a2,a3⟩) ?post3)
   case fin3=>
    rintro c st' ⟨out,na,nb,g,p,q,rfl,sm,m,a1,a2,a3⟩;exact⟨none,out,na,nb,g,p,q,rfl,sm,.inr ⟨rfl,m,a1,a2,a3⟩⟩
   case post3=>
    rintro c st2 ⟨rr,out,na,nb,g,p,q,rfl,sm,⟨r,rfl,gd⟩|⟨rfl,m,a1,a2,a3⟩⟩
    ·dsimp only;exact zI ⟨r,out,na,nb,g,rfl,sm,gd⟩
    dsimp only;refine zF (O1 fun st3 sm3=>?_);exact zI ⟨out,na,nb,_,rfl,sm.trans sm3,m,a1,a2,by walk_at "o"⟩
   case step3=>
    rintro y c st3 _ hy ⟨out,na,nb,g,p,q,rfl,sm,m,a1,a2,a3⟩;dsimp only;have l1:=m.la;have l2:=m.lb;have e2:nb-1+1=nb:=by walk_at "o"
    obtain⟨v,hv⟩:=k7 (a:=b) (i:=nb-1) (by walk_at "o")
    have sv:=hb v (g8 hv)
    by_cases hg:g>1
    case' pos=>rw[if_pos hg]
    case' neg=>rw[if_neg hg]
    all_goals
     refine zF (O1 fun st4 sm4=>?_);have sm:=sm.trans sm4;refine zF (l7 hv (zF (W7 hC hO (sm.1.trans hk) sv (by walk_at "o") (by walk_at "o") (fun i x hi hx=>ha x (g8 hx)) (fun i j x y hij hj hx hy=>a1p hO ha sA hx hy (by walk_at "o")) fun k k0 k1 k2=>?_)))
     dsimp only;have mk:Mh blt a.toList b.toList (out++(a.extract k na).reverse).toList.reverse k nb:=by
      rw[a2E];refine m.add k0 sA fun y2 hy2 z hz=>?_;obtain⟨i,hi⟩:=xT.mp hz;rw[xL,xM] at hi;split at hi
      ·rename_i hik;rw[zR] at hi
       have:=k2 (k+i) z (by walk_at "o") hik (by rw[xZ];exact hi)
       unfold bey at this;have sz:=ha z (g8 hi)
       have:=N0 hO hb sB hv sz (hO.as _ _ sv sz (by simpa using this))
       rw[e2] at this;exact this y2 hy2
      ·cases hi
     by_cases hk0:na-k>0
     case' pos=>
      rw[if_pos hk0];have m2:=mk
      by_cases c3:k=0
      case pos=>
       rw[if_pos (by simpa using c3)]
       exact zI ⟨_,_,_,_,_,_,_,rfl,sm,.inl ⟨_,rfl,dA m2 c3⟩⟩
      rw[if_neg (by simpa using c3)]
      have b1:1<=k:=by walk_at "o"
      have e1:k-1+1=k:=by walk_at "o"
      have b3:x+2+k+nb<=a.size+b.size:=by walk_at "o"
      obtain⟨u,hu⟩:=k7 (a:=a) (i:=k-1) (by walk_at "o")
      have e3:=k1 (k-1) u (by walk_at "o") (by rw[xZ];exact hu)
     case' neg=>
      rw[if_neg hk0];have m2:=m;have b1:=a1;have e1:na-1+1=na:=by walk_at "o"
      have b3:=a3;obtain⟨u,hu⟩:=k7 (a:=a) (i:=na-1) (by walk_at "o")
      have e3:=k1 (na-1) u (by walk_at "o") (by rw[xZ];exact hu)
     all_goals
      have su:=ha u (g8 hu);have e4:Le blt u v:=by unfold bey at e3;unfold Le;simpa using e3
      have m3:=stB (nb:=nb-1) (by rw[e2];exact m2) hv (by have:=N0 hO ha sA hu sv e4;rwa [e1] at this)
      refine zF (l7 hv ?_)
      by_cases c5:nb-1=1
      case pos=>
       rw[if_pos (by simpa using c5)]
       exact zI ⟨_,_,_,_,_,_,_,rfl,sm,.inl ⟨_,rfl,dF m3 c5⟩⟩
      rw[if_neg (by simpa using c5)]
      refine zF (l7 hu (zF (W7 hC hO (sm.1.trans hk) su (by walk_at "o") (by walk_at "o") (fun i x hi hx=>hb x (g8 hx)) (fun i j x y hij hj hx hy=>a1p hO hb sB hx hy (by walk_at "o")) fun l l0 l1 l2=>?_)))
      dsimp only;have ml:=fun(y2:Keyed) (hy2:y2∈a.toList.take _) (z:Keyed) (hz:z∈(b.toList.take (nb-1)).drop l)=>show Le blt y2 z by
       obtain⟨i,hi⟩:=xT.mp hz;rw[xL,xM] at hi;split at hi
       ·rename_i hik;rw[zR] at hi
        have:=l2 (l+i) z (by walk_at "o") hik (by rw[xZ];exact hi)
        unfold bey at this
        have:=N0 hO ha sA hu (hb z (g8 hi)) (by unfold Le;simpa using this)
        rw[e1] at this;exact this y2 hy2
       ·cases hi
      have ml:=(m3.symm.add l0 sB ml).symm;rw[<-a2E] at ml
      by_cases hl0:nb-1-l>0
      case' pos=>
       rw[if_pos hl0];have m4:=ml
       by_cases c6:l=1
       case pos=>
        rw[if_pos (by simpa using c6)]
        exact zI ⟨_,_,_,_,_,_,_,rfl,sm,.inl ⟨_,rfl,dF m4 c6⟩⟩
       rw[if_neg (by simpa using c6)]
       by_cases c7:l=0
       case pos=>
        rw[if_pos (by simpa using c7)]
        exact zI ⟨_,_,_,_,_,_,_,rfl,sm,.inl ⟨_,rfl,dB m4 c7⟩⟩
       rw[if_neg (by simpa using c7)]
       have b4:2<=l:=by walk_at "o"
       have e7:l-1+1=l:=by walk_at "o"
       obtain⟨v2,hv2⟩:=k7 (a:=b) (i:=l-1) (by walk_at "o")
       have e5:=l1 (l-1) v2 (by walk_at "o") (by rw[xZ];exact hv2)
      case' neg=>
       rw[if_neg hl0];have m4:=m3;have b4:2<=nb-1:=by walk_at "o"
       have e7:nb-1-1+1=nb-1:=by walk_at "o"
       obtain⟨v2,hv2⟩:=k7 (a:=b) (i:=nb-1-1) (by walk_at "o")
       have e5:=l1 (nb-1-1) v2 (by walk_at "o") (by rw[xZ];exact hv2)
      all_goals
       have sv2:=hb v2 (g8 hv2);have e6:blt v2 u=true:=by unfold bey at e5;simpa using e5
       have m5:=stA (by rw[e1];exact m4) hu (by have:=N0 hO hb sB hv2 su (hO.as _ _ sv2 su e6);rwa [e7] at this)
       refine zF (l7 hu ?_)
       split
       ·rename_i c8;exact zI ⟨_,_,_,_,_,_,_,rfl,sm,.inl ⟨_,rfl,dA m5 (by simpa using c8)⟩⟩
       ·rename_i c8;simp only[xW] at c8
        split
        ·exact zI ⟨_,_,_,_,_,_,_,rfl,sm,.inr ⟨rfl,m5,by walk_at "o",b4,by walk_at "o"⟩⟩
        ·exact zI ⟨_,_,_,_,_,_,rfl,sm,m5,by walk_at "o",b4,by walk_at "o"⟩
end
def Srt (blt:Keyed->Keyed->Bool) (arr:Array Keyed) (lo hi:Nat):Prop:=∀i j x y,lo<=i->i<=j->j<hi->arr[i]? =some x->arr[j]? =some y->Le blt x y
def Ninc (blt:Keyed->Keyed->Bool) (arr:Array Keyed) (lo hi:Nat):Prop:=∀i j x y,lo<=i->i<=j->j<hi->arr[i]? =some x->arr[j]? =some y->Le blt y x
def Same2 (blt:Keyed->Keyed->Bool) (arr:Array Keyed) (lo hi:Nat):Prop:=∀i j x y,lo<=i->i<hi->lo<=j->j<hi->arr[i]? =some x->arr[j]? =some y->Le blt x y
structure Kp (lo:Nat) (st st':SortSt):Prop where
 kd:kindOf st'=kindOf st
 pd:pendingOf st'=pendingOf st
 fl:failedOf st'=failedOf st
 pe:(arrOf st').Perm (arrOf st)
 lw:∀i,i<lo->(arrOf st')[i]? =(arrOf st)[i]?
theorem Kp.rfl {lo:Nat}{st:SortSt}:Kp lo st st:=⟨Eq.refl _,Eq.refl _,Eq.refl _,.refl _,fun _ _=>Eq.refl _⟩
theorem Kp.trans {lo:Nat}{st st' st2:SortSt}(h:Kp lo st st')(k:Kp lo st' st2):Kp lo st st2:=⟨k.kd.trans h.kd,k.pd.trans h.pd,k.fl.trans h.fl,k.pe.trans h.pe,fun i hi=>(k.lw i hi).trans (h.lw i hi)⟩
theorem Kp.size {lo:Nat}{st st':SortSt}(h:Kp lo st st'):(arrOf st').size=(arrOf st).size:=h.pe.size_eq
theorem Kp.all {S:Keyed->Prop}{lo:Nat}{st st':SortSt}(h:Kp lo st st')(hS:∀x∈(arrOf st).toList,S x):∀x∈(arrOf st').toList,S x:=fun x hx=>hS x ((jI.mp h.pe).mem_iff.mp hx)
def ascM (lo a nrem:Nat):StateT SortSt Sem (Option (Option Nat)×Nat):=
 forIn [a:nrem] ((none,a):Option (Option Nat)×Nat) fun _ __s=>do
  let __x <-ltAt' (lo+__s.snd) (lo+__s.snd-1)
  match __x with
  | some smaller=>if smaller=true then pure (ForInStep.done (none,__s.snd)) else pure (ForInStep.yield (none,__s.snd+1))
  | _=>pure (ForInStep.done (some none,__s.snd))
def descM (lo n nrem:Nat):StateT SortSt Sem (Option (Option Nat)×Nat×Nat):=
 forIn [n:nrem] ((none,n,0):Option (Option Nat)×Nat×Nat) fun _ __s=>do
  let __x <-ltAt' (lo+__s.snd.fst) (lo+__s.snd.fst-1)
  match __x with
  | some smaller=>
   if smaller=true then
    if __s.snd.snd>0 then do
     reverseSlice' (lo+__s.snd.fst-(__s.snd.snd+1)) (lo+__s.snd.fst)
     pure (ForInStep.yield (none,__s.snd.fst+1,0))
    else pure (ForInStep.yield (none,__s.snd.fst+1,0))
   else do
    let __x <-ltAt' (lo+__s.snd.fst-1) (lo+__s.snd.fst)
    match __x with
    | some larger=>
     if larger=true then pure (ForInStep.done (none,__s.snd.fst,__s.snd.snd))
     else pure (ForInStep.yield (none,__s.snd.fst+1,__s.snd.snd+1))
    | _=>pure (ForInStep.done (some none,__s.snd.fst,__s.snd.snd))
  | _=>pure (ForInStep.done (some none,__s.snd.fst,__s.snd.snd))
section
variable {prog:Program}{w:World}{A:Around}{E:Value->Shared->Prop}{s:Shared}{κ:SortKind}{blt:Keyed->Keyed->Bool}{S:Keyed->Prop}
theorem U1 (hC:Cmp prog w A E s κ blt S){st:SortSt}{i j:Nat}{x y:Keyed}{Q:Option Bool->SortSt->Prop}(hk:kindOf st=κ)(hS:∀x∈(arrOf st).toList,S x)(hi:(arrOf st)[i]? =some x)(hj:(arrOf st)[j]? =some y)(h:Q (some (blt x y)) st):
  wpS (model prog w) A E s (ltAt' i j) Q st:=by
 rw[ltAt'_eq];refine zF (wpS_get ?_);exact zF (l7 hi (zF (l7 hj (hC x y (hS x (g8 hi)) (hS y (g8 hj)) _ _ hk h))))
theorem a1z {st:SortSt}{lo i j:Nat}{Q:Unit->SortSt->Prop}(hi:lo<=i)(hj:j<=(arrOf st).size)
  (h:∀st',Kp lo st st'->(∀k,(arrOf st')[k]? =if i<=k/\k<j then(arrOf st)[i+j-1-k]? else(arrOf st)[k]?)->Q () st'):wpS (model prog w) A E s (reverseSlice' i j) Q st:=by
 refine wpS_reverse (h _ ⟨rfl,rfl,rfl,mirror_perm _ _ _ _,fun k hk=>?_⟩ fun k=>getElem?_mirror_all hj k);show(mirror (arrOf st) i j ((j-i)/2))[k]? =_;rw[getElem?_mirror_all hj,if_neg (by walk_at "o")]
theorem a7a (hC:Cmp prog w A E s κ blt S)(hO:Tot blt S){st:SortSt}{lo a nrem:Nat}{β:Type}{F:Option (Option Nat)×Nat->StateT SortSt Sem β}{Q:β->SortSt->Prop}(hk:kindOf st=κ)(hS:∀x∈(arrOf st).toList,S x)(hz:lo+nrem<=(arrOf st).size)(ha:1<=a)(han:a<=nrem)(hs:Srt blt (arrOf st) lo (lo+a))
  (h:∀n,a<=n->n<=nrem->Srt blt (arrOf st) lo (lo+n)->(n=nrem\/∀x y,(arrOf st)[lo+n]? =some x->(arrOf st)[lo+n-1]? =some y->blt x y=true)->wpS (model prog w) A E s (F (none,n)) Q st):wpS (model prog w) A E s (ascM lo a nrem >>=F) Q st:=by
 unfold ascM
 refine zF (xA (jC (I:=fun x c st'=>st'=st/\c=(none,x)/\Srt blt (arrOf st) lo (lo+x))
  (Q:=fun c st'=>st'=st/\∃n,c=(none,n)/\a<=n/\n<=nrem/\Srt blt (arrOf st) lo (lo+n)/\(n=nrem\/∀x y,(arrOf st)[lo+n]? =some x->(arrOf st)[lo+n-1]? =some y->blt x y=true)) ?step ?fin ⟨rfl,rfl,hs⟩) ?post)
 case fin=>
  rintro c st' ⟨rfl,rfl,hs'⟩;rw[show max a nrem=nrem by walk_at "o"] at hs' ⊢
  exact⟨rfl,nrem,rfl,han,zD _,hs',.inl rfl⟩
 case post=>
  rintro c st' ⟨rfl,n,rfl,h1,h2,h3,h4⟩;exact h n h1 h2 h3 h4
 case step=>
  rintro n c st' hax hxn ⟨rfl,rfl,hs'⟩;dsimp only;obtain⟨x,hx⟩:=k7 (a:=arrOf st') (i:=lo+n) (by walk_at "o")
  obtain⟨y,hy⟩:=k7 (a:=arrOf st') (i:=lo+n-1) (by walk_at "o")
  refine zF (U1 hC hk hS hx hy ?_);dsimp only;cases e:blt x y with
  | true=>
   rw[if_pos rfl];refine zI ⟨rfl,n,rfl,hax,by walk_at "o",hs',.inr fun x' y' hx' hy'=>?_⟩
   rw[hx] at hx';rw[hy] at hy';cases hx';cases hy';exact e
  | false=>
   rw[if_neg (by simp)]
   refine zI ⟨rfl,rfl,fun i j u v hi hij hj hu hv=>?_⟩
   by_cases hjx:j<lo+n
   ·exact hs' i j u v hi hij hjx hu hv
   ·have hj':j=lo+n:=by walk_at "o"
    subst hj';rw[hx] at hv;cases hv
    by_cases hi':i=lo+n
    ·subst hi';rw[hx] at hu;cases hu;exact hO.rf (hS x (g8 hx))
    ·exact hO.tr _ _ _ (hS _ (g8 hu)) (hS _ (g8 hy)) (hS _ (g8 hx)) (hs' i (lo+n-1) u y hi (by walk_at "o") (by walk_at "o") hu hy) e
theorem Same2.mirror {arr arr':Array Keyed}{lo lo2 hi:Nat}(h:∀k,arr'[k]? =if lo2<=k/\k<hi then arr[lo2+hi-1-k]? else arr[k]?)(h2:Same2 blt arr lo2 hi)(hN:Ninc blt arr lo hi):Ninc blt arr' lo hi:=fun i j x y hi' hij hj hx hy=>by
 rw[h] at hx hy
 by_cases hlo:lo2<=i
 ·rw[if_pos (by walk_at "o")] at hx hy
  exact h2 _ _ _ _ (by walk_at "o") (by walk_at "o") (by walk_at "o") (by walk_at "o") hy hx
 ·rw[if_neg (by walk_at "o")] at hx
  by_cases hlj:lo2<=j
  ·rw[if_pos (by walk_at "o")] at hy
   exact hN _ _ _ _ hi' (by walk_at "o") (by walk_at "o") hx hy
  ·rw[if_neg (by walk_at "o")] at hy
   exact hN _ _ _ _ hi' hij hj hx hy
theorem Ninc.grow (hO:Tot blt S){arr:Array Keyed}{lo n:Nat}{x y:Keyed}(hS:∀x∈arr.toList,S x)(h:Ninc blt arr lo (lo+n))(hx:arr[lo+n]? =some x)(hy:arr[lo+n-1]? =some y)(hn:1<=n)(e:Le blt x y):Ninc blt arr lo (lo+(n+1)):=fun i j u v hi hij hj hu hv=>by
 by_cases hjx:j<lo+n
 ·exact h i j u v hi hij hjx hu hv
 ·have hj':j=lo+n:=by walk_at "o"
  subst hj';rw[hx] at hv;cases hv
  by_cases hi':i=lo+n
  ·subst hi';rw[hx] at hu;cases hu;exact hO.rf (hS x (g8 hx))
  ·exact hO.tr _ _ _ (hS _ (g8 hx)) (hS _ (g8 hy)) (hS _ (g8 hu)) e (h i (lo+n-1) u y hi (by walk_at "o") (by walk_at "o") hu hy)
theorem a8L (hC:Cmp prog w A E s κ blt S)(hO:Tot blt S){st:SortSt}{lo a nrem:Nat}{β:Type}{F:Option (Option Nat)×Nat×Nat->StateT SortSt Sem β}{Q:β->SortSt->Prop}(hk:kindOf st=κ)(hS:∀x∈(arrOf st).toList,S x)(hz:lo+nrem<=(arrOf st).size)(ha:1<=a)(han:a<=nrem)(hs:Ninc blt (arrOf st) lo (lo+a))
  (h:∀n neq st',Kp lo st st'->a<=n->n<=nrem->Ninc blt (arrOf st') lo (lo+n)->neq+1<=n->Same2 blt (arrOf st') (lo+n-(neq+1)) (lo+n)->wpS (model prog w) A E s (F (none,n,neq)) Q st'):wpS (model prog w) A E s (descM lo a nrem >>=F) Q st:=by
 unfold descM
 refine zF (xA (jC (I:=fun n c st'=>∃neq,c=(none,n,neq)/\Kp lo st st'/\Ninc blt (arrOf st') lo (lo+n)/\neq+1<=n/\Same2 blt (arrOf st') (lo+n-(neq+1)) (lo+n))
  (Q:=fun c st'=>∃n neq,c=(none,n,neq)/\Kp lo st st'/\a<=n/\n<=nrem/\Ninc blt (arrOf st') lo (lo+n)/\neq+1<=n/\Same2 blt (arrOf st') (lo+n-(neq+1)) (lo+n)) ?step ?fin ⟨0,rfl,.rfl,hs,by walk_at "o",fun i j x y h1 h2 h3 h4 hx hy=>?init⟩) ?post)
 case init=>
  have:i=j:=by walk_at "o"
  subst this;rw[hx] at hy;cases hy;exact hO.rf (hS _ (g8 hx))
 case fin=>
  rintro c st' ⟨neq,rfl,kp,hs',hq,he⟩;rw[show max a nrem=nrem by walk_at "o"] at hs' hq he ⊢
  exact⟨nrem,neq,rfl,kp,han,zD _,hs',hq,he⟩
 case post=>
  rintro c st' ⟨n,neq,rfl,kp,h1,h2,h3,h4,h5⟩;exact h n neq st' kp h1 h2 h3 h4 h5
 case step=>
  rintro n c st' hax hxn ⟨neq,rfl,kp,hs',hq,he⟩;dsimp only;have hS':=kp.all hS;have hsz:=kp.size;have one:∀{arr:Array Keyed} {m:Nat},(∀x∈arr.toList,S x)->Same2 blt arr (lo+(m+1)-(0+1)) (lo+(m+1)):=fun{arr m} hS i j x y h1 h2 h3 h4 hx hy=>by
   have:i=j:=by walk_at "o"
   subst this;rw[hx] at hy;cases hy;exact hO.rf (hS _ (g8 hx))
  obtain⟨x,hx⟩:=k7 (a:=arrOf st') (i:=lo+n) (by walk_at "o")
  obtain⟨y,hy⟩:=k7 (a:=arrOf st') (i:=lo+n-1) (by walk_at "o")
  refine zF (U1 hC (kp.kd.trans hk) hS' hx hy ?_);dsimp only;have sx:=hS' x (g8 hx);have sy:=hS' y (g8 hy);cases e:blt x y with
  | true=>
   rw[if_pos rfl];have le:=hO.as x y sx sy e
   by_cases hneq:neq>0
   ·rw[if_pos hneq];refine zF (a1z (lo:=lo) (by walk_at "o") (by walk_at "o") fun st2 kp2 hm=>?_)
    have kp3:=kp.trans kp2;have hS2:=kp3.all hS;refine zI ⟨0,rfl,kp3,?_,by walk_at "o",one hS2⟩
    obtain⟨y2,hy2⟩:=k7 (a:=arrOf st2) (i:=lo+n-1) (by rw[kp3.size];walk_at "o")
    have hx2:(arrOf st2)[lo+n]? =some x:=by rw[hm,if_neg (by walk_at "o")];exact hx
    refine Ninc.grow hO hS2 (he.mirror hm hs') hx2 hy2 (by walk_at "o") ?_
    rw[hm,if_pos (by walk_at "o")] at hy2
    exact hO.tr _ _ _ sx sy (hS' _ (g8 hy2)) le (he _ _ _ _ (by walk_at "o") (by walk_at "o") (by walk_at "o") (by walk_at "o") hy hy2)
   ·rw[if_neg hneq];exact zI ⟨0,rfl,kp,Ninc.grow hO hS' hs' hx hy (by walk_at "o") le,by walk_at "o",one hS'⟩
  | false=>
   rw[if_neg (by simp)]
   refine zF (U1 hC (kp.kd.trans hk) hS' hy hx ?_);dsimp only;cases e2:blt y x with
   | true=>
    rw[if_pos rfl];exact zI ⟨n,neq,rfl,kp,hax,by walk_at "o",hs',hq,he⟩
   | false=>
    rw[if_neg (by simp)]
    refine zI ⟨neq+1,rfl,kp,Ninc.grow hO hS' hs' hx hy (by walk_at "o") e2,by walk_at "o",fun i j u v h1 h2 h3 h4 hu hv=>?_⟩
    have lx:∀k z,lo+n-(neq+1)<=k->k<=lo+n->(arrOf st')[k]? =some z->Le blt z y/\Le blt y z:=fun k z k1 k2 hz'=>by
     by_cases hk2:k=lo+n
     ·subst hk2;rw[hx] at hz';cases hz';exact⟨e2,e⟩
     ·exact⟨he _ _ _ _ (by walk_at "o") (by walk_at "o") (by walk_at "o") (by walk_at "o") hz' hy,he _ _ _ _ (by walk_at "o") (by walk_at "o") (by walk_at "o") (by walk_at "o") hy hz'⟩
    exact hO.tr _ _ _ (hS' _ (g8 hu)) sy (hS' _ (g8 hv)) (lx i u (by walk_at "o") (by walk_at "o") hu).1 (lx j v (by walk_at "o") (by walk_at "o") hv).2
end
section
variable {prog:Program}{w:World}{A:Around}{E:Value->Shared->Prop}{s:Shared}{κ:SortKind}{blt:Keyed->Keyed->Bool}{S:Keyed->Prop}
theorem Ninc.turned {arr arr':Array Keyed}{lo hi:Nat}(h:∀k,arr'[k]? =if lo<=k/\k<hi then arr[lo+hi-1-k]? else arr[k]?)(hN:Ninc blt arr lo hi):Srt blt arr' lo hi:=fun i j x y hi' hij hj hx hy=>by
 rw[h,if_pos (by walk_at "o")] at hx hy
 exact hN _ _ _ _ (by walk_at "o") (by walk_at "o") (by walk_at "o") hy hx
theorem Ninc.same {arr:Array Keyed}{lo:Nat}(hO:Tot blt S)(hS:∀x∈arr.toList,S x):Ninc blt arr lo (lo+1)/\Srt blt arr lo (lo+1):=by
 constructor
 all_goals
  intro i j x y h1 h2 h3 hx hy
  have:i=j:=by walk_at "o"
  subst this;rw[hx] at hy;cases hy;exact hO.rf (hS _ (g8 hx))
def tailM (lo n nrem:Nat):StateT SortSt Sem (Option Nat):=do
 liftM (rule "list.sort.descending-run")
 let __s <-descM lo (n+1) nrem
 match __s.fst with
 | some r=>pure r
 | none=>
  if __s.snd.snd>0 then do
   reverseSlice' (lo+__s.snd.fst-(__s.snd.snd+1)) (lo+__s.snd.fst)
   reverseSlice' lo (lo+__s.snd.fst)
   let __s <-ascM lo __s.snd.fst nrem
   match __s.fst with
   | some r=>pure r
   | none=>pure (some __s.snd)
  else do
   reverseSlice' lo (lo+__s.snd.fst)
   let __s <-ascM lo __s.snd.fst nrem
   match __s.fst with
   | some r=>pure r
   | none=>pure (some __s.snd)
theorem a36 (hC:Cmp prog w A E s κ blt S)(hO:Tot blt S){st:SortSt}{lo n nrem:Nat}{Q:Option Nat->SortSt->Prop}(hk:kindOf st=κ)(hS:∀x∈(arrOf st).toList,S x)(hz:lo+nrem<=(arrOf st).size)(hn:n+1<=nrem)(hs:Ninc blt (arrOf st) lo (lo+(n+1)))
  (h:∀m st',1<=m->m<=nrem->Kp lo st st'->Srt blt (arrOf st') lo (lo+m)->Q (some m) st'):wpS (model prog w) A E s (tailM lo n nrem) Q st:=by
 unfold tailM;refine zF (wpS_lift (jP ⟨rfl,?_⟩));refine a8L hC hO hk hS hz (by walk_at "o") hn hs fun m neq st1 kp h1 h2 h3 h4 h5=>?_
 dsimp only;have hz1:=kp.size
 by_cases hq:neq>0
 case' pos=>
  rw[if_pos hq];refine zF (a1z (lo:=lo) (by walk_at "o") (by walk_at "o") fun st2 kp1 hm1=>?_)
  have h3:=h5.mirror hm1 h3;have kp:=kp.trans kp1;have hz1:=kp.size
 case' neg=>rw[if_neg hq]
 all_goals
  refine zF (a1z (lo:=lo) (zD _) (by walk_at "o") fun st3 kp2 hm=>?_)
  have kp:=kp.trans kp2;refine a7a hC hO (kp.kd.trans hk) (kp.all hS) (by rw[kp.size];exact hz) (by walk_at "o") h2 (h3.turned hm) fun m2 g1 g2 g3 _=>?_
  exact zI (h m2 st3 (by walk_at "o") g2 kp g3)
theorem a2a (lo nrem:Nat):countRun' lo nrem=(ascM lo 1 nrem >>=fun __s=>match __s.fst with
  | some r=>pure r
  | none=>
   if(__s.snd==nrem)=true then pure (some __s.snd)
   else if __s.snd>1 then do
    let __x <-ltAt' lo (lo+__s.snd-1)
    match __x with
    | some rose=>if rose=true then pure (some __s.snd) else do
      reverseSlice' lo (lo+__s.snd)
      tailM lo __s.snd nrem
    | _=>pure none
   else tailM lo __s.snd nrem):=by
 rw[countRun'_eq];unfold tailM descM ascM;dsimp only;congr 1
 funext __s
 obtain⟨r,n⟩:=__s;cases r with
 | some r=>rfl
 | none=>
  dsimp only
  split
  ·rfl
  ·split
   ·congr 1
    funext x
    cases x with
    | none=>rfl
    | some rose=>
     dsimp only
     split
     ·rfl
     ·congr 1
      funext _r
      congr 1;funext _u;congr 1;funext s2;obtain⟨r2,n2,q2⟩:=s2;cases r2 with
      | some r2=>rfl
      | none=>
       dsimp only
       split
       ·congr 1;funext _v;congr 1;funext _w;congr 1;funext s3;obtain⟨r3,n3⟩:=s3;cases r3<;>rfl
       ·congr 1;funext _w;congr 1;funext s3;obtain⟨r3,n3⟩:=s3;cases r3<;>rfl
   ·congr 1;funext _u;congr 1;funext s2;obtain⟨r2,n2,q2⟩:=s2;cases r2 with
    | some r2=>rfl
    | none=>
     dsimp only
     split
     ·congr 1;funext _v;congr 1;funext _w;congr 1;funext s3;obtain⟨r3,n3⟩:=s3;cases r3<;>rfl
     ·congr 1;funext _w;congr 1;funext s3;obtain⟨r3,n3⟩:=s3;cases r3<;>rfl
theorem a6u (hC:Cmp prog w A E s κ blt S)(hO:Tot blt S){st:SortSt}{lo nrem:Nat}{Q:Option Nat->SortSt->Prop}(hk:kindOf st=κ)(hS:∀x∈(arrOf st).toList,S x)(hz:lo+nrem<=(arrOf st).size)(h1:1<=nrem)
  (h:∀m st',1<=m->m<=nrem->Kp lo st st'->Srt blt (arrOf st') lo (lo+m)->Q (some m) st'):wpS (model prog w) A E s (countRun' lo nrem) Q st:=by
 rw[a2a];refine a7a hC hO hk hS hz (zD 1) h1 (Ninc.same hO hS).2 fun n n1 n2 n3 n4=>?_;dsimp only
 by_cases hn:n=nrem
 ·rw[if_pos (by simpa using hn)]
  exact zI (h n st n1 n2 .rfl n3)
 rw[if_neg (by simpa using hn)]
 obtain⟨x,hx⟩:=k7 (a:=arrOf st) (i:=lo+n) (by walk_at "o")
 obtain⟨y,hy⟩:=k7 (a:=arrOf st) (i:=lo+n-1) (by walk_at "o")
 have sx:=hS x (g8 hx);have sy:=hS y (g8 hy);have e:=(n4.resolve_left hn) x y hx hy
 by_cases hn1:n>1
 ·rw[if_pos hn1];obtain⟨z,hz2⟩:=k7 (a:=arrOf st) (i:=lo) (by walk_at "o")
  refine zF (U1 hC hk hS hz2 hy ?_);dsimp only;cases e2:blt z y with
  | true=>rw[if_pos rfl];exact zI (h n st n1 n2 .rfl n3)
  | false=>
   rw[if_neg (by simp)]
   have sz:=hS z (g8 hz2);have all:Same2 blt (arrOf st) lo (lo+n):=fun i j u v a1 a2 a3 a4 hu hv=>
    hO.tr _ _ _ (hS _ (g8 hu)) sy (hS _ (g8 hv)) (n3 i (lo+n-1) u y a1 (by walk_at "o") (by walk_at "o") hu hy) (hO.tr _ _ _ sy sz (hS _ (g8 hv)) e2 (n3 lo j z v (zD _) a3 a4 hz2 hv))
   refine zF (a1z (lo:=lo) (zD _) (by walk_at "o") fun st2 kp hm=>?_)
   have hS2:=kp.all hS;obtain⟨y2,hy2⟩:=k7 (a:=arrOf st2) (i:=lo+n-1) (by rw[kp.size];walk_at "o")
   have nin:Ninc blt (arrOf st) lo (lo+n):=fun i j u v a1 a2 a3 hu hv=>all j i v u (by walk_at "o") a3 a1 (by walk_at "o") hv hu
   have hx2:(arrOf st2)[lo+n]? =some x:=by rw[hm,if_neg (by walk_at "o")];exact hx
   have g:=Ninc.grow (n:=n) hO hS2 (all.mirror hm nin) hx2 hy2 (by walk_at "o") (by
    rw[hm,if_pos (by walk_at "o")] at hy2
    exact hO.tr _ _ _ sx sy (hS _ (g8 hy2)) (hO.as x y sx sy e) (all _ _ _ _ (by walk_at "o") (by walk_at "o") (by walk_at "o") (by walk_at "o") hy hy2))
   exact a36 hC hO (kp.kd.trans hk) hS2 (by rw[kp.size];exact hz) (by walk_at "o") g fun m st3 m1 m2 kp2 so=>h m st3 m1 m2 (kp.trans kp2) so
 ·rw[if_neg hn1]
  have:n=1:=by walk_at "o"
  subst this;exact a36 hC hO hk hS hz (by walk_at "o") (Ninc.grow hO hS (Ninc.same hO hS).1 hx hy (by walk_at "o") (hO.as x y sx sy e)) h
theorem b06 (hC:Cmp prog w A E s κ blt S)(hO:Tot blt S){st:SortSt}{lo n ok:Nat}{Q:Bool->SortSt->Prop}(hk:kindOf st=κ)(hS:∀x∈(arrOf st).toList,S x)(hz:lo+n<=(arrOf st).size)(hok:ok<=n)(h1:1<=ok)(hs:Srt blt (arrOf st) lo (lo+ok))
  (h:∀st',Kp lo st st'->Srt blt (arrOf st') lo (lo+n)->Q true st'):wpS (model prog w) A E s (binarySort' lo n ok) Q st:=by
 rw[binarySort'_eq]
 refine zF (xA (jC (I:=fun k c st'=>c=(none,())/\Kp lo st st'/\Srt blt (arrOf st') lo (lo+min k n))
  (Q:=fun c st'=>c=(none,())/\Kp lo st st'/\Srt blt (arrOf st') lo (lo+n)) ?step ?fin ⟨rfl,.rfl,by rw[show min (max ok 1) n=ok by walk_at "o"];exact hs⟩) ?post)
 case post=>
  rintro c st' ⟨rfl,kp,hs'⟩;exact zI (h st' kp hs')
 case fin=>
  rintro c st' ⟨hc,kp,hs'⟩;refine⟨hc,kp,?_⟩
  rwa [show min (max (max ok 1) n) n=n by walk_at "o"] at hs'
 case step=>
  rintro k c st' hak hkn ⟨rfl,kp,hs'⟩;rw[show min k n=k by walk_at "o"] at hs'
  have hS':=kp.all hS;have hsz:=kp.size;have hk':=kp.kd.trans hk;obtain⟨x,hx⟩:=k7 (a:=arrOf st') (i:=lo+k) (by walk_at "o")
  have sx:=hS' x (g8 hx)
  refine zF (xA (jC (I:=fun q c st''=>st''=st'/\∃l r,c=(none,l,r)/\l<=r/\r<=k/\r-l<=k-q/\
    (∀i u,lo<=i->i<lo+l->(arrOf st')[i]? =some u->Le blt u x)/\(∀i u,lo+r<=i->i<lo+k->(arrOf st')[i]? =some u->Le blt x u))
   (Q:=fun c st''=>st''=st'/\∃l r,c=(none,l,r)/\l<=k/\
    (∀i u,lo<=i->i<lo+l->(arrOf st')[i]? =some u->Le blt u x)/\(∀i u,lo+l<=i->i<lo+k->(arrOf st')[i]? =some u->Le blt x u)) ?istep ?ifin ?iinit) ?ipost)
  case iinit=>exact⟨rfl,0,k,rfl,by walk_at "o",by walk_at "o",by walk_at "o",fun i u h1 h2=>by walk_at "o",fun i u h1 h2=>by walk_at "o"⟩
  case ifin=>
   rintro c st'' ⟨rfl,l,r,rfl,hlr,hrk,hm,hlo,hhi⟩
   have:l=r:=by walk_at "o"
   subst this;exact⟨rfl,l,l,rfl,hrk,hlo,hhi⟩
  case istep=>
   rintro q c st'' _ hxk ⟨rfl,l,r,rfl,hlr,hrk,hm,hlo,hhi⟩;dsimp only
   by_cases hge:l≥r
   ·rw[if_pos hge]
    have:l=r:=by walk_at "o"
    subst this;exact zI ⟨rfl,l,l,rfl,hrk,hlo,hhi⟩
   ·rw[if_neg hge];obtain⟨y,hy⟩:=k7 (a:=arrOf st'') (i:=lo+(l+r)/2) (by walk_at "o")
    have sy:=hS' y (g8 hy);refine zF (U1 hC hk' hS' hx hy ?_);dsimp only;cases e:blt x y with
    | true=>
     rw[if_pos rfl];refine zI ⟨rfl,l,(l+r)/2,rfl,by walk_at "o",by walk_at "o",by walk_at "o",hlo,fun i u h1 h2 hu=>?_⟩
     exact hO.tr _ _ _ sx sy (hS' _ (g8 hu)) (hO.as x y sx sy e) (hs' _ _ _ _ (by walk_at "o") h1 h2 hy hu)
    | false=>
     rw[if_neg (by simp)]
     refine zI ⟨rfl,(l+r)/2+1,r,rfl,by walk_at "o",by walk_at "o",by walk_at "o",fun i u h1 h2 hu=>?_,hhi⟩
     exact hO.tr _ _ _ (hS' _ (g8 hu)) sy sx (hs' i (lo+(l+r)/2) u y h1 (by walk_at "o") (by walk_at "o") hu hy) e
  case ipost=>
   rintro c st'' ⟨rfl,l,r,rfl,hlk,hlo,hhi⟩;show wpS _ _ _ _ (do moveDown' (lo+k) (lo+l);pure (ForInStep.yield (none,()))) _ _
   rw[moveDown'_eq];have hb:∀q,(bubble (arrOf st'') (lo+k) (lo+k-(lo+l)))[q]? =if q=lo+k-(lo+k-(lo+l)) then(arrOf st'')[lo+k]? else if lo+k-(lo+k-(lo+l))<q/\q<=lo+k then(arrOf st'')[q-1]? else(arrOf st'')[q]?:=getElem?_bubble (by walk_at "o") _ (by walk_at "o")
   rw[show lo+k-(lo+k-(lo+l))=lo+l by walk_at "o"] at hb
   refine zF (wpS_modify (zI ⟨rfl,kp.trans ⟨rfl,rfl,rfl,bubble_perm _ _ _,fun i hi=>?_⟩,?_⟩))
   ·show(bubble (arrOf st'') (lo+k) (lo+k-(lo+l)))[i]? =_;rw[hb,if_neg (by walk_at "o"),if_neg (by walk_at "o")]
   ·rw[show min (k+1) n=k+1 by walk_at "o"]
    intro i j u v h1 h2 h3 hu hv
    replace hu:(bubble (arrOf st'') (lo+k) (lo+k-(lo+l)))[i]? =some u:=hu
    replace hv:(bubble (arrOf st'') (lo+k) (lo+k-(lo+l)))[j]? =some v:=hv
    rw[hb] at hu hv;rw[hx] at hu hv
    by_cases i1:i=lo+l
    ·rw[if_pos i1] at hu;cases hu
     by_cases j1:j=lo+l
     ·rw[if_pos j1] at hv;cases hv;exact hO.rf sx
     ·rw[if_neg j1,if_pos (by walk_at "o")] at hv
      exact hhi _ _ (by walk_at "o") (by walk_at "o") hv
    ·rw[if_neg i1] at hu
     by_cases j1:j=lo+l
     ·rw[if_pos j1] at hv;cases hv;rw[if_neg (by walk_at "o")] at hu
      exact hlo _ _ h1 (by walk_at "o") hu
     ·rw[if_neg j1] at hv
      by_cases i2:lo+l<i/\i<=lo+k
      ·rw[if_pos i2] at hu;rw[if_pos (by walk_at "o")] at hv
       exact hs' _ _ _ _ (by walk_at "o") (by walk_at "o") (by walk_at "o") hu hv
      ·rw[if_neg i2] at hu
       by_cases j2:lo+l<j/\j<=lo+k
       ·rw[if_pos j2] at hv;exact hs' _ _ _ _ (by walk_at "o") (by walk_at "o") (by walk_at "o") hu hv
       ·rw[if_neg j2] at hv;exact hs' _ _ _ _ h1 h2 (by walk_at "o") hu hv
end
theorem a2W (i:Nat):mergeAt' i=(do
 let s <-get
 let (some (sa,na,power),some (sb,nb,_)):=((pendingOf s)[i]?,(pendingOf s)[i+1]?)|unsupported "internal:list.sort.pending"
 set (setPending s (((pendingOf s).setIfInBounds i (sa,na+nb,power)).eraseIdxIfInBounds (i+1)))
 let some k <-gallop' false (<-elem' (arrOf s) sb) (arrOf s) sa na 0|return false
 let (sa,na):=(sa+k,na-k)
 if na==0 then return true
 let some nb <-gallop' true (<-elem' (arrOf s) (sa+na-1)) (arrOf s) sb nb (nb-1)|return false
 if nb==0 then return true
 let x:=(arrOf s).extract sa sb
 let y:=(arrOf s).extract sb (sb+nb)
 let merged <-if na<=nb then mergeLo' x y else mergeHi' x y
 modify fun s=>setArr s (merged.toList.zipIdx.foldl (fun a (p,j)=>a.setIfInBounds (sa+j) p) (arrOf s))
 return (failedOf (<-get)).isNone):=rfl
theorem a8E {M:Model}{A:Around}{E:Value->Shared->Prop}{s:Shared}{st st':SortSt}{Q:PUnit->SortSt->Prop}(h:Q ⟨⟩ st'):wpS M A E s (set st':StateT SortSt Sem PUnit) Q st:=by
 unfold wpS;rw[StateT.run_set];exact zC ⟨rfl,h⟩
abbrev seg (l:List Keyed) (a b:Nat):List Keyed:=(l.take b).drop a
theorem a4z {l:List Keyed}{a b c:Nat}(h1:a<=b)(h2:b<=c)(h3:a<=l.length):seg l a c=seg l a b++seg l b c:=by
 unfold seg;have e:l.take b=(l.take c).take b:=by rw[List.take_take,Nat.min_eq_left h2]
 rw[e,<-xQ (by rw[qK,qK];walk_at "o"),jQ]
theorem D5 {arr:Array Keyed}{a b:Nat}{z:Keyed}(h:z∈seg arr.toList a b):∃i,a<=i/\i<b/\arr[i]? =some z:=by
 obtain⟨i,hi⟩:=xT.mp h;rw[xL,xM] at hi;split at hi
 ·rename_i hlt;rw[zR] at hi;exact⟨a+i,by walk_at "o",hlt,hi⟩
 ·cases hi
theorem a4e (arr:Array Keyed)(a b:Nat):(arr.extract a b).toList=seg arr.toList a b:=by
 rw[Array.toList_extract,List.extract_eq_take_drop];unfold seg;rw[take_drop]
 by_cases h:a<=b
 ·rw[Nat.add_sub_cancel' h]
 ·rw[jO (by rw[qK];walk_at "o"),jO (by rw[qK];walk_at "o")]
theorem a2y (sa:Nat):∀(l:List Keyed) (j:Nat) (arr:Array Keyed),sa+j+l.length<=arr.size->((l.zipIdx j).foldl (fun a (q:Keyed×Nat)=>a.setIfInBounds (sa+q.2) q.1) arr).toList=arr.toList.take (sa+j)++l++arr.toList.drop (sa+j+l.length)
 | [],j,arr,h=>by simp
 | x::l,j,arr,h=>by
  rw[qB] at h;rw[zipIdx_cons,List.foldl_cons,a2y sa l (j+1) _ (by rw[Array.size_setIfInBounds];walk_at "o")]
  dsimp only;have hj:sa+j<arr.toList.length:=by rw[zK];walk_at "o"
  rw[Array.toList_setIfInBounds,List.set_eq_take_append_cons_drop,if_pos hj];have e1:(arr.toList.take (sa+j)++x::arr.toList.drop (sa+j+1)).take (sa+(j+1))=arr.toList.take (sa+j)++[x]:=by
   rw[List.take_append,jX (by rw[qK];walk_at "o"),qK,Nat.min_eq_left (by walk_at "o"),show sa+(j+1)-(sa+j)=1 by walk_at "o"];rfl
  have e2:(arr.toList.take (sa+j)++x::arr.toList.drop (sa+j+1)).drop (sa+(j+1)+l.length)=arr.toList.drop (sa+j+(l.length+1)):=by
   rw[List.drop_append,jO (by rw[qK];walk_at "o"),nil_append,qK,Nat.min_eq_left (by walk_at "o"),show sa+(j+1)+l.length-(sa+j)=l.length+1 by walk_at "o",List.drop_succ_cons,drop_drop]
   congr 1;walk_at "o"
  rw[e1,e2,qB,qU,qU,qU];rfl
section
variable {prog:Program}{w:World}{A:Around}{E:Value->Shared->Prop}{s:Shared}{κ:SortKind}{blt:Keyed->Keyed->Bool}{S:Keyed->Prop}
theorem Srt.list {arr:Array Keyed}{lo hi:Nat}(h:Srt blt arr lo hi):(seg arr.toList lo hi).Pairwise (Le blt):=by
 rw[yH];intro i j hi' hj hij;have ei:=xS hi';have ej:=xS hj;have lj:=hj;rw[length_drop,qK] at lj;rw[xL,xM,if_pos (by walk_at "o"),zR] at ei ej
 exact h _ _ _ _ (by walk_at "o") (by walk_at "o") (by walk_at "o") ei ej
theorem Srt.of (hO:Tot blt S){arr:Array Keyed}{lo hi:Nat}(hS:∀x∈arr.toList,S x)(h:(seg arr.toList lo hi).Pairwise (Le blt)):Srt blt arr lo hi:=fun i j x y h1 h2 h3 hx hy=>by
 by_cases e:i=j
 ·subst e;rw[hx] at hy;cases hy;exact hO.rf (hS x (g8 hx))
 ·have at_:∀{k z},lo<=k->k<hi->arr[k]? =some z->(seg arr.toList lo hi)[k-lo]? =some z:=fun{k z} k1 k2 hk=>by
   rw[xL,xM,if_pos (by walk_at "o"),zR,show lo+(k-lo)=k by walk_at "o"];exact hk
  obtain⟨a1,a2⟩:=zO.mp (at_ h1 (by walk_at "o") hx)
  obtain⟨b1,b2⟩:=zO.mp (at_ (by walk_at "o") h3 hy)
  have:=(yH.mp h) (i-lo) (j-lo) a1 b1 (by walk_at "o")
  rwa [a2,b2] at this
structure Mg (blt:Keyed->Keyed->Bool) (sa n:Nat) (st st':SortSt) (ps:Array (Nat×Nat×Nat)):Prop where
 kd:kindOf st'=kindOf st
 pd:pendingOf st'=ps
 fl:failedOf st'=failedOf st
 pe:(arrOf st').Perm (arrOf st)
 ot:∀i,i<sa\/sa+n<=i->(arrOf st')[i]? =(arrOf st)[i]?
 so:Srt blt (arrOf st') sa (sa+n)
theorem a3E (hC:Cmp prog w A E s κ blt S)(hO:Tot blt S){st:SortSt}{i sa na pa sb nb pb:Nat}{Q:Bool->SortSt->Prop}(hk:kindOf st=κ)(hF:failedOf st=none)(hS:∀x∈(arrOf st).toList,S x)(hi:(pendingOf st)[i]? =some (sa,na,pa))(hj:(pendingOf st)[i+1]? =some (sb,nb,pb))
  (hb:sb=sa+na) (n1:1<=na) (n2:1<=nb) (hz:sb+nb<=(arrOf st).size) (sA:Srt blt (arrOf st) sa sb) (sB:Srt blt (arrOf st) sb (sb+nb))
  (h:∀st',Mg blt sa (na+nb) st st' (((pendingOf st).setIfInBounds i (sa,na+nb,pa)).eraseIdxIfInBounds (i+1))->Q true st'):wpS (model prog w) A E s (mergeAt' i) Q st:=by
 rw[a2W];refine zF (wpS_get ?_);rw[hi,hj];dsimp only;refine zF (a8E ?_);generalize hps:((pendingOf st).setIfInBounds i (sa,na+nb,pa)).eraseIdxIfInBounds (i+1)=ps at h ⊢;obtain⟨b0,hb0⟩:=k7 (a:=arrOf st) (i:=sb) (by walk_at "o")
 have sb0:=hS b0 (g8 hb0);refine zF (l7 hb0 (zF (W7 hC hO hk sb0 (by walk_at "o") (by walk_at "o") (fun i x _ hx=>hS x (g8 hx)) (fun i j x y hij hj hx hy=>sA _ _ _ _ (by walk_at "o") (by walk_at "o") (by walk_at "o") hx hy) fun k k0 k1 k2=>?_)))
 dsimp only;have lk:∀i z,sa<=i->i<sa+k->(arrOf st)[i]? =some z->Le blt z b0:=fun i z h1 h2 hz=>by
  have:=k1 (i-sa) z (by walk_at "o") (by rw[show sa+(i-sa)=i by walk_at "o"];exact hz)
  unfold bey at this;unfold Le;simpa using this
 by_cases c1:na-k=0
 ·rw[if_pos (by simpa using c1)]
  refine zI (h _ ⟨rfl,rfl,rfl,.refl _,fun _ _=>rfl,fun i j x y h1 h2 h3 hx hy=>?_⟩)
  by_cases j1:j<sb
  ·exact sA i j x y h1 h2 j1 hx hy
  ·by_cases i1:i<sb
   ·exact hO.tr _ _ _ (hS _ (g8 hx)) sb0 (hS _ (g8 hy)) (lk i x h1 (by walk_at "o") hx) (sB sb j b0 y (zD _) (by walk_at "o") (by walk_at "o") hb0 hy)
   ·exact sB i j x y (by walk_at "o") h2 (by walk_at "o") hx hy
 rw[if_neg (by simpa using c1)]
 obtain⟨al,hal⟩:=k7 (a:=arrOf st) (i:=sa+k+(na-k)-1) (by walk_at "o")
 have sal:=hS al (g8 hal);have hal':(arrOf st)[sb-1]? =some al:=by rw[show sb-1=sa+k+(na-k)-1 by walk_at "o"];exact hal
 refine zF (l7 hal (zF (W7 hC hO hk sal (by walk_at "o") (by walk_at "o") (fun i x _ hx=>hS x (g8 hx)) (fun i j x y hij hj hx hy=>sB _ _ _ _ (by walk_at "o") (by walk_at "o") (by walk_at "o") hx hy) fun l l0 l1 l2=>?_)))
 dsimp only;have ll:∀i z,sb+l<=i->i<sb+nb->(arrOf st)[i]? =some z->Le blt al z:=fun i z h1 h2 hz=>by
  have:=l2 (i-sb) z (by walk_at "o") (by walk_at "o") (by rw[show sb+(i-sb)=i by walk_at "o"];exact hz)
  unfold bey at this;unfold Le;simpa using this
 by_cases c2:l=0
 ·rw[if_pos (by simpa using c2)]
  refine zI (h _ ⟨rfl,rfl,rfl,.refl _,fun _ _=>rfl,fun i j x y h1 h2 h3 hx hy=>?_⟩)
  by_cases j1:j<sb
  ·exact sA i j x y h1 h2 j1 hx hy
  ·by_cases i1:i<sb
   ·exact hO.tr _ _ _ (hS _ (g8 hx)) sal (hS _ (g8 hy)) (sA i (sb-1) x al h1 (by walk_at "o") (by walk_at "o") hx hal') (ll j y (by walk_at "o") (by walk_at "o") hy)
   ·exact sB i j x y (by walk_at "o") h2 (by walk_at "o") hx hy
 rw[if_neg (by simpa using c2)]
 have L:=(zK (xs:=arrOf st));have lm:∀i z,sb<=i->i<sb+l->(arrOf st)[i]? =some z->Le blt z al:=fun i z h1 h2 hz=>by
  have:=l1 (i-sb) z (by walk_at "o") (by rw[show sb+(i-sb)=i by walk_at "o"];exact hz)
  unfold bey at this;exact hO.as _ _ (hS _ (g8 hz)) sal (by simpa using this)
 have lg:∀i z,sa+k<=i->i<sb->(arrOf st)[i]? =some z->Le blt b0 z:=fun i z h1 h2 hz=>by
  have:=k2 (i-sa) z (by walk_at "o") (by walk_at "o") (by rw[show sa+(i-sa)=i by walk_at "o"];exact hz)
  unfold bey at this;exact hO.as _ _ sb0 (hS _ (g8 hz)) (by simpa using this)
 have eX:=a4e (arrOf st) (sa+k) sb;have eY:=a4e (arrOf st) sb (sb+l);have zX:((arrOf st).extract (sa+k) sb).size=sb-(sa+k):=by rw[Array.size_extract];walk_at "o"
 have zY:((arrOf st).extract sb (sb+l)).size=l:=by rw[Array.size_extract];walk_at "o"
 have getX:∀i,i<sb-(sa+k)->((arrOf st).extract (sa+k) sb)[i]? =(arrOf st)[sa+k+i]?:=fun i hi=>by rw[Array.getElem?_extract,if_pos (by walk_at "o")]
 have getY:∀i,i<l->((arrOf st).extract sb (sb+l))[i]? =(arrOf st)[sb+i]?:=fun i hi=>by rw[Array.getElem?_extract,if_pos (by walk_at "o")]
 have pX:((arrOf st).extract (sa+k) sb).toList.Pairwise (Le blt):=by rw[eX];exact Srt.list fun i j x y h1 h2 h3=>sA i j x y (by walk_at "o") h2 h3
 have pY:((arrOf st).extract sb (sb+l)).toList.Pairwise (Le blt):=by rw[eY];exact Srt.list fun i j x y h1 h2 h3=>sB i j x y h1 h2 (by walk_at "o")
 have main:∀(r:Array Keyed) (st2:SortSt),Gd blt ((arrOf st).extract (sa+k) sb).toList ((arrOf st).extract sb (sb+l)).toList r.toList->SmG (setPending st ps) st2->
   wpS (model prog w) A E s (do
    modify fun s=>setArr s (r.toList.zipIdx.foldl (fun a (p,j)=>a.setIfInBounds (sa+k+j) p) (arrOf s))
    return (failedOf (<-get)).isNone) Q st2:=by
  intro r st2 gd sm;refine zF (wpS_modify (zF (wpS_get (zI ?_))));have ef:(failedOf (setArr st2 (r.toList.zipIdx.foldl (fun a (p,j)=>a.setIfInBounds (sa+k+j) p) (arrOf st2)))).isNone=true:=by
   show(failedOf st2).isNone=true;rw[sm.2.2.2];show(failedOf st).isNone=true;rw[hF];rfl
  rw[ef];have ea:arrOf st2=arrOf st:=sm.2.1;have lr:r.toList.length=sb-(sa+k)+l:=by
   rw[gd.1.length_eq,zH,zK,zK,zX,zY]
  have el:(r.toList.zipIdx.foldl (fun a (q:Keyed×Nat)=>a.setIfInBounds (sa+k+q.2) q.1) (arrOf st)).toList=(arrOf st).toList.take (sa+k)++r.toList++(arrOf st).toList.drop (sb+l):=by
   rw[a2y (sa+k) r.toList 0 (arrOf st) (by walk_at "o"),lr]
   congr 2;walk_at "o"
  generalize hq:r.toList.zipIdx.foldl (fun a (q:Keyed×Nat)=>a.setIfInBounds (sa+k+q.2) q.1) (arrOf st)=N at el;have eN:arrOf (setArr st2 (r.toList.zipIdx.foldl (fun a (p,j)=>a.setIfInBounds (sa+k+j) p) (arrOf st2)))=N:=by
   rw[ea];exact hq
  have pe:N.Perm (arrOf st):=by
   rw[jI,el];have e2:(arrOf st).toList=(arrOf st).toList.take (sa+k)++(seg (arrOf st).toList (sa+k) sb++seg (arrOf st).toList sb (sb+l))++(arrOf st).toList.drop (sb+l):=by
    rw[<-a4z (by walk_at "o") (by walk_at "o") (by walk_at "o")]
    have:(arrOf st).toList.take (sa+k)++seg (arrOf st).toList (sa+k) (sb+l)=(arrOf st).toList.take (sb+l):=by
     have:=a4z (l:=(arrOf st).toList) (a:=0) (b:=sa+k) (c:=sb+l) (qL _) (by walk_at "o") (qL _)
     unfold seg at this ⊢;rw[yS,yS] at this;exact this.symm
    rw[this,jQ]
   conv=>rhs;rw[e2]
   exact List.Perm.append_right _ (vB _ (by rw[<-eX,<-eY];exact gd.1))
  refine h _ ⟨sm.1,sm.2.2.1,sm.2.2.2,by rw[eN];exact pe,fun i hi=>?_,?_⟩
  ·rw[eN,<-zR,<-zR,el];have lt:((arrOf st).toList.take (sa+k)).length=sa+k:=by rw[qK];walk_at "o"
   rcases hi with hi|hi
   ·rw[qU,qG (by walk_at "o"),xM,if_pos (by walk_at "o")]
   ·rw[qI (by rw[zH];walk_at "o"),zH,lt,lr,xL]
    congr 1;walk_at "o"
  ·rw[eN];have hSN:∀x∈N.toList,S x:=fun x hx=>hS x ((jI.mp pe).mem_iff.mp hx);refine Srt.of hO hSN ?_;have e3:seg N.toList sa (sa+(na+nb))=seg (arrOf st).toList sa (sa+k)++r.toList++seg (arrOf st).toList (sb+l) (sb+nb):=by
    unfold seg;rw[el];have lt:((arrOf st).toList.take (sa+k)).length=sa+k:=by rw[qK];walk_at "o"
    rw[List.take_append,jX (by rw[zH];walk_at "o"),zH,lt,lr,qU,xQ (by walk_at "o"),<-qU]
    congr 1;rw[take_drop];congr 2;walk_at "o"
   rw[e3];have mr:∀z∈r.toList,(∃i,sa+k<=i/\i<sb/\(arrOf st)[i]? =some z)\/∃i,sb<=i/\i<sb+l/\(arrOf st)[i]? =some z:=fun z hz=>by
    rcases qE.mp (gd.1.mem_iff.mp hz) with z1|z1
    ·rw[eX] at z1;exact .inl (D5 z1)
    ·rw[eY] at z1;exact .inr (D5 z1)
   have sOf:∀{i z},(arrOf st)[i]? =some z->S z:=fun hz=>hS _ (g8 hz);refine yR.mpr ⟨yR.mpr ⟨Srt.list fun i j x y h1 h2 h3=>sA i j x y h1 h2 (by walk_at "o"),gd.2,fun u hu v hv=>?_⟩,Srt.list fun i j x y h1 h2 h3=>sB i j x y (by walk_at "o") h2 h3,fun u hu v hv=>?_⟩
   ·obtain⟨i,i1,i2,i3⟩:=D5 hu;rcases mr v hv with ⟨j,j1,j2,j3⟩|⟨j,j1,j2,j3⟩
    ·exact sA i j u v i1 (by walk_at "o") j2 i3 j3
    ·exact hO.tr _ _ _ (sOf i3) sb0 (sOf j3) (lk i u i1 i2 i3) (sB sb j b0 v (zD _) j1 (by walk_at "o") hb0 j3)
   ·obtain⟨j,j1,j2,j3⟩:=D5 hv;rcases qE.mp hu with hu|hu
    ·obtain⟨i,i1,i2,i3⟩:=D5 hu;exact hO.tr _ _ _ (sOf i3) sb0 (sOf j3) (lk i u i1 i2 i3) (sB sb j b0 v (zD _) (by walk_at "o") j2 hb0 j3)
    ·rcases mr u hu with ⟨i,i1,i2,i3⟩|⟨i,i1,i2,i3⟩
     ·exact hO.tr _ _ _ (sOf i3) sal (sOf j3) (sA i (sb-1) u al (by walk_at "o") (by walk_at "o") (by walk_at "o") i3 hal') (ll j v j1 j2 j3)
     ·exact sB i j u v i1 (by walk_at "o") j2 i3 j3
 have hSX:∀x∈((arrOf st).extract (sa+k) sb).toList,S x:=fun x hx=>by rw[eX] at hx;obtain⟨i,_,_,hi⟩:=D5 hx;exact hS _ (g8 hi)
 have hSY:∀x∈((arrOf st).extract sb (sb+l)).toList,S x:=fun x hx=>by rw[eY] at hx;obtain⟨i,_,_,hi⟩:=D5 hx;exact hS _ (g8 hi)
 have fst_:∀x,((arrOf st).extract sb (sb+l))[0]? =some x->∀y∈((arrOf st).extract (sa+k) sb).toList,Le blt x y:=fun x hx y hy=>by
  rw[getY 0 (by walk_at "o"),Nat.add_zero,hb0] at hx;cases hx
  rw[eX] at hy;obtain⟨i,i1,i2,i3⟩:=D5 hy;exact lg i y i1 i2 i3
 have lst_:∀y,((arrOf st).extract (sa+k) sb)[((arrOf st).extract (sa+k) sb).size-1]? =some y->∀x∈((arrOf st).extract sb (sb+l)).toList,Le blt x y:=fun y hy x hx=>by
  rw[zX,getX _ (by walk_at "o"),show sa+k+(sb-(sa+k)-1)=sb-1 by walk_at "o",hal'] at hy;cases hy
  rw[eY] at hx;obtain⟨i,i1,i2,i3⟩:=D5 hx;exact lm i x i1 i2 i3
 by_cases c3:na-k<=l
 ·rw[if_pos c3];exact zF (a3B hC hO (st:=setPending st ps) hk hSX hSY pX pY (by walk_at "o") (by walk_at "o") fst_ lst_ main)
 ·rw[if_neg c3];exact zF (a3s hC hO (st:=setPending st ps) hk hSX hSY pX pY (by walk_at "o") (by walk_at "o") fst_ lst_ main)
end
def Rn (blt:Keyed->Keyed->Bool) (arr:Array Keyed):Nat->List (Nat×Nat×Nat)->Nat->Prop
 | at_,[],lo=>at_=lo
 | at_,(s,n,_)::ps,lo=>s=at_/\1<=n/\Srt blt arr at_ (at_+n)/\Rn blt arr (at_+n) ps lo
section
variable {blt:Keyed->Keyed->Bool}{arr arr':Array Keyed}{at_ m lo n:Nat}{ps qs:List (Nat×Nat×Nat)}
theorem Rn.le:∀{ps:List (Nat×Nat×Nat)} {at_:Nat},Rn blt arr at_ ps lo->at_+ps.length<=lo
 | [],at_,h=>by rw[show at_=lo from h];simp
 | (s,n,p)::ps,at_,h=>by have:=h.2.2.2.le;have:=h.2.1;rw[qB];walk_at "o"
theorem Rn.congr:∀{ps:List (Nat×Nat×Nat)} {at_:Nat},Rn blt arr at_ ps lo->(∀k,at_<=k->k<lo->arr'[k]? =arr[k]?)->Rn blt arr' at_ ps lo
 | [],at_,h,_=>h
 | (s,n,p)::ps,at_,h,e=>by
  have l:=h.2.2.2.le;exact⟨h.1,h.2.1,fun i j x y h1 h2 h3 hx hy=>h.2.2.1 i j x y h1 h2 h3 (by rw[<-e i h1 (by walk_at "o")];exact hx) (by rw[<-e j (by walk_at "o") (by walk_at "o")];exact hy),h.2.2.2.congr fun k h1 h2=>e k (by walk_at "o") h2⟩
theorem Rn.app:∀{ps:List (Nat×Nat×Nat)} {at_:Nat},Rn blt arr at_ ps m->Rn blt arr m qs lo->Rn blt arr at_ (ps++qs) lo
 | [],at_,h,k=>by rw[show at_=m from h];exact k
 | (s,n,p)::ps,at_,h,k=>⟨h.1,h.2.1,h.2.2.1,h.2.2.2.app k⟩
theorem Rn.mod {f:Nat×Nat×Nat->Nat×Nat×Nat}(hf:∀x,(f x).1=x.1/\(f x).2.1=x.2.1):∀{ps:List (Nat×Nat×Nat)} {at_:Nat} (i:Nat),Rn blt arr at_ ps lo->Rn blt arr at_ (ps.modify i f) lo
 | [],at_,i,h=>by cases i<;>exact h
 | (s,n,p)::ps,at_,0,h=>by
  have:=hf (s,n,p)
  rw[List.modify_zero_cons];generalize f (s,n,p)=q at this;obtain⟨s',n',p'⟩:=q;obtain⟨rfl,rfl⟩:=this;exact h
 | (s,n,p)::ps,at_,i+1,h=>by
  rw[List.modify_succ_cons];exact⟨h.1,h.2.1,h.2.2.1,h.2.2.2.mod hf i⟩
theorem Rn.cut:∀{ps:List (Nat×Nat×Nat)} {at_:Nat},Rn blt arr at_ (ps++qs) lo->∃m,Rn blt arr at_ ps m/\Rn blt arr m qs lo
 | [],at_,h=>⟨at_,rfl,h⟩
 | (s,n,p)::ps,at_,h=>by
  obtain⟨m,h1,h2⟩:=Rn.cut (ps:=ps) h.2.2.2;exact⟨m,⟨h.1,h.2.1,h.2.2.1,h1⟩,h2⟩
end
section
variable {prog:Program}{w:World}{A:Around}{E:Value->Shared->Prop}{s:Shared}{κ:SortKind}{blt:Keyed->Keyed->Bool}{S:Keyed->Prop}
theorem a0X (hC:Cmp prog w A E s κ blt S)(hO:Tot blt S){st:SortSt}{i lo:Nat}{Q:Bool->SortSt->Prop}(hk:kindOf st=κ)(hF:failedOf st=none)(hS:∀x∈(arrOf st).toList,S x)(hi:i+1<(pendingOf st).size)(hR:Rn blt (arrOf st) 0 (pendingOf st).toList lo)(hz:lo<=(arrOf st).size)
  (h:∀st',kindOf st'=κ->failedOf st'=none->(arrOf st').Perm (arrOf st)->(∀k,lo<=k->(arrOf st')[k]? =(arrOf st)[k]?)->(pendingOf st').size+1=(pendingOf st).size->Rn blt (arrOf st') 0 (pendingOf st').toList lo->Q true st'):wpS (model prog w) A E s (mergeAt' i) Q st:=by
 generalize hp:(pendingOf st).toList=ps at hR;have lp:ps.length=(pendingOf st).size:=by rw[<-hp,zK]
 have e:ps=ps.take i++(ps[i]'(by walk_at "o")::ps[i+1]'(by walk_at "o")::ps.drop (i+2)):=by
  rw[List.getElem_cons_drop,List.getElem_cons_drop,jQ]
 generalize ps[i]'(by walk_at "o")=u at e
 generalize ps[i+1]'(by walk_at "o")=v at e
 obtain⟨sa,na,pa⟩:=u;obtain⟨sb,nb,pb⟩:=v;have li:(ps.take i).length=i:=by rw[qK];walk_at "o"
 generalize ps.take i=P at e li;generalize ps.drop (i+2)=R at e;subst e;obtain⟨m,r1,r2⟩:=hR.cut;obtain⟨rfl,n1,so1,rfl,n2,so2,r3⟩:=r2;have l3:=r3.le;have l1:=r1.le;have g1:(pendingOf st)[i]? =some (sa,na,pa):=by rw[<-zR,hp,qI (by walk_at "o"),li,jR];rfl
 have g2:(pendingOf st)[i+1]? =some (sa+na,nb,pb):=by rw[<-zR,hp,qI (by walk_at "o"),li,show i+1-i=1 by walk_at "o"];rfl
 refine a3E hC hO hk hF hS g1 g2 rfl n1 n2 (by walk_at "o") so1 so2 fun st' g=>?_
 have ep:(pendingOf st').toList=P++(sa,na+nb,pa)::R:=by
  rw[g.pd,Array.toList_eraseIdxIfInBounds,Array.toList_setIfInBounds,hp,List.set_append_right _ _ (by walk_at "o"),li,jR,List.set_cons_zero,List.eraseIdx_append_of_length_le (by walk_at "o"),li,show i+1-i=1 by walk_at "o"]
  rfl
 refine h st' (g.kd.trans hk) (g.fl.trans hF) g.pe (fun k hk=>g.ot k (.inr (by walk_at "o"))) ?_ ?_
 ·rw[<-zK,<-zK (xs:=pendingOf st),ep,hp];simp only[zH,qB];walk_at "o"
 ·rw[ep];refine(r1.congr fun k _ h2=>g.ot k (.inl h2)).app ⟨rfl,by walk_at "o",g.so,?_⟩
  rw[show sa+(na+nb)=sa+na+nb by walk_at "o"]
  exact r3.congr fun k h1 _=>g.ot k (.inr (by walk_at "o"))
theorem a2V (hC:Cmp prog w A E s κ blt S)(hO:Tot blt S){st:SortSt}{Q:Unit->SortSt->Prop}(hk:kindOf st=κ)(hF:failedOf st=none)(hP:pendingOf st= #[])(hS:∀x∈(arrOf st).toList,S x)(h2:1<=(arrOf st).size)
  (h:∀st',(arrOf st').Perm (arrOf st)->failedOf st'=none->Srt blt (arrOf st') 0 (arrOf st').size->Q () st'):wpS (model prog w) A E s sortRuns' Q st:=by
 rw[sortRuns'_eq];refine zF (wpS_get ?_);dsimp only;generalize hN:(arrOf st).size=N at h2 ⊢;generalize minRun' N N 0=mr;have Sof:∀{st':SortSt},(arrOf st').Perm (arrOf st)->∀x∈(arrOf st').toList,S x:=fun pe x hx=>hS x ((jI.mp pe).mem_iff.mp hx)
 refine zF (xA (jC
  (I:=fun x c st'=>∃lo,c=(none,lo)/\x<=lo/\lo<=N/\kindOf st'=κ/\failedOf st'=none/\(arrOf st').Perm (arrOf st)/\Rn blt (arrOf st') 0 (pendingOf st').toList lo)
  (Q:=fun c st'=>c=(none,N)/\kindOf st'=κ/\failedOf st'=none/\(arrOf st').Perm (arrOf st)/\Rn blt (arrOf st') 0 (pendingOf st').toList N) ?step ?fin ⟨0,rfl,zD _,qL _,hk,hF,.refl _,by rw[hP];rfl⟩) ?post)
 case fin=>
  rintro c st' ⟨lo,rfl,h1,h2,h3⟩
  have:lo=N:=by walk_at "o"
  subst this;exact⟨rfl,h3⟩
 case step=>
  rintro x c st' _ hx ⟨lo,rfl,h1,h2,h3,h4,h5,h6⟩;dsimp only
  by_cases hlo:lo≥N
  ·rw[if_pos hlo]
   have:lo=N:=by walk_at "o"
   subst this;exact zI ⟨rfl,h3,h4,h5,h6⟩
  rw[if_neg hlo];have z5:(arrOf st').size=N:=by rw[h5.size_eq,hN]
  refine zF (a6u hC hO h3 (Sof h5) (by walk_at "o") (by walk_at "o") fun n st2 n1 n2 kp so=>?_)
  have R2:Rn blt (arrOf st2) 0 (pendingOf st2).toList lo:=by rw[kp.pd];exact h6.congr fun k _ hk=>kp.lw k hk
  dsimp only
  by_cases hm:n<mr
  case' pos=>
   rw[if_pos hm];refine zF (wpS_lift (jP ⟨rfl,?_⟩));refine zF (b06 hC hO (kp.kd.trans h3) (kp.all (Sof h5)) (by rw[kp.size];walk_at "o") (by walk_at "o") n1 so fun st3 kp3 so3=>?_)
   rw[if_neg (by simp)]
   have R3:Rn blt (arrOf st3) 0 (pendingOf st3).toList lo:=by rw[kp3.pd];exact R2.congr fun k _ hk=>kp3.lw k hk
   have kp3:=kp.trans kp3;have f1:1<=min (N-lo) mr:=by walk_at "o"
   have f2:lo+min (N-lo) mr<=N:=by walk_at "o"
  case' neg=>
   rw[if_neg hm];have R3:=R2;have kp3:=kp;have so3:=so;have f1:=n1;have f2:lo+n<=N:=by walk_at "o"
  all_goals
   have k3:=kp3.kd.trans h3;have q3:=kp3.fl.trans h4;have p3:=kp3.pe.trans h5;refine zF (wpS_get ?_)
   split
   ·refine zF (xA (jC
     (I:=fun _ c st'=>c=(none,())/\kindOf st'=κ/\failedOf st'=none/\(arrOf st').Perm (arrOf st)/\Rn blt (arrOf st') 0 (pendingOf st').toList lo/\Srt blt (arrOf st') lo (lo+_))
     (Q:=fun c st'=>c=(none,())/\kindOf st'=κ/\failedOf st'=none/\(arrOf st').Perm (arrOf st)/\Rn blt (arrOf st') 0 (pendingOf st').toList lo/\Srt blt (arrOf st') lo (lo+_)) ?stp (fun c st' hh=>hh) ⟨rfl,k3,q3,p3,R3,so3⟩) ?pst)
    case stp=>
     rintro y c st4 _ hy ⟨rfl,k4,q4,p4,R4,so4⟩;refine zF (wpS_get ?_)
     split
     ·split
      ·exact zI ⟨rfl,k4,q4,p4,R4,so4⟩
      ·rename_i e _;have hs2:(pendingOf st4).size>1:=by
        by_cases z:(pendingOf st4).size>1
        ·exact z
        ·rw[if_neg z] at e;cases e
       refine zF (a0X hC hO k4 q4 (Sof p4) (by walk_at "o") R4 (by rw[p4.size_eq,hN];walk_at "o") fun st5 k5 q5 p5 o5 _ R5=>?_)
       rw[if_neg (by simp)]
       exact zI ⟨rfl,k5,q5,p5.trans p4,R5,fun i j u v a1 a2 a3 hu hv=>so4 i j u v a1 a2 a3 (by rw[<-o5 i a1];exact hu) (by rw[<-o5 j (by walk_at "o")];exact hv)⟩
     ·exact zI ⟨rfl,k4,q4,p4,R4,so4⟩
    case pst=>
     rintro c st4 ⟨rfl,k4,q4,p4,R4,so4⟩;dsimp only;refine zF (wpS_modify (zF (wpS_modify (zI ⟨_,rfl,by walk_at "o",f2,k4,q4,p4,?_⟩))))
     show Rn blt (arrOf st4) 0 (((pendingOf st4).modify _ _).push _).toList _;rw[Array.toList_push,Array.toList_modify];refine Rn.app (m:=lo) (qs:=[(lo,_,0)]) (Rn.mod ?_ _ R4) ⟨rfl,f1,so4,rfl⟩;exact fun x=>⟨rfl,rfl⟩
   ·refine zF (wpS_modify (zI ⟨_,rfl,by walk_at "o",f2,k3,q3,p3,?_⟩))
    show Rn blt (arrOf _) 0 ((pendingOf _).push _).toList _;rw[Array.toList_push];exact R3.app (qs:=[(lo,_,0)]) ⟨rfl,f1,so3,rfl⟩
 case post=>
  rintro c st' ⟨rfl,h3,h4,h5,h6⟩;dsimp only
  refine zF (xA (jC
   (I:=fun x c st'=>c=(none,())/\kindOf st'=κ/\failedOf st'=none/\(arrOf st').Perm (arrOf st)/\Rn blt (arrOf st') 0 (pendingOf st').toList N/\(pendingOf st').size+x<=N)
   (Q:=fun c st'=>c=(none,())/\failedOf st'=none/\(arrOf st').Perm (arrOf st)/\Srt blt (arrOf st') 0 N) ?stp2 ?fin2 ⟨rfl,h3,h4,h5,h6,by have:=h6.le;rw[zK] at this;walk_at "o"⟩) ?pst2)
  case fin2=>
   rintro c st' ⟨rfl,k4,q4,p4,R4,l4⟩
   exfalso
   have:(pendingOf st').toList=[]:=List.eq_nil_of_length_eq_zero (by rw[zK];walk_at "o")
   rw[this] at R4
   have:0=N:=R4
   walk_at "o"
  case stp2=>
   rintro y c st4 _ hy ⟨rfl,k4,q4,p4,R4,l4⟩;refine zF (wpS_get ?_)
   by_cases hs:(pendingOf st4).size<=1
   ·rw[if_pos hs];refine zI ⟨rfl,q4,p4,?_⟩;rw[<-zK] at hs;generalize (pendingOf st4).toList=ps at hs R4
    match ps,hs,R4 with
    | [],_,R4=>have:0=N:=R4;walk_at "o"
    | [(s,n,p)],_,R4=>
     obtain⟨_,_,a3,a4⟩:=R4;have a4:0+n=N:=a4
     rwa [a4] at a3
   rw[if_neg hs];refine zF (a0X hC hO k4 q4 (Sof p4) ?_ R4 (by rw[p4.size_eq,hN];walk_at "o") fun st5 k5 q5 p5 o5 z5 R5=>?_)
   ·generalize Option.any _ _=t;cases t<;>simp<;>walk_at "o"
   ·rw[if_neg (by simp)]
    exact zI ⟨rfl,k5,q5,p5.trans p4,R5,by walk_at "o"⟩
  case pst2=>
   rintro c st4 ⟨rfl,q4,p4,so4⟩;exact zI (h st4 p4 q4 (by rw[p4.size_eq,hN];exact so4))
end
end Z
theorem ex5 {α β:Type}{A B C:α->β->Prop}{G:Prop}(h:∃x y,A x y/\B x y/\C x y)(k:∀x y,A x y->B x y->C x y->G):G:=by
 obtain⟨x,y,a,b,c⟩:=h;exact k x y a b c
namespace L2
open PySem PySem.Spec PyProof.Rows
abbrev Key:=Sum Int Str
def keyIs:Key->Value->Bool
 | .inl k,v=>Value.isInt k v
 | .inr x,v=>Value.isStrOf x v
def keyH (w:World):Key->Int
 | .inl k=>hashInt k
 | .inr x=>hashStr w x
theorem r6:∀{k:Key} {v:Value},keyIs k v=true->(∃i t,k=Sum.inl i/\v=Value.int i t)\/(∃x t,k=Sum.inr x/\v=Value.str x t)
 | .inl i,v,h=>by
  obtain⟨t,e⟩:=Value.isInt_shape (k:=i) (v:=v) h;exact .inl ⟨i,t,rfl,e⟩
 | .inr x,v,h=>by
  obtain⟨t,e⟩:=Value.isStrOf_shape (x:=x) (v:=v) h;exact .inr ⟨x,t,rfl,e⟩
theorem a5T (i:Int)(t:Tok):keyIs (.inl i) (.int i t)=true:=by simp[keyIs,Value.isInt]
theorem a5C (x:Str)(t:Tok):keyIs (.inr x) (.str x t)=true:=by simp[keyIs,Value.isStrOf]
theorem b1a (a b:Int):decide ((Sum.inl a:Key)=Sum.inl b)=(a==b):=by
 by_cases e:a=b
 ·subst e;simp
 ·have h:¬(Sum.inl a:Key)=Sum.inl b:=fun q=>e (Sum.inl.inj q);rw[qM h];exact(beq_eq_false_iff_ne.mpr e).symm
theorem b0A (a b:Str):decide ((Sum.inr a:Key)=Sum.inr b)=decide (a=b):=by
 by_cases e:a=b
 ·subst e;simp
 ·have h:¬(Sum.inr a:Key)=Sum.inr b:=fun q=>e (Sum.inr.inj q);rw[qM h,qM e]
theorem b0P (a:Int)(b:Str):decide ((Sum.inl a:Key)=Sum.inr b)=false:=qM (fun q=>nomatch q)
theorem b1y (a:Str)(b:Int):decide ((Sum.inr a:Key)=Sum.inl b)=false:=qM (fun q=>nomatch q)
def mixKind (prog:Program) (w:World):PySem.KeyKind prog w Key where
 is:=keyIs
 hash:=keyH w
 inj:=fun v a b ha hb=>by
  rcases r6 ha with ⟨i,t,rfl,rfl⟩|⟨x,t,rfl,rfl⟩
  ·rcases r6 hb with ⟨j,u,rfl,e⟩|⟨y,u,rfl,e⟩
   ·injection e with e1 _;rw[e1]
   ·exact nomatch e
  ·rcases r6 hb with ⟨j,u,rfl,e⟩|⟨y,u,rfl,e⟩
   ·exact nomatch e
   ·injection e with e1 _;rw[e1]
 byValue:=fun k v h=>by
  rcases r6 h with ⟨i,t,rfl,rfl⟩|⟨x,t,rfl,rfl⟩<;>rfl
 pyHash:=fun hv h=>by
  rcases r6 hv with ⟨i,t,rfl,rfl⟩|⟨x,t,rfl,rfl⟩
  ·exact wpAny_pyHash_int h
  ·exact wpAny_pyHash_str h
 eqBool:=fun hu hv h=>by
  rcases r6 hu with ⟨i,t,rfl,rfl⟩|⟨x,t,rfl,rfl⟩
  ·rcases r6 hv with ⟨j,u,rfl,rfl⟩|⟨y,u,rfl,rfl⟩
   ·rw[b1a] at h;exact wpAny_eqBool_int h
   ·rw[b0P] at h;exact SeqAt.EqAt.int_str i t y u _ _ _ _ h
  ·rcases r6 hv with ⟨j,u,rfl,rfl⟩|⟨y,u,rfl,rfl⟩
   ·rw[b1y] at h;exact SeqAt.EqAt.str_int x t j u _ _ _ _ h
   ·rw[b0A] at h;exact wpAny_eqBool_str h
 «strs»:=fun k x t v h=>by
  rcases r6 h with ⟨i,u,rfl,e⟩|⟨y,u,rfl,e⟩
  ·exact nomatch e
  ·injection e with e1 _
   subst e1;cases v<;>rfl
theorem a23 (prog:Program)(w:World)(i:Int)(t:Tok):(mixKind prog w).is (.inl i) (.int i t)=true:=a5T i t
theorem a2p (prog:Program)(w:World)(x:Str)(t:Tok):(mixKind prog w).is (.inr x) (.str x t)=true:=a5C x t
inductive V where
 | non|bl (b:Bool)|int (i:Int)|str (x:Str)|byt (b:Array UInt8)|flt (b:UInt64)|ref (a:Addr)|ty (n:String)
def RelV:V->Value->Prop
 | .non,u=>u=Value.none
 | .bl b,u=>u=Value.bool b
 | .int i,u=>∃t,u=Value.int i t
 | .str x,u=>∃t,u=Value.str x t
 | .byt b,u=>∃t,u=Value.bytes b t
 | .flt b,u=>∃t,u=Value.float b t
 | .ref a,u=>u=Value.ref a
 | .ty n,u=>u=Value.type n
abbrev Vals:List V->List Value->Prop:=Paired RelV
theorem Vals.length {xs:List V}{us:List Value}(r:Vals xs us):xs.length=us.length:=xN r
theorem Vals.get:∀{xs:List V} {us:List Value} {i:Nat} {x:V},Vals xs us->xs[i]? =some x->∃u,us[i]? =some u/\RelV x u
 | _,_,_,_,.nil,e=>by simp at e
 | _,_,0,_,.cons r _,e=>by simp at e;subst e;exact⟨_,rfl,r⟩
 | _,_,i+1,x,.cons _ t,e=>by
  obtain⟨u,h1,h2⟩:=Vals.get (i:=i) (x:=x) t (by simpa using e)
  exact⟨u,by simpa using h1,h2⟩
theorem Vals.set {x:V}{u:Value}(r:RelV x u):∀{xs:List V} {us:List Value} (i:Nat),Vals xs us->Vals (xs.set i x) (us.set i u)
 | _,_,_,.nil=>.nil
 | _,_,0,.cons _ t=>.cons r t
 | _,_,i+1,.cons q t=>.cons q (Vals.set r i t)
theorem Vals.append:∀{xs ys:List V} {us ws:List Value},Vals xs us->Vals ys ws->Vals (xs++ys) (us++ws)
 | _,_,_,_,.nil,s=>s
 | _,_,_,_,.cons r t,s=>.cons r (Vals.append t s)
theorem Vals.take:∀{xs:List V} {us:List Value} (n:Nat),Vals xs us->Vals (xs.take n) (us.take n)
 | _,_,0,_=>.nil
 | _,_,_+1,.nil=>.nil
 | _,_,n+1,.cons r t=>.cons r (Vals.take n t)
theorem Vals.drop:∀{xs:List V} {us:List Value} (n:Nat),Vals xs us->Vals (xs.drop n) (us.drop n)
 | _,_,0,r=>r
 | _,_,_+1,.nil=>.nil
 | _,_,n+1,.cons _ t=>Vals.drop n t
def RelO:Option V->Option Value->Prop
 | some v,some u=>RelV v u
 | none,none=>True
 | _,_=>False
def KV {κ:Type}:List (κ×V)->List (κ×Value)->Prop:=Paired fun(p:κ×V) (q:κ×Value)=>p.1=q.1/\RelV p.2 q.2
def kV:Key->V
 | .inl i=>.int i
 | .inr x=>.str x
inductive HO where
 | lst (xs:List V)
 | tup (xs:List V)
 | dK (kvs:List (Key×V))|dT (kvs:List (List Key×V))
 | set (S:Int->Bool) (n:Nat)
 | ins (C dx:Addr) (fs:List (Str×V))
 | own (x:Addr)
 | xd (fs:List (Str×V))
 | met (f x:Addr)
 | rng (lo hi:Int)
 | frz (o:Obj) (u:HO)
 | tbl (ps:Array Value)
 | ext (φ:Heap->Prop)
abbrev Hp:=Addr->Option HO
def upd (H:Hp) (a:Addr) (o:HO):Hp:=fun b=>if b=a then some o else H b
theorem m6 {H:Hp}{a:Addr}{o:HO}:upd H a o a=some o:=by unfold upd;rw[if_pos rfl]
theorem g9 {H:Hp}{a b:Addr}{o:HO}(h:b≠a):upd H a o b=H b:=by unfold upd;rw[if_neg h]
theorem a9F {H:Hp}{a b:Addr}{o u:HO}(h:H a=some o)(h':H b=some u)(d:o≠u):a≠b:=by
 intro e;subst e;rw[h] at h';exact d (jB h')
theorem m9 {H:Hp}{a b:Addr}{o:HO}(h:H a=some o)(h':H b=none):a≠b:=by
 intro e;subst e;rw[h] at h';cases h'
def TupN (h:Heap) (a:Addr) (its:Array Value):Prop:=∃o,h.get? a=some o/\o.cls= .type "tuple"/\(∃n,o.data= .seq its n)/\o.dict=none
theorem TupN.is {h:Heap}{a:Addr}{its:Array Value}(x:TupN h a its):IsTup h a its:=let ⟨o,e,c,d,_⟩:=x;⟨o,e,c,d⟩
theorem TupN.new (h:Heap)(its:Array Value):TupN (h.push {cls:=.type "tuple",data:=.seq its}) h.objs.size its:=⟨_,qA _ rfl,rfl,⟨_,rfl⟩,rfl⟩
section
variable (P:Program)(w:World)
def ObjOk (H:Hp) (h:Heap) (a:Addr):HO->Prop
 | .lst xs=>xs.length<=sizeLine/\∃(its:List Value) (n:Nat),Vals xs its/\h.get? a=some {cls:=.type "list",data:=.seq its.toArray n}
 | .tup xs=>xs.length<=sizeLine/\∃its:List Value,Vals xs its/\TupN h a its.toArray
 | .dK kvs=>kvs.length<=sizeLine/\(a==sysModules)=false/\∃vs,KV kvs vs/\h.DictAt (mixKind P w) a vs kvs.length
 | .dT kvs=>kvs.length<=sizeLine/\(a==sysModules)=false/\∃xs:List (List Key×Addr×Value),
   Paired (fun(p:List Key×V) (q:List Key×Addr×Value)=>p.1=q.1/\H q.2.1=some (.tup (p.1.map kV))/\RelV p.2 q.2.2) kvs xs/\
   ∃o es,h.get? a=some o/\o.ExactDict/\o.data= .dict es kvs.length/\es.toList=xs.map (entryOfKey (tupleKind (mixKind P w)))/\(xs.map (·.1)).Nodup
 | .set S n=>h.SetOf (intKind P w) a S n
 | .ins C dx fs=>H dx=some (.own a)/\fs.length<=1000/\dx≠a/\h.get? a=some (PySem.W.instObj C dx)/\
   ∃mA,h.Ns1 dx mA/\(∀f,RelO (fs.lookup f) (mA f))/\PySem.Within mA (fs.map (·.1))
 | .own _=>∃o,h.get? a=some o
 | .xd fs=>∃mA,h.Ns1 a mA/\∀f,RelO (fs.lookup f) (mA f)
 | .rng lo hi=>∃t u v,h.get? a=some {cls:=.type "range",data:=.fields #[.int lo t,.int hi u,.int 1 v]}
 | .frz o u=>h.get? a=some o/\ObjOk H h a u
 | .tbl ps=>h.get? a=some {cls:=.none,data:=.fields ps}
 | .met f x=>h.get? a=some (PySem.W.methodObj (.ref f) (.ref x))
 | .ext φ=>φ h/\(∃o,h.get? a=some o)/\∀h1 h2:Heap,φ h1->(∀o,h1.get? a=some o->h2.get? a=some o)->φ h2
def HOk (H:Hp) (h:Heap):Prop:=∀a o,H a=some o->ObjOk P w H h a o
end
section
variable {P:Program}{w:World}{H H':Hp}{h h':Heap}{a:Addr}{o:HO}
theorem ObjOk.lt (x:ObjOk P w H h a o):a<h.objs.size:=by
 cases o with
 | lst xs=>obtain⟨_,_,_,_,e⟩:=x;exact zW e
 | tup xs=>obtain⟨_,_,_,p⟩:=x;exact p.is.lt
 | dK kvs=>obtain⟨_,_,_,_,o,_,e,_⟩:=x;exact zW e
 | dT kvs=>obtain⟨_,_,_,_,o,_,e,_⟩:=x;exact zW e
 | set S n=>obtain⟨o,_,_,_,e,_⟩:=x;exact zW e
 | ins C dx fs=>obtain⟨_,_,_,e,_⟩:=x;exact zW e
 | own y=>obtain⟨_,e⟩:=x;exact zW e
 | xd fs=>obtain⟨_,⟨_,_,_,e,_⟩,_⟩:=x;exact zW e
 | rng lo hi=>obtain⟨_,_,_,e⟩:=x;exact zW e
 | frz ob u=>obtain⟨e,_⟩:=x;exact zW e
 | tbl ps=>exact zW (show h.get? a=some _ from x)
 | met f y=>exact zW (show h.get? a=some _ from x)
 | ext φ=>obtain⟨_,⟨_,e⟩,_⟩:=x;exact zW e
theorem Paired.mapP {α β:Type}{F G:α->β->Prop}:∀{l₁:List α} {l₂:List β},Paired F l₁ l₂->(∀a b,F a b->G a b)->Paired G l₁ l₂
 | _,_,.nil,_=>.nil
 | _,_,.cons r t,f=>.cons (f _ _ r) (Paired.mapP t f)
theorem ObjOk.stay (x:ObjOk P w H h a o)(k:∀b u,(b=a\/H b=some (.own a))->h.get? b=some u->h'.get? b=some u)
  (ho:∀b,H b=some (.own a)->H' b=some (.own a)) (ht:∀b xs,H b=some (.tup xs)->H' b=some (.tup xs)):ObjOk P w H' h' a o:=by
 induction o with
 | lst xs=>obtain⟨z,its,n,r,e⟩:=x;exact⟨z,its,n,r,k _ _ (.inl rfl) e⟩
 | tup xs=>obtain⟨z,its,r,ob,e,c⟩:=x;exact⟨z,its,r,ob,k _ _ (.inl rfl) e,c⟩
 | dK kvs=>obtain⟨z,y,vs,r,ob,es,e,c⟩:=x;exact⟨z,y,vs,r,ob,es,k _ _ (.inl rfl) e,c⟩
 | dT kvs=>
  obtain⟨z,y,xs,r,ob,es,e,c⟩:=x;exact⟨z,y,xs,Paired.mapP r fun p q z=>⟨z.1,ht _ _ z.2.1,z.2.2⟩,ob,es,k _ _ (.inl rfl) e,c⟩
 | set S n=>obtain⟨ob,es,ep,t,e,c⟩:=x;exact⟨ob,es,ep,t,k _ _ (.inl rfl) e,c⟩
 | ins C dx fs=>
  obtain⟨d,z,ne,e,mA,⟨od,es,ep,e2,c⟩,r⟩:=x;exact⟨ho _ d,z,ne,k _ _ (.inl rfl) e,mA,⟨od,es,ep,k _ _ (.inr d) e2,c⟩,r⟩
 | own y=>obtain⟨ob,e⟩:=x;exact⟨ob,k _ _ (.inl rfl) e⟩
 | xd fs=>obtain⟨mA,⟨od,es,ep,e,c⟩,r⟩:=x;exact⟨mA,⟨od,es,ep,k _ _ (.inl rfl) e,c⟩,r⟩
 | rng lo hi=>obtain⟨t,u,v,e⟩:=x;exact⟨t,u,v,k _ _ (.inl rfl) e⟩
 | frz ob u ih=>obtain⟨e,q⟩:=x;exact⟨k _ _ (.inl rfl) e,ih q⟩
 | tbl ps=>
  have e:h.get? a=some {cls:=.none,data:=.fields ps}:=x;show h'.get? a=some {cls:=.none,data:=.fields ps};exact k a _ (.inl rfl) e
 | met f y=>
  have e:h.get? a=some (PySem.W.methodObj (.ref f) (.ref y)):=x;show h'.get? a=some (PySem.W.methodObj (.ref f) (.ref y));exact k a _ (.inl rfl) e
 | ext φ=>obtain⟨p,⟨o,e⟩,st⟩:=x;exact⟨st _ _ p fun o q=>k _ _ (.inl rfl) q,⟨o,k _ _ (.inl rfl) e⟩,st⟩
theorem HOk.lt (x:HOk P w H h)(e:H a=some o):a<h.objs.size:=(x a o e).lt
theorem HOk.fresh (x:HOk P w H h)(e:h.objs.size<=a):H a=none:=by
 cases q:H a with
 | none=>rfl
 | some u=>exact absurd (zJ (x.lt q) e) (jU _)
theorem HOk.kept (x:HOk P w H h)(k:∀b u,h.get? b=some u->h'.get? b=some u):HOk P w H h':=fun a o e=>
 (x a o e).stay (fun b u _ q=>k b u q) (fun _ q=>q) fun _ _ q=>q
theorem HOk.laid (x:HOk P w H h)(k:∀b u,h.get? b=some u->h'.get? b=some u)(hp:h.objs.size<=a)(new:ObjOk P w (upd H a o) h' a o):HOk P w (upd H a o) h':=fun b u e=>by
 have hn:=x.fresh hp
 by_cases hb:b=a
 ·subst hb;rw[m6] at e;cases e;exact new
 ·rw[g9 hb] at e;exact(x b u e).stay (fun c v _ q=>k c v q) (fun c q=>by rw[g9 (m9 q hn)];exact q) fun c xs q=>by rw[g9 (m9 q hn)];exact q
end
def Rd (H:Hp) (a:Addr) (u:HO):Prop:=H a=some u\/∃o,H a=some (.frz o u)
theorem Rd.of {H:Hp}{a:Addr}{u:HO}(h:H a=some u):Rd H a u:=.inl h
theorem Rd.ok {P:Program}{w:World}{H:Hp}{h:Heap}{a:Addr}{u:HO}(r:Rd H a u)(x:HOk P w H h):ObjOk P w H h a u:=by
 rcases r with r|⟨o,r⟩
 ·exact x a u r
 ·obtain⟨_,q⟩:=x a _ r;exact q
def Mut:Option HO->Prop
 | some (.lst _)=>True
 | some (.dK _)=>True
 | some (.dT _)=>True
 | some (.set _ _)=>True
 | some (.ins _ _ _)=>True
 | some (.ext _)=>True
 | _=>False
section
variable {P:Program}{w:World}{H:Hp}{h h':Heap}{x e:Addr}{o':HO}
theorem HOk.write (ok:HOk P w H h)(mu:Mut (H x))(he:e=x\/H e=some (.own x))(k:∀b u,b≠e->h.get? b=some u->h'.get? b=some u)(heo:∃u,h'.get? e=some u)
  (new:ObjOk P w (upd H x o') h' x o'):HOk P w (upd H x o') h':=fun b u q=>by
 have nown:∀c y,H c=some (.own y)->c≠x:=fun c y r z=>by subst z;rw[r] at mu;exact mu
 have ntup:∀c xs,H c=some (.tup xs)->c≠x:=fun c xs r z=>by subst z;rw[r] at mu;exact mu
 by_cases hb:b=x
 ·subst hb;rw[m6] at q;cases q;exact new
 ·rw[g9 hb] at q
  by_cases hbe:b=e
  ·have q':H b=some (.own x):=by
    rcases he with z|z
    ·exact absurd (hbe.trans z) hb
    ·rw[hbe];exact z
   rw[q] at q';cases q';obtain⟨v,hv⟩:=heo;exact⟨v,by rw[hbe];exact hv⟩
  ·refine(ok b u q).stay (fun c v hc r=>k c v ?_ r) (fun c r=>by rw[g9 (nown c b r)];exact r) fun c xs r=>by rw[g9 (ntup c xs r)];exact r
   rcases hc with rfl|hc
   ·exact hbe
   ·rintro rfl;rcases he with z|z
    ·exact nown c b hc z
    ·rw[hc] at z;cases z;exact hb rfl
end
structure Un (fs ex:List Addr) (H H':Hp) (h h':Heap):Prop where
 keep:∀b o,h.get? b=some o->H b=none->b∉fs->b∉ex->h'.get? b=some o
 slot:∀b o,h.get? b=some o->H b=none->b∈fs->b∉ex->∃sl,h'.get? b=some {o with slots:=sl}
 free:∀b o,h.get? b=some o->H b=none->b∉ex->H' b=none
 there:∀b o,h.get? b=some o->b∉ex->∃o',h'.get? b=some o'
 tups:∀b xs,H b=some (.tup xs)->H' b=some (.tup xs)
 frzs:∀b o u,H b=some (.frz o u)->H' b=some (.frz o u)
 tbls:∀b ps,H b=some (.tbl ps)->∃more,H' b=some (.tbl (ps++more))
section
variable {fs ex:List Addr}{H H1:Hp}{h h1 h':Heap}{a x e:Addr}{o:HO}
theorem Un.any (u:Un fs ex H H1 h h1){b:Addr}{ob:Obj}(q:h.get? b=some ob)(n:H b=none)(hx:b∉ex):∃sl,h1.get? b=some {ob with slots:=sl}:=by
 by_cases hb:b∈fs
 ·exact u.slot b ob q n hb hx
 ·exact⟨ob.slots,u.keep b ob q n hb hx⟩
theorem Un.kept (k:∀b u,h.get? b=some u->h'.get? b=some u):Un fs ex H H h h':=
 ⟨fun b ob q _ _ _=>k b ob q,fun b ob q _ _ _=>⟨ob.slots,k b ob q⟩,fun _ _ _ n _=>n,fun b ob q _=>⟨ob,k b ob q⟩,fun _ _ q=>q,fun _ _ _ q=>q,fun _ ps q=>⟨#[],by rw[q];simp⟩⟩
theorem Un.refl:Un fs ex H H h h:=Un.kept fun _ _ q=>q
theorem Un.laid (k:∀b u,h.get? b=some u->h'.get? b=some u)(hp:h.objs.size<=a)(hn:H a=none):Un fs ex H (upd H a o) h h' where
 keep:=fun b u q _ _ _=>k b u q
 slot:=fun b u q _ _ _=>⟨u.slots,k b u q⟩
 free:=fun b u q n _=>by rw[g9 (zV (zJ (zW q) hp))];exact n
 there:=fun b u q _=>⟨u,k b u q⟩
 tups:=fun b xs q=>by rw[g9 (m9 q hn)];exact q
 frzs:=fun b u xs q=>by rw[g9 (m9 q hn)];exact q
 tbls:=fun b ps q=>⟨#[],by rw[g9 (m9 q hn),q];simp⟩
theorem Un.write (mu:Mut (H x))(he:e=x\/H e=some (.own x))(k:∀b u,b≠e->h.get? b=some u->h'.get? b=some u)(heo:∃u,h'.get? e=some u):Un fs ex H (upd H x o) h h':=by
 have hx:∀b,H b=none->b≠x:=fun b n z=>by subst z;rw[n] at mu;exact mu
 have hb:∀b,H b=none->b≠e:=fun b n z=>by
  subst z;rcases he with r|r
  ·exact hx b n r
  ·rw[n] at r;cases r
 have hm:∀b u,H b=some u->¬Mut (some u)->b≠x:=fun b u q nm z=>by subst z;rw[q] at mu;exact nm mu
 refine⟨fun b u q n _ _=>k b u (hb b n) q,fun b u q n _ _=>⟨u.slots,k b u (hb b n) q⟩,fun b u q n _=>by rw[g9 (hx b n)];exact n,fun b u q _=>?_,
  fun b xs q=>by rw[g9 (hm b _ q fun z=>z)];exact q,fun b u xs q=>by rw[g9 (hm b _ q fun z=>z)];exact q,fun b ps q=>⟨#[],by rw[g9 (hm b _ q fun z=>z),q];simp⟩⟩
 by_cases hbe:b=e
 ·subst hbe;exact heo
 ·exact⟨u,k b u hbe q⟩
end
def trk (h:Heap) (H:Hp):List Addr:=(List.range h.objs.size).filter fun a=>(H a).isSome
def hidT (h:Heap) (H:Hp):Heap:=PySem.W.hideAll h (trk h H)
theorem a5R (h:Heap)(H:Hp):(hidT h H).objs.size=h.objs.size:=PySem.W.hideAll_size _ _
theorem a7I {h:Heap}{H:Hp}{b:Addr}{o:Obj}(e:h.get? b=some o)(n:H b=none):(hidT h H).get? b=some o:=
 PySem.W.hideAll_get _ e fun hm=>by
  have q:(H b).isSome=true:=(qJ.mp hm).2;rw[n] at q;simp at q
theorem a8m {h:Heap}{H:Hp}{b:Addr}{o:Obj}(e:(hidT h H).get? b=some o):h.get? b=some o/\H b=none:=by
 have e':h.get? b=some o:=PySem.W.of_hideAll (trk h H) e;refine⟨e',?_⟩;cases q:H b with
 | none=>rfl
 | some x=>
  have hm:b∈trk h H:=qJ.mpr ⟨xO.mpr (zW e'),by simp[q]⟩
  have z:(hidT h H).get? b=none:=PySem.W.hideAll_none (trk h H) hm;rw[z] at e;cases e
def allNews (g h:Heap) (L:Addr):List (Addr×Obj):=(List.range h.objs.size).filterMap fun a=>if a=L\/(g.get? a).isSome=true then none else(h.get? a).map fun o=>(a,o)
theorem a2u {g h:Heap}{L a:Addr}{o:Obj}(h1:a≠L)(h2:g.get? a=none)(h3:h.get? a=some o):(a,o)∈allNews g h L:=
 mem_filterMap.mpr ⟨a,xO.mpr (zW h3),by simp[h1,h2,h3]⟩
theorem Z6 {g h:Heap}{L:Addr}{p:Addr×Obj}(hp:p∈allNews g h L):p.1≠L/\g.get? p.1=none/\h.get? p.1=some p.2:=by
 obtain⟨b,_,e⟩:=mem_filterMap.mp hp;split at e
 ·cases e
 ·rename_i hn;cases q:h.get? b with
  | none=>rw[q] at e;simp at e
  | some u=>
   rw[q] at e;simp only[jS,Option.some.injEq] at e;subst e;refine⟨fun z=>hn (.inl z),?_,q⟩;show g.get? b=none;cases r:g.get? b with
   | none=>rfl
   | some v=>exact(hn (.inr (by simp[r]))).elim
def rest (g h:Heap) (L d:Addr):List (Addr×Obj):=(allNews g h L).filter fun p=>decide (p.1≠d)
theorem a49 {g h:Heap}{L d:Addr}:∀p∈rest g h L d,p.1≠d:=fun p hp=>xK (qJ.mp hp).2
theorem a6v {g h:Heap}{L d a:Addr}{o:Obj}(h1:a≠L)(h2:g.get? a=none)(h3:h.get? a=some o)(h4:a≠d):(a,o)∈rest g h L d:=
 qJ.mpr ⟨a2u h1 h2 h3,qO h4⟩
theorem a75 {g h:Heap}{L:Addr}:News g L h (allNews g h L):=fun p hp=>let ⟨a,b,c⟩:=Z6 hp;⟨c,a,b⟩
theorem a8z {g h:Heap}{L d:Addr}{o:Obj}(h1:d≠L)(h2:g.get? d=none)(h3:h.get? d=some o):News g L h ((d,o)::rest g h L d):=fun p hp=>by
 rcases zS.mp hp with rfl|hp
 ·exact⟨h3,h1,h2⟩
 ·exact a75 p (qJ.mp hp).1
theorem a1H {g h h':Heap}{L d:Addr}{m:Str->Option Value}(k:∀b o,g.get? b=some o->h.get? b=some o)(F:Fr g L h' m)(N:News g L h' (rest g h L d)):
  ∀b o,b≠L->b≠d->h.get? b=some o->h'.get? b=some o:=fun b o h1 h2 e=>by
 cases q:g.get? b with
 | some u=>
  have:=k b u q
  rw[e] at this;cases this;exact F.keep b _ q
 | none=>exact(N (b,o) (a6v h1 q e h2)).1
structure Mod (K:PySem.W.Frag) (mg:Str->Option Value) (base:Heap):Prop where
 kin:K.In base
 glob:base.Ns mainGlobals mg
 blt:∃mb,base.Ns builtinsNs mb/\∀x:Str,x≠"__name__"->mb x=bootBuiltins x
 nolimit:base.NoLimit
structure Cx where
 prog:Program
 w:World
 K:PySem.W.Frag
 mg:Str->Option Value
 base:Heap
 A:Around
 N:List Str
 s₀:Shared
 H₀:Hp
 env:Env
 outer:List Env
 stack:List Env
 ex:List Addr
 fn:Str->Bool
 calm:Bool
 pn:List (Addr×Obj)
 xe:Value->Shared->Prop
def frs (l:List Env):List Addr:=l.filterMap (·.frame)
abbrev Cx.fs (X:Cx):List Addr:=frs X.outer
def Vis (sc:Scope) (x:Str):Prop:=sc.names.lookup x=some .local\/sc.names.lookup x=some .cell\/sc.names.lookup x=some .free
def Loc (sc:Scope) (x:Str):Prop:=sc.names.lookup x=some .local\/sc.names.lookup x=some .cell
def Look (env:Env) (h:Heap) (m:Str->Option Value) (x:Str) (u:Value):Prop:=
 (env.kindOf x=some .local/\m x=some u)\/((env.kindOf x=some .cell\/env.kindOf x=some .free)/\∃c,env.cells.lookup x=some c/\h.IsCell c (some u))
structure Cx.Ok (X:Cx):Prop where
 mod:Mod X.K X.mg X.base
 kind:X.env.scope.kind= .function
 glob:X.env.globals=mainGlobals
 blt:X.env.builtins=builtinsNs
 above:X.s₀.heap.objs.size<=X.env.locals
 inj:∀x y c,X.env.cells.lookup x=some c->X.env.cells.lookup y=some c->x=y
 has:∀x,(X.env.kindOf x=some .cell\/X.env.kindOf x=some .free)->∃c,X.env.cells.lookup x=some c
 cab:∀x c,X.fn x=true->X.env.cells.lookup x=some c->X.s₀.heap.objs.size<=c
 hd:X.calm=true->X.A.handled=none
 frames:X.A.frames=some X.stack
 stk:X.stack=X.outer\/(X.stack=X.env::X.outer/\X.env.frame=some X.env.locals)
 exf:∀b∈X.ex,b≠X.env.locals/\∀x c,X.env.cells.lookup x=some c->c≠b
 bs:∀b o,X.base.get? b=some o->X.s₀.heap.get? b=some o/\X.H₀ b=none
 bsz:X.base.objs.size<=X.s₀.heap.objs.size
 noex:∀b o,X.base.get? b=some o->b∉X.ex
 exfs:∀b∈X.ex,b∉X.fs
 funs:X.s₀.heap.FunFrames X.base X.outer
 frf:∀b∈X.fs,X.H₀ b=none
structure Inv (X:Cx) (pins:List (Addr×Obj)) (σ:List (Option V)) (H:Hp) (s:Shared):Prop where
 ok:X.Ok
 os:s.os=X.s₀.os
 bare:AllBare s.gens
 base:Un X.fs X.ex X.H₀ H X.s₀.heap s.heap
 loc:∃m,s.heap.Ns X.env.locals m/\∀(i:Nat) (x:Str) (v:V),X.N[i]? =some x->σ[i]? =some (some v)->Vis X.env.scope x->∃u,RelV v u/\Look X.env s.heap m x u
 cell:∀x c,X.env.cells.lookup x=some c->∃v,s.heap.IsCell c v
 free:H X.env.locals=none
 freeC:∀x c,X.env.cells.lookup x=some c->H c=none
 pin:∀p∈X.pn++pins,s.heap.get? p.1=some p.2/\H p.1=none/\p.1≠X.env.locals/\p.1∉X.fs/\∀v,p.2.data≠.cell v
 hok:HOk X.prog X.w H s.heap
 len:σ.length=X.N.length
section
variable {X:Cx}{pins:List (Addr×Obj)}{σ:List (Option V)}{H H':Hp}{s:Shared}{h':Heap}
theorem Cx.Ok.nofr (ok:X.Ok){b:Addr}{o:Obj}(e:X.base.get? b=some o):b∉X.fs:=fun hb=>by
 have:=(ok.funs.mem hb).1
 rw[e] at this;cases this
theorem Inv.bs (I:Inv X pins σ H s):∀b o,X.base.get? b=some o->s.heap.get? b=some o/\H b=none:=fun b o e=>
 ⟨I.base.keep b o (I.ok.bs b o e).1 (I.ok.bs b o e).2 (I.ok.nofr e) (I.ok.noex b o e),I.base.free b o (I.ok.bs b o e).1 (I.ok.bs b o e).2 (I.ok.noex b o e)⟩
theorem Inv.bk (I:Inv X pins σ H s):∀b o,X.base.get? b=some o->s.heap.get? b=some o:=fun b o e=>(I.bs b o e).1
theorem Inv.mod (I:Inv X pins σ H s):Mod X.K X.mg X.base:=I.ok.mod
theorem Inv.kIn (I:Inv X pins σ H s):X.K.In s.heap:=I.ok.mod.kin.keeps I.bk
theorem Inv.fr (I:Inv X pins σ H s):∃m,Fr X.base X.env.locals s.heap m:=
 let ⟨m,hn,_⟩:=I.loc
 ⟨m,hn,I.bk,zQ I.ok.bsz I.ok.above⟩
theorem Inv.lt (I:Inv X pins σ H s):X.env.locals<s.heap.objs.size:=let ⟨_,hn,_⟩:=I.loc;hn.lt
theorem Inv.sz (I:Inv X pins σ H s):X.s₀.heap.objs.size<=s.heap.objs.size:=zQ I.ok.above (Nat.le_of_lt I.lt)
theorem Inv.nofs (I:Inv X pins σ H s){a:Addr}(h:s.heap.objs.size<=a):a∉X.fs:=fun hb=>by
 obtain⟨_,o,ho,_⟩:=I.ok.funs.mem hb;exact absurd (zJ (zW ho) (zQ I.sz h)) (jU _)
theorem Inv.cne (I:Inv X pins σ H s):∀x c,X.env.cells.lookup x=some c->c≠X.env.locals:=fun x c e z=>by
 obtain⟨v,o,ho,hd⟩:=I.cell x c e;obtain⟨m,⟨o',es,ep,ho',hd',_⟩,_⟩:=I.loc;rw[z,ho'] at ho;cases ho;rw[hd'] at hd;cases hd
theorem Inv.funs (I:Inv X pins σ H s):s.heap.FunFrames X.base X.outer:=by
 have all:∀(l:List Env),(∀b∈frs l,b∈X.fs)->X.s₀.heap.FunFrames X.base l->s.heap.FunFrames X.base l:=by
  intro l
  induction l with
  | nil=>intro _ _;trivial
  | cons env r ih=>
   intro hs hl;obtain⟨hk,⟨L,o,hf,hn,ho,hd⟩,hr⟩:=hl;have hL:L∈X.fs:=hs L (by unfold frs;rw[filterMap_cons,hf];exact zM)
   obtain⟨sl,e⟩:=I.base.slot L o ho (I.ok.frf L hL) hL fun z=>I.ok.exfs L z hL;exact⟨hk,⟨L,_,hf,hn,e,hd⟩,ih (fun b hb=>hs b (by unfold frs;rw[filterMap_cons,hf];exact zL _ hb)) hr⟩
 exact all X.outer (fun _ hb=>hb) I.ok.funs
theorem Inv.stack (I:Inv X pins σ H s):s.heap.FunFrames X.base X.stack:=by
 rcases I.ok.stk with e|⟨e,hf⟩
 ·rw[e];exact I.funs
 ·rw[e];obtain⟨m,hn,_⟩:=I.loc;refine .cons (by rw[I.ok.kind];decide) hf hn ?_ I.funs
  exact Heap.get?_none_of_le (zQ I.ok.bsz I.ok.above)
theorem Inv.stkSub (I:Inv X pins σ H s):∀b∈frs X.stack,b∈X.env.locals::X.fs:=fun b hb=>by
 rcases I.ok.stk with e|⟨e,hf⟩
 ·rw[e] at hb;exact zL _ hb
 ·rw[e] at hb;unfold frs at hb;rw[filterMap_cons,hf] at hb;exact hb
theorem Inv.stkFree (I:Inv X pins σ H s):∀b∈frs X.stack,H b=none:=fun b hb=>by
 rcases zS.mp (I.stkSub b hb) with e|hb
 ·rw[e];exact I.free
 ·obtain⟨_,o,ho,_⟩:=I.ok.funs.mem hb;exact I.base.free b o ho (I.ok.frf b hb) fun z=>I.ok.exfs b z hb
theorem Inv.step {g':Array GenState}{t':Nat}{d':Drawn}{ch:List Addr}(I:Inv X pins σ H s)
  (hch:∀b∈ch,(b∈X.ex\/X.s₀.heap.objs.size<=b)/\b≠X.env.locals/\(∀x c,X.env.cells.lookup x=some c->c≠b)/\∀p∈X.pn++pins,p.1≠b)
  (keep:∀b o,b≠X.env.locals->b∉X.fs->b∉ch->s.heap.get? b=some o->H b=none->h'.get? b=some o)
  (slot:∀b o,b≠X.env.locals->b∈X.fs->b∉ch->s.heap.get? b=some o->H b=none->∃sl,h'.get? b=some {o with slots:=sl}) (free:∀b o,b∉ch->s.heap.get? b=some o->H b=none->H' b=none)
  (there:∀b o,b∉ch->s.heap.get? b=some o->∃o',h'.get? b=some o')
  (tups:∀b xs,H b=some (.tup xs)->H' b=some (.tup xs)) (frzs:∀b o u,H b=some (.frz o u)->H' b=some (.frz o u)) (tbls:∀b ps,H b=some (.tbl ps)->∃more,H' b=some (.tbl (ps++more)))
  (ns:∀m,s.heap.Ns X.env.locals m->h'.Ns X.env.locals m) (hok:HOk X.prog X.w H' h') (hg:AllBare g'):
  Inv X pins σ H' {s with heap:=h',gens:=g',drawn:=d',toks:=t'}:=by
 have neL:∀b o,X.s₀.heap.get? b=some o->b≠X.env.locals:=fun b o e=>zV (zJ (zW e) I.ok.above);have neC:∀b o,X.s₀.heap.get? b=some o->b∉X.ex->b∉ch:=fun b o e hx hb=>by
  rcases(hch b hb).1 with z|z
  ·exact hx z
  ·exact absurd (zJ (zW e) z) (jU _)
 have cellK:∀x c,X.env.cells.lookup x=some c->∀v,s.heap.IsCell c v->h'.IsCell c v:=fun x c e v ⟨o,ho,hd⟩=>by
  have nch:c∉ch:=fun z=>(hch c z).2.2.1 x c e rfl
  by_cases hc:c∈X.fs
  ·obtain⟨sl,q⟩:=slot c o (I.cne x c e) hc nch ho (I.freeC x c e);exact⟨_,q,hd⟩
  ·exact⟨o,keep c o (I.cne x c e) hc nch ho (I.freeC x c e),hd⟩
 refine⟨I.ok,I.os,hg,⟨fun b o e n hb hx=>?_,fun b o e n hb hx=>?_,fun b o e n hx=>?_,fun b o e hx=>?_,fun b xs e=>tups b xs (I.base.tups b xs e),fun b o xs e=>frzs b o xs (I.base.frzs b o xs e),fun b ps e=>?_⟩,?_,fun x c e=>?_,?_,fun x c e=>?_,fun p hp=>?_,hok,I.len⟩
 ·exact keep b o (neL b o e) hb (neC b o e hx) (I.base.keep b o e n hb hx) (I.base.free b o e n hx)
 ·obtain⟨sl,e1⟩:=I.base.slot b o e n hb hx;obtain⟨sl',e2⟩:=slot b _ (neL b o e) hb (neC b o e hx) e1 (I.base.free b o e n hx);exact⟨sl',e2⟩
 ·obtain⟨o',e1⟩:=I.base.there b o e hx;exact free b o' (neC b o e hx) e1 (I.base.free b o e n hx)
 ·obtain⟨o',e1⟩:=I.base.there b o e hx;exact there b o' (neC b o e hx) e1
 ·obtain⟨m1,e1⟩:=I.base.tbls b ps e;obtain⟨m2,e2⟩:=tbls b _ e1;exact⟨m1++m2,by rw[e2,Array.append_assoc]⟩
 ·obtain⟨m,hn,hl⟩:=I.loc;refine⟨m,ns m hn,fun i x v e1 e2 e3=>?_⟩;obtain⟨u,r,l⟩:=hl i x v e1 e2 e3;refine⟨u,r,?_⟩;rcases l with l|⟨k,c,e,z⟩
  ·exact .inl l
  ·exact .inr ⟨k,c,e,cellK x c e _ z⟩
 ·obtain⟨v,z⟩:=I.cell x c e;exact⟨v,cellK x c e v z⟩
 ·obtain⟨m,⟨o,_,_,ho,_⟩,_⟩:=I.loc;exact free _ o (fun z=>(hch _ z).2.1 rfl) ho I.free
 ·obtain⟨v,o,ho,hd⟩:=I.cell x c e;exact free c o (fun z=>(hch c z).2.2.1 x c e rfl) ho (I.freeC x c e)
 ·obtain⟨e,n,ne,nf,d⟩:=I.pin p hp;have nch:p.1∉ch:=fun z=>(hch p.1 z).2.2.2 p hp rfl;exact⟨keep p.1 p.2 ne nf nch e n,free p.1 p.2 nch e n,ne,nf,d⟩
theorem Inv.un {t':Nat}(I:Inv X pins σ H s)(u:Un X.fs [] H H' s.heap h')(hok:HOk X.prog X.w H' h'):Inv X pins σ H' {s with heap:=h',toks:=t'}:=by
 obtain⟨m,⟨o,es,ep,ho,r⟩,_⟩:=id I.loc;obtain⟨sl,hL⟩:=u.any ho I.free (by simp)
 exact I.step (g':=s.gens) (d':=s.drawn) (ch:=[]) (fun _ z=>nomatch z) (fun b o _ hb _ e n=>u.keep b o e n hb (by simp)) (fun b o _ hb _ e n=>u.slot b o e n hb (by simp)) (fun b o _ e n=>u.free b o e n (by simp)) (fun b o _ e=>u.there b o e (by simp)) u.tups u.frzs u.tbls (fun m' hm=>by
  obtain⟨o',es',ep',ho',r'⟩:=hm;rw[ho] at ho';cases ho'
  exact⟨_,es',ep',hL,r'⟩) hok I.bare
theorem Inv.call {g':Array GenState}{t':Nat}{d':Drawn}{ch:List Addr}(I:Inv X pins σ H s)(u:Un (frs X.stack) ch H H' s.heap h')(hok:HOk X.prog X.w H' h')(hg:AllBare g')
  (hch:∀b∈ch,(b∈X.ex\/X.s₀.heap.objs.size<=b)/\b≠X.env.locals/\(∀x c,X.env.cells.lookup x=some c->c≠b)/\∀p∈X.pn++pins,p.1≠b):
  Inv X pins σ H' {s with heap:=h',gens:=g',drawn:=d',toks:=t'}:=by
 obtain⟨m,⟨o,es,ep,ho,r⟩,_⟩:=id I.loc;obtain⟨sl,hL⟩:=u.any ho I.free fun z=>(hch _ z).2.1 rfl
 exact I.step (ch:=ch) hch (fun b o hL hb hc e n=>u.keep b o e n (fun z=>(zS.mp (I.stkSub b z)).elim hL hb) hc) (fun b o _ _ hc e n=>u.any e n hc) (fun b o hc e n=>u.free b o e n hc) (fun b o hc e=>u.there b o e hc) u.tups u.frzs u.tbls (fun m' hm=>by
  obtain⟨o',es',ep',ho',r'⟩:=hm;rw[ho] at ho';cases ho'
  exact⟨_,es',ep',hL,r'⟩) hok hg
theorem Inv.turned {t':Nat}{it:Addr}(I:Inv X pins σ H s)(k:∀b o,b≠it->s.heap.get? b=some o->h'.get? b=some o)(hn:H it=none)(hL:it≠X.env.locals)
  (h1:it∈X.ex\/X.s₀.heap.objs.size<=it) (h2:∀x c,X.env.cells.lookup x=some c->c≠it) (h3:∀p∈X.pn++pins,p.1≠it):Inv X pins σ H {s with heap:=h',toks:=t'}:=by
 have nit:∀b u,H b=some u->b≠it:=fun b u e z=>by rw[z,hn] at e;cases e
 refine I.step (g':=s.gens) (d':=s.drawn) (ch:=[it]) (fun b hb=>?_) (fun b o _ _ hc e _=>k b o (fun z=>hc (by simp[z])) e) (fun b o _ _ hc e _=>⟨o.slots,k b o (fun z=>hc (by simp[z])) e⟩) (fun _ _ _ _ n=>n)
  (fun b o hc e=>⟨o,k b o (fun z=>hc (by simp[z])) e⟩) (fun _ _ e=>e) (fun _ _ _ e=>e) (fun b ps e=>⟨#[],by rw[e];simp⟩) (fun m hm=>?_) (fun b u e=>?_) I.bare
 ·have e:b=it:=by simpa using hb
  subst e;exact⟨h1,hL,h2,h3⟩
 ·obtain⟨o,es,ep,ho,r⟩:=hm;exact⟨o,es,ep,k _ o (jE hL) ho,r⟩
 ·refine(I.hok b u e).stay (fun c v hc q=>k c v ?_ q) (fun _ q=>q) fun _ _ q=>q;rcases hc with z|z
  ·rw[z];exact nit b u e
  ·exact nit c _ z
theorem Inv.tok (I:Inv X pins σ H s)(t:Nat):Inv X pins σ H {s with toks:=t}:=I.un (h':=s.heap) (t':=t) Un.refl I.hok
theorem Inv.kept {t':Nat}(I:Inv X pins σ H s)(k:∀b u,s.heap.get? b=some u->h'.get? b=some u):Inv X pins σ H {s with heap:=h',toks:=t'}:=I.un (Un.kept k) (I.hok.kept k)
theorem Inv.laid {a:Addr}{o:HO}{t':Nat}(I:Inv X pins σ H s)(k:∀b u,s.heap.get? b=some u->h'.get? b=some u)(hp:s.heap.objs.size<=a)(new:ObjOk X.prog X.w (upd H a o) h' a o):
  Inv X pins σ (upd H a o) {s with heap:=h',toks:=t'}:=I.un (Un.laid k hp (I.hok.fresh hp)) (I.hok.laid k hp new)
theorem Inv.write {x e:Addr}{o:HO}{t':Nat}(I:Inv X pins σ H s)(mu:Mut (H x))(he:e=x\/H e=some (.own x))(k:∀b u,b≠e->s.heap.get? b=some u->h'.get? b=some u)(heo:∃u,h'.get? e=some u)
  (new:ObjOk X.prog X.w (upd H x o) h' x o):Inv X pins σ (upd H x o) {s with heap:=h',toks:=t'}:=I.un (Un.write mu he k heo) (I.hok.write mu he k heo new)
theorem Inv.pins_of {pins':List (Addr×Obj)}(I:Inv X pins σ H s)(h:∀p∈pins',s.heap.get? p.1=some p.2/\H p.1=none/\p.1≠X.env.locals/\p.1∉X.fs/\∀v,p.2.data≠.cell v):Inv X pins' σ H s:=
 ⟨I.ok,I.os,I.bare,I.base,I.loc,I.cell,I.free,I.freeC,fun p hp=>(qE.mp hp).elim (fun z=>I.pin p (xG _ z)) (h p),I.hok,I.len⟩
theorem a27 {N:List Str}(hN:N.Nodup){i j:Nat}{x:Str}(a:N[i]? =some x)(b:N[j]? =some x):i=j:=by
 obtain⟨h1,e1⟩:=zO.mp a;obtain⟨h2,e2⟩:=zO.mp b;exact(List.getElem_inj hN).mp (e1.trans e2.symm)
theorem a5U {M:Model}{A:Around}{E:Value->Shared->Prop}{i:Nat}{x:Str}{v:V}{u:Value}{Q:Unit->Shared->Prop}(I:Inv X pins σ H s)(hN:X.N.Nodup)(hi:X.N[i]? =some x)(hx:Loc X.env.scope x)(r:RelV v u)
  (h:∀s',Inv X pins (σ.set i (some v)) H s'->(∃a,Heap.SameBut a s.heap s'.heap/\(a=X.env.locals\/X.env.cells.lookup x=some a))->Q () s') (hf:X.fn x=true\/X.env.scope.names.lookup x=some .local:=by first|exact .inl rfl|exact .inr rfl|assumption):wpAny M A (storeName X.env x u) Q E s:=by
 obtain⟨m,hn,hl⟩:=id I.loc;have hcls:(X.env.scope.kind == .class||(X.env.scope.kind == .module&&X.env.locals != X.env.globals))=false:=by rw[I.ok.kind];rfl
 have hiσ:i<σ.length:=by rw[I.len];exact(zO.mp hi).1
 have cne:=I.cne;have tracked:∀{a:Addr} {h':Heap},(∃o,s.heap.get? a=some o/\H a=none)->Heap.SameBut a s.heap h'->HOk X.prog X.w H h':=fun{a h'} ha hs b ob e=>by
  obtain⟨_,_,hfree⟩:=ha;refine(I.hok b ob e).stay (fun c w' hc q=>(hs.2 c ?_).trans q) (fun _ q=>q) fun _ _ q=>q;rintro rfl;rcases hc with rfl|hc
  ·rw[hfree] at e;cases e
  ·rw[hfree] at hc;cases hc
 rcases hx with hk|hk
 ·refine wpAny_storeName_local hk hn (fun h' hn' hs=>?_) hcls;obtain⟨oL,_,_,hoL,_⟩:=id hn;refine h _ ⟨I.ok,I.os,I.bare,⟨fun b o e n hb hx=>?_,fun b o e n hb hx=>?_,I.base.free,fun b o e hx=>?_,I.base.tups,I.base.frzs,I.base.tbls⟩,⟨_,hn',fun j y v' e1 e2 e3=>?_⟩,fun y c e=>?_,I.free,I.freeC,fun p hp=>?_,tracked ⟨oL,hoL,I.free⟩ hs,by simpa using I.len⟩ ⟨_,hs,.inl rfl⟩
  ·exact(hs.2 b (zV (zJ (zW e) I.ok.above))).trans (I.base.keep b o e n hb hx)
  ·obtain⟨sl,e1⟩:=I.base.slot b o e n hb hx;exact⟨sl,(hs.2 b (zV (zJ (zW e) I.ok.above))).trans e1⟩
  ·obtain⟨o',e1⟩:=I.base.there b o e hx;exact⟨o',(hs.2 b (zV (zJ (zW e) I.ok.above))).trans e1⟩
  ·by_cases hj:j=i
   ·subst hj;rw[hi] at e1;cases e1;rw[List.getElem?_set_self hiσ] at e2;cases e2;exact⟨u,r,.inl ⟨hk,by simp⟩⟩
   ·rw[zU (jE hj)] at e2;obtain⟨u',r',q⟩:=hl j y v' e1 e2 e3;refine⟨u',r',?_⟩;rcases q with ⟨k,e⟩|⟨k,c,e,z⟩
    ·refine .inl ⟨k,?_⟩
     have:y≠x:=fun e=>hj (a27 hN e1 (e▸hi))
     simp[this,e]
    ·exact .inr ⟨k,c,e,z.sameBut hs (cne y c e)⟩
  ·obtain⟨w',z⟩:=I.cell y c e;exact⟨w',z.sameBut hs (cne y c e)⟩
  ·obtain⟨e,n,ne,nf,d⟩:=I.pin p hp;exact⟨(hs.2 p.1 ne).trans e,n,ne,nf,d⟩
 ·have hfn:X.fn x=true:=by
   rcases hf with z|z
   ·exact z
   ·rw[z] at hk;cases hk
  obtain⟨c,hc⟩:=I.ok.has x (.inl hk);obtain⟨w',z⟩:=I.cell x c hc;refine wpAny_storeName_cell I.ok.kind hk hc z (fun h' hc' hs=>?_);obtain⟨oc,hoc,hocd⟩:=id z;refine h {s with heap:=h'} ⟨I.ok,I.os,I.bare,⟨fun b o e n hb hx=>?_,fun b o e n hb hx=>?_,I.base.free,fun b o e hx=>?_,I.base.tups,I.base.frzs,I.base.tbls⟩,⟨m,hn.sameBut hs (jE (cne x c hc)),fun j y v' e1 e2 e3=>?_⟩,fun y c' e=>?_,I.free,I.freeC,fun p hp=>?_,tracked ⟨oc,hoc,I.freeC x c hc⟩ hs,by simpa using I.len⟩ ⟨c,hs,.inr hc⟩
  ·exact(hs.2 b (zV (zJ (zW e) (I.ok.cab x c hfn hc)))).trans (I.base.keep b o e n hb hx)
  ·obtain⟨sl,e1⟩:=I.base.slot b o e n hb hx;exact⟨sl,(hs.2 b (zV (zJ (zW e) (I.ok.cab x c hfn hc)))).trans e1⟩
  ·obtain⟨o',e1⟩:=I.base.there b o e hx;exact⟨o',(hs.2 b (zV (zJ (zW e) (I.ok.cab x c hfn hc)))).trans e1⟩
  ·by_cases hj:j=i
   ·subst hj;rw[hi] at e1;cases e1;rw[List.getElem?_set_self hiσ] at e2;cases e2;exact⟨u,r,.inr ⟨.inl hk,c,hc,hc'⟩⟩
   ·rw[zU (jE hj)] at e2;obtain⟨u',r',q⟩:=hl j y v' e1 e2 e3;refine⟨u',r',?_⟩;rcases q with q|⟨k,c',e,z'⟩
    ·exact .inl q
    ·refine .inr ⟨k,c',e,z'.sameBut hs ?_⟩;rintro rfl;exact hj (a27 hN e1 (I.ok.inj _ _ _ e hc▸hi))
  ·by_cases hcc:c'=c
   ·subst hcc;exact⟨_,hc'⟩
   ·obtain⟨w2,z2⟩:=I.cell y c' e;exact⟨w2,z2.sameBut hs hcc⟩
  ·obtain⟨e,n,ne,nf,d⟩:=I.pin p hp;refine⟨(hs.2 p.1 ?_).trans e,n,ne,nf,d⟩;intro q;rw[q,hoc] at e;have q':oc=p.2:=jB e;exact d w' (by rw[<-q'];exact hocd)
theorem a2k {M:Model}{A:Around}{E:Value->Shared->Prop}{i:Nat}{x:Str}{v:V}{u:Value}{Q:Unit->Shared->Prop}(I:Inv X pins σ H s)(hN:X.N.Nodup)(hi:X.N[i]? =some x)(hx:Loc X.env.scope x)(r:RelV v u)
  (h:∀s',Inv X pins (σ.set i (some v)) H s'->Q () s') (hf:X.fn x=true\/X.env.scope.names.lookup x=some .local:=by first|exact .inl rfl|exact .inr rfl|assumption):wpAny M A (storeName X.env x u) Q E s:=
 a5U I hN hi hx r (fun s' I' _=>h s' I') hf
theorem Inv.call' {s':Shared}{ch:List Addr}(I:Inv X pins σ H s)(ho:s'.os=s.os)(u:Un (frs X.stack) ch H H' s.heap s'.heap)(hok:HOk X.prog X.w H' s'.heap)(hg:AllBare s'.gens)
  (hch:∀b∈ch,(b∈X.ex\/X.s₀.heap.objs.size<=b)/\b≠X.env.locals/\(∀x c,X.env.cells.lookup x=some c->c≠b)/\∀p∈X.pn++pins,p.1≠b):Inv X pins σ H' s':=by
 obtain⟨h',g',d',t',o'⟩:=s';have e:o'=s.os:=ho;subst e;exact I.call (g':=g') (t':=t') (d':=d') u hok hg hch
end
abbrev XK:=Value->Option Addr->Hp->Prop
abbrev St:=List (Option V)
abbrev VK:=V->Hp->Prop
abbrev TE:=St->Hp->VK->Prop
abbrev TT:=St->Hp->(Bool->Hp->Prop)->Prop
abbrev TA:=St->Hp->(List V->Hp->Prop)->Prop
structure Ends where
 nx:St->Hp->Prop
 rt:VK
 bk:St->Hp->Prop:=fun _ _=>False
 ct:St->Hp->Prop:=fun _ _=>False
abbrev TS:=Ends->St->Hp->Prop
def EP (X:Cx) (pins:List (Addr×Obj)) (σ:St) (Q:VK) (u:Value) (s':Shared):Prop:=∃v H',Inv X pins σ H' s'/\RelV v u/\Q v H'
def TP (X:Cx) (pins:List (Addr×Obj)) (σ:St) (Q:Bool->Hp->Prop) (b:Bool) (s':Shared):Prop:=∃H',Inv X pins σ H' s'/\Q b H'
def AP (X:Cx) (pins:List (Addr×Obj)) (σ:St) (Q:List V->Hp->Prop) (us:List Value) (s':Shared):Prop:=∃vs H',Inv X pins σ H' s'/\Vals vs us/\Q vs H'
def SP (X:Cx) (pins:List (Addr×Obj)) (D:Ends) (f:Flow) (s':Shared):Prop:=
 match f with
 | .next=>∃σ' H',Inv X pins σ' H' s'/\D.nx σ' H'
 | .brk=>∃σ' H',Inv X pins σ' H' s'/\D.bk σ' H'
 | .cont=>∃σ' H',Inv X pins σ' H' s'/\D.ct σ' H'
 | .ret u=>∃v σ' H',Inv X pins σ' H' s'/\RelV v u/\D.rt v H'
def PE (X:Cx) (e:Expr) (t:TE):Prop:=
 ∀(pins:List (Addr×Obj)) (s:Shared) (σ:St) (H:Hp) (Q:VK),Inv X pins σ H s->t σ H Q->wpAny (model X.prog X.w) X.A (eval e X.env) (EP X pins σ Q) X.xe s
def PT (X:Cx) (e:Expr) (t:TT):Prop:=
 ∀(pins:List (Addr×Obj)) (s:Shared) (σ:St) (H:Hp) (Q:Bool->Hp->Prop),Inv X pins σ H s->t σ H Q->wpAny (model X.prog X.w) X.A (isTrue e X.env (eval e X.env)) (TP X pins σ Q) X.xe s
def PW (X:Cx) (e:Expr) (t:TT):Prop:=
 ∀(whole:Sem Value) (pins:List (Addr×Obj)) (s:Shared) (σ:St) (H:Hp) (Q:Bool->Hp->Prop),Inv X pins σ H s->t σ H Q->wpAny (model X.prog X.w) X.A (isTrue e X.env whole) (TP X pins σ Q) X.xe s
theorem PW.pt {X:Cx}{e:Expr}{t:TT}(h:PW X e t):PT X e t:=h _
def PA (X:Cx) (es:List Expr) (t:TA):Prop:=
 ∀(pos:Pos) (pins:List (Addr×Obj)) (s:Shared) (σ:St) (H:Hp) (Q:List V->Hp->Prop),Inv X pins σ H s->t σ H Q->wpAny (model X.prog X.w) X.A (spliced (backTo pos (starEach es X.env))) (AP X pins σ Q) X.xe s
def PS (X:Cx) (st:Stmt) (t:TS):Prop:=
 ∀(pins:List (Addr×Obj)) (s:Shared) (σ:St) (H:Hp) (D:Ends),Inv X pins σ H s->t D σ H->wpAny (model X.prog X.w) X.A (exec st X.env) (SP X pins D) X.xe s
def PSs (X:Cx) (st:List Stmt) (t:TS):Prop:=
 ∀(pins:List (Addr×Obj)) (s:Shared) (σ:St) (H:Hp) (D:Ends),Inv X pins σ H s->t D σ H->wpAny (model X.prog X.w) X.A (execs st X.env) (SP X pins D) X.xe s
theorem thn {α:Type}{t:Sem α}{Q Q':α->Shared->Prop}{M:Model}{A:Around}{E:Value->Shared->Prop}{s:Shared}(h:wpAny M A t Q E s)(hQ:∀a s,Q a s->Q' a s):wpAny M A t Q' E s:=zZ h hQ fun _ _ x=>x
section
variable {X:Cx}
def tVar (i:Nat):TE:=fun σ H Q=>∃v,σ[i]? =some (some v)/\Q v H
def tC (v:V):TE:=fun _ H Q=>Q v H
theorem a3G {i:Nat}{x:Str}{pos:Pos}(hN:X.N[i]? =some x)(hv:Vis X.env.scope x)(hd:(x==("__debug__":Str))=false:=by decide)(hcd:(x==("__classdict__":Str))=false:=by decide):PE X (.Name x pos) (tVar i):=by
 intro pins s σ H Q I h;obtain⟨v,e,h⟩:=h;obtain⟨m,hn,hl⟩:=I.loc;obtain⟨u,r,l⟩:=hl i x v hN e hv;have fin:EP X pins σ Q u s:=⟨v,H,I,r,h⟩;rcases l with ⟨hk,hm⟩|⟨hk,c,hc,hcell⟩
 ·exact wpAny_Name (wpAny_loadName_local I.ok.kind hk hn hm fin) hd
 ·rcases hk with hk|hk
  ·exact wpAny_Name (wpAny_loadName_cell I.ok.kind hk hc hcell fin) hd
  ·exact wpAny_Name (wpAny_loadName_free I.ok.kind hk hc hcell fin hcd) hd
theorem b0t {i j pos}:PE X (.Constant (.int i) j pos) (tC (.int i)):=fun _ _ _ H _ I h=>wpAny_Constant_int ⟨.int i,H,I.tok _,⟨_,rfl⟩,h⟩
theorem pe_bl {b j pos}:PE X (.Constant (.bool b) j pos) (tC (.bl b)):=fun _ _ _ H _ I h=>Constant_bool ⟨.bl b,H,I,rfl,h⟩
def Gl (X:Cx) (x:Str):Prop:=X.env.kindOf x=some .globalImplicit
theorem a8k {E:Value->Shared->Prop}{pins:List (Addr×Obj)}{s:Shared}{σ:St}{H:Hp}{x:Str}{u:Value}{pos:Pos}{Q:Value->Shared->Prop}(I:Inv X pins σ H s)(hg:Gl X x)(hm:X.mg x=some u)(h:Q u s)
  (hd:(x==("__debug__":Str))=false:=by decide):wpAny (model X.prog X.w) X.A (eval (.Name x pos) X.env) Q E s:=
 Calls.Name_function_global I.ok.kind hg (Calls.loadGlobal_global (by rw[I.ok.glob];exact I.mod.glob.keeps I.bk) hm h) hd
theorem J5 {E:Value->Shared->Prop}{pins:List (Addr×Obj)}{s:Shared}{σ:St}{H:Hp}{x:Str}{u:Value}{pos:Pos}{Q:Value->Shared->Prop}(I:Inv X pins σ H s)(hg:Gl X x)(hm:X.mg x=none)(hv:bootBuiltins x=some u)(h:Q u s)
  (hn:x≠"__name__":=by decide) (hd:(x==("__debug__":Str))=false:=by decide):wpAny (model X.prog X.w) X.A (eval (.Name x pos) X.env) Q E s:=by
 obtain⟨mb,h1,h2⟩:=I.mod.blt;exact Calls.Name_function_global I.ok.kind hg (Calls.loadGlobal_builtin (by rw[I.ok.glob];exact I.mod.glob.keeps I.bk) hm (by rw[I.ok.blt];exact h1.keeps I.bk) ((h2 x hn).trans hv) h) hd
theorem a8s {x:Str}{v:V}{u:Value}{pos:Pos}(hg:Gl X x)(hm:X.mg x=none)(hv:bootBuiltins x=some u)(r:RelV v u)(hn:x≠"__name__":=by decide)(hd:(x==("__debug__":Str))=false:=by decide):PE X (.Name x pos) (tC v):=
 fun _ _ _ H _ I h=>J5 I hg hm hv ⟨v,H,I,r,h⟩ hn hd
variable {a b:Expr}{ta tb:TE}{pos:Pos}
variable {tA tB':TT}{rest:List Expr}
def tAnd (t u:TT):TT:=fun σ H Q=>t σ H fun c H1=>if c=true then u σ H1 Q else Q false H1
def tOr (t u:TT):TT:=fun σ H Q=>t σ H fun c H1=>if c=true then Q true H1 else u σ H1 Q
def tNot (t:TT):TT:=fun σ H Q=>t σ H fun c H1=>Q (!c) H1
theorem pw_and1 (ha:PT X a tA):PW X (.BoolOp .And [a] pos) tA:=by
 intro wh pins s σ H Q I h;refine isTrue_and (thn (ha pins s σ H Q I h) fun c s1 e=>?_);cases c with
 | true=>exact isTrue_and_nil e
 | false=>exact e
theorem pw_or1 (ha:PT X a tA):PW X (.BoolOp .Or [a] pos) tA:=by
 intro wh pins s σ H Q I h;refine isTrue_or (thn (ha pins s σ H Q I h) fun c s1 e=>?_);cases c with
 | false=>exact isTrue_or_nil e
 | true=>exact e
theorem pw_and (ha:PT X a tA)(hb:PW X (.BoolOp .And (b::rest) pos) tB'):PW X (.BoolOp .And (a::b::rest) pos) (tAnd tA tB'):=by
 intro wh pins s σ H Q I h;refine isTrue_and (thn (ha pins s σ H _ I h) fun c s1 ⟨H1,I1,q1⟩=>?_);cases c with
 | true=>exact hb wh pins s1 σ H1 Q I1 q1
 | false=>exact⟨H1,I1,q1⟩
theorem pw_or (ha:PT X a tA)(hb:PW X (.BoolOp .Or (b::rest) pos) tB'):PW X (.BoolOp .Or (a::b::rest) pos) (tOr tA tB'):=by
 intro wh pins s σ H Q I h;refine isTrue_or (thn (ha pins s σ H _ I h) fun c s1 ⟨H1,I1,q1⟩=>?_);cases c with
 | true=>exact⟨H1,I1,q1⟩
 | false=>exact hb wh pins s1 σ H1 Q I1 q1
theorem b0J (ha:PT X a tA):PT X (.UnaryOp .Not a pos) (tNot tA):=by
 intro pins s σ H Q I h;exact isTrue_not (ha pins s σ H (fun c H1=>Q (!c) H1) I h)
def tAndV (ta tb:TE):TE:=fun σ H Q=>ta σ H fun x H1=>∃c,x= .bl c/\if c=true then tb σ H1 Q else Q (.bl false) H1
theorem b1u {op}{t:TE}(h:PE X a t):PE X (.BoolOp op [a] pos) t:=fun pins s σ H Q I hw=>BoolOp_one (h pins s σ H Q I hw)
theorem b0U (ha:PE X a ta)(hb:PE X (.BoolOp .And (b::rest) pos) tb):PE X (.BoolOp .And (a::b::rest) pos) (tAndV ta tb):=by
 intro pins s σ H Q I h;refine BoolOp_and (thn (ha pins s σ H _ I h) fun v s1 h0=>ex5 h0 fun x H1 I1 r1 q1=>?_);obtain⟨c,rfl,q1⟩:=q1;cases r1;refine wpAny_truthy_bool ?_;cases c with
 | true=>exact hb pins s1 σ H1 Q I1 q1
 | false=>exact⟨.bl false,H1,I1,rfl,q1⟩
end
def SqL (K:PySem.W.Frag) (H:Hp) (a:Addr) (xs:List V):Prop:=
 Rd H a (.lst xs)\/
  ∃(o:Obj) (its:Array Value) (n:Nat),K.lookup a=some o/\o.cls= .type "list"/\o.dict=none/\o.data= .seq its n/\its.size<=sizeLine/\Vals xs its.toList
def SqT (K:PySem.W.Frag) (H:Hp) (a:Addr) (xs:List V):Prop:=
 Rd H a (.tup xs)\/
  ∃(o:Obj) (its:Array Value) (n:Nat),K.lookup a=some o/\o.cls= .type "tuple"/\o.dict=none/\o.data= .seq its n/\its.size<=sizeLine/\Vals xs its.toList
def absV:Value->Option V
 | .none=>some .non
 | .bool b=>some (.bl b)
 | .int i _=>some (.int i)
 | .str x _=>some (.str x)
 | .bytes b _=>some (.byt b)
 | .float b _=>some (.flt b)
 | .ref a=>some (.ref a)
 | .type n=>some (.ty n)
 | _=>none
theorem RelV.abs {x:V}{u:Value}(r:RelV x u):absV u=some x:=by
 cases x with
 | non=>cases r;rfl
 | bl _=>cases r;rfl
 | int _=>obtain⟨t,rfl⟩:=r;rfl
 | str _=>obtain⟨t,rfl⟩:=r;rfl
 | byt _=>obtain⟨t,rfl⟩:=r;rfl
 | flt _=>obtain⟨t,rfl⟩:=r;rfl
 | ref _=>cases r;rfl
 | ty _=>cases r;rfl
theorem RelV.inj {x y:V}{u:Value}(r:RelV x u)(q:RelV y u):x=y:=jB (r.abs.symm.trans q.abs)
theorem Vals.inj:∀{xs ys:List V} {us:List Value},Vals xs us->Vals ys us->xs=ys
 | _,_,_,.nil,.nil=>rfl
 | _,_,_,.cons r t,.cons r' t'=>by rw[r.inj r',Vals.inj t t']
section
variable {X:Cx}{pins:List (Addr×Obj)}{σ:St}{H:Hp}{s:Shared}{a:Addr}{xs ys:List V}
theorem SqL.of {K:PySem.W.Frag}(h:H a=some (.lst xs)):SqL K H a xs:=.inl (.inl h)
theorem SqT.of {K:PySem.W.Frag}(h:H a=some (.tup xs)):SqT K H a xs:=.inl (.inl h)
theorem Inv.list (I:Inv X pins σ H s)(h:SqL X.K H a xs):∃its:List Value,Vals xs its/\PlainL s.heap a its.toArray/\xs.length<=sizeLine:=by
 rcases h with h|⟨o,its,n,hk,hc,hd,hs,hz,r⟩
 ·obtain⟨z,its,n,r,e⟩:=h.ok I.hok;exact⟨its,r,⟨_,n,e,rfl,rfl,rfl⟩,z⟩
 ·refine⟨its.toList,r,⟨o,n,I.kIn a o hk,hc,hd,by simpa using hs⟩,?_⟩
  have e:=r.length;simp only[zK] at e;walk_at "o"
theorem Inv.tupN (I:Inv X pins σ H s)(h:SqT X.K H a xs):∃its:List Value,Vals xs its/\TupN s.heap a its.toArray/\xs.length<=sizeLine:=by
 rcases h with h|⟨o,its,n,hk,hc,hd,hs,hz,r⟩
 ·obtain⟨z,its,r,p⟩:=h.ok I.hok;exact⟨its,r,p,z⟩
 ·refine⟨its.toList,r,⟨o,I.kIn a o hk,hc,⟨n,by simpa using hs⟩,hd⟩,?_⟩
  have e:=r.length;simp only[zK] at e;walk_at "o"
theorem Inv.tuple (I:Inv X pins σ H s)(h:SqT X.K H a xs):∃its:List Value,Vals xs its/\IsTup s.heap a its.toArray/\xs.length<=sizeLine:=let ⟨its,r,p,z⟩:=I.tupN h;⟨its,r,p.is,z⟩
theorem Inv.list_inj (I:Inv X pins σ H s)(h:SqL X.K H a xs)(h':SqL X.K H a ys):xs=ys:=by
 obtain⟨its,r,⟨o,n,e,_,_,d⟩,_⟩:=I.list h;obtain⟨its',r',⟨o',n',e',_,_,d'⟩,_⟩:=I.list h';rw[e] at e';cases e';rw[d] at d';injection d' with d1 _
 have:its=its':=by simpa using congrArg Array.toList d1
 subst this;exact r.inj r'
theorem Inv.tuple_inj (I:Inv X pins σ H s)(h:SqT X.K H a xs)(h':SqT X.K H a ys):xs=ys:=by
 obtain⟨its,r,⟨o,e,_,n,d⟩,_⟩:=I.tuple h;obtain⟨its',r',⟨o',e',_,n',d'⟩,_⟩:=I.tuple h';rw[e] at e';cases e';rw[d] at d';injection d' with d1 _
 have:its=its':=by simpa using congrArg Array.toList d1
 subst this;exact r.inj r'
end
abbrev Cx.wish (X:Cx) (E:Value->Shared->Prop):Cx:={X with xe:=E}
abbrev Cx.nox (X:Cx):Cx:=X.wish fun _ _=>False
theorem Cx.Ok.wish {X:Cx}(ok:X.Ok)(E:Value->Shared->Prop):(X.wish E).Ok:=
 ⟨ok.mod,ok.kind,ok.glob,ok.blt,ok.above,ok.inj,ok.has,ok.cab,ok.hd,ok.frames,ok.stk,ok.exf,ok.bs,ok.bsz,ok.noex,ok.exfs,ok.funs,ok.frf⟩
theorem Cx.Ok.unwish {X:Cx}{E:Value->Shared->Prop}(ok:(X.wish E).Ok):X.Ok:=
 ⟨ok.mod,ok.kind,ok.glob,ok.blt,ok.above,ok.inj,ok.has,ok.cab,ok.hd,ok.frames,ok.stk,ok.exf,ok.bs,ok.bsz,ok.noex,ok.exfs,ok.funs,ok.frf⟩
section
variable {X:Cx}{pins:List (Addr×Obj)}{σ:St}{H:Hp}{s:Shared}{E:Value->Shared->Prop}
theorem Inv.wish (I:Inv X pins σ H s)(E:Value->Shared->Prop):Inv (X.wish E) pins σ H s:=⟨I.ok.wish E,I.os,I.bare,I.base,I.loc,I.cell,I.free,I.freeC,I.pin,I.hok,I.len⟩
theorem Inv.unwish (I:Inv (X.wish E) pins σ H s):Inv X pins σ H s:=⟨I.ok.unwish,I.os,I.bare,I.base,I.loc,I.cell,I.free,I.freeC,I.pin,I.hok,I.len⟩
theorem SP.unwish {D:Ends}{f:Flow}{s':Shared}(h:SP (X.wish E) pins D f s'):SP X pins D f s':=by
 cases f with
 | next=>obtain⟨σ',H',I,q⟩:=h;exact⟨σ',H',I.unwish,q⟩
 | brk=>obtain⟨σ',H',I,q⟩:=h;exact⟨σ',H',I.unwish,q⟩
 | cont=>obtain⟨σ',H',I,q⟩:=h;exact⟨σ',H',I.unwish,q⟩
 | ret u=>obtain⟨v,σ',H',I,r,q⟩:=h;exact⟨v,σ',H',I.unwish,r,q⟩
theorem PSs.nox {st:List Stmt}{t:TS}(h:PSs X.nox st t):PSs X st t:=fun pins s σ H D I hw=>
 zZ (h pins s σ H D (I.wish _) hw) (fun _ _ q=>q.unwish) fun _ _ z=>False.elim z
end
section
variable {X:Cx}{st:Stmt}{rest:List Stmt}{t u:TS}{e:Expr}{te:TE}{pos:Pos}
def tNext:TS:=fun D σ H=>D.nx σ H
def tSeq (t u:TS):TS:=fun D σ H=>t {D with nx:=u D} σ H
theorem a83:PSs X [] tNext:=fun _ _ σ H _ I h=>wpAny_execs_nil ⟨σ,H,I,h⟩
theorem a6y (h1:PS X st t)(h2:PSs X rest u):PSs X (st::rest) (tSeq t u):=by
 intro pins s σ H D I h;refine wpAny_execs_cons (thn (h1 pins s σ H {D with nx:=u D} I h) fun f s1 q=>?_)
 cases f with
 | next=>
  obtain⟨σ',H',I',q⟩:=q;exact h2 pins s1 σ' H' D I' q
 | ret v=>exact q
 | brk=>exact q
 | cont=>exact q
theorem a86 (h1:PS X st t):PSs X [st] t:=by
 intro pins s σ H D I h;refine wpAny_execs_cons (thn (h1 pins s σ H D I h) fun f s1 q=>?_);cases f with
 | next=>exact wpAny_execs_nil q
 | ret v=>exact q
 | brk=>exact q
 | cont=>exact q
theorem Inv.quiet {pins:List (Addr×Obj)}{σ:St}{H:Hp}{s:Shared}(I:Inv X pins σ H s):interactive X.env=false:=by simp[interactive,I.ok.kind]
def tDrop (te:TE):TS:=fun D σ H=>te σ H fun _ H1=>D.nx σ H1
theorem a8A (he:PE X e te)(hs:swapsWith e none pos.line X.env=pure false:=by rfl):PS X (.Expr e pos) (tDrop te):=by
 intro pins s σ H D I h;exact wpAny_Expr_any (thn (he pins s σ H _ I h) fun v s1 h0=>ex5 h0 fun x H1 I1 r1 q1=>⟨σ,H1,I1,q1⟩) I.quiet hs
def tRet (te:TE):TS:=fun D σ H=>te σ H D.rt
theorem b1t (he:PE X e te):PS X (.Return (some e) pos) (tRet te):=by
 intro pins s σ H D I h;exact wpAny_Return_some (thn (he pins s σ H _ I h) fun v s1 h0=>ex5 h0 fun x H1 I1 r1 q1=>⟨x,σ,H1,I1,r1,q1⟩)
def tIfS (c:TT) (t u:TS):TS:=fun D σ H=>c σ H fun b H1=>if b=true then t D σ H1 else u D σ H1
theorem ps_if {c:Expr}{a b:List Stmt}{tc:TT}(hc:PT X c tc)(ha:PSs X a t)(hb:PSs X b u):PS X (.If c a b pos) (tIfS tc t u):=by
 intro pins s σ H D I h;refine wpAny_If (thn (hc pins s σ H _ I h) fun d s1 ⟨H1,I1,q1⟩=>?_);cases d with
 | true=>exact ha pins s1 σ H1 D I1 q1
 | false=>exact hb pins s1 σ H1 D I1 q1
end
abbrev TG:=V->St->Hp->(St->Hp->Prop)->Prop
abbrev TGs:=List V->St->Hp->(St->Hp->Prop)->Prop
def PG (X:Cx) (target:Expr) (t:TG):Prop:=
 ∀(pins:List (Addr×Obj)) (s:Shared) (σ:St) (H:Hp) (v:V) (u:Value) (Q:St->Hp->Prop),Inv X pins σ H s->RelV v u->t v σ H Q->
  wpAny (model X.prog X.w) X.A (assign target X.env u) (fun _ s'=>∃σ' H',Inv X pins σ' H' s'/\Q σ' H') X.xe s
def PGs (X:Cx) (ts:List Expr) (t:TGs):Prop:=
 ∀(pins:List (Addr×Obj)) (s:Shared) (σ:St) (H:Hp) (vs:List V) (us:List Value) (Q:St->Hp->Prop),Inv X pins σ H s->Vals vs us->t vs σ H Q->
  wpAny (model X.prog X.w) X.A (assignInOrder ((assignEach ts X.env).map (·.2)) us) (fun _ s'=>∃σ' H',Inv X pins σ' H' s'/\Q σ' H') X.xe s
abbrev TSet:=V->V->V->Hp->(Hp->Prop)->Prop
def PSet (X:Cx) (t:TSet):Prop:=
 ∀(pins:List (Addr×Obj)) (s:Shared) (σ:St) (H:Hp) (o i v:V) (ov iv u:Value) (Q:Hp->Prop),Inv X pins σ H s->RelV o ov->RelV i iv->RelV v u->t o i v H Q->
  wpAny (model X.prog X.w) X.A (setItem ov iv u) (fun _ s'=>∃H',Inv X pins σ H' s'/\Q H') X.xe s
section
variable {X:Cx}{pos:Pos}
def gName (i:Nat):TG:=fun v σ H Q=>Q (σ.set i (some v)) H
theorem a5b {i:Nat}{x:Str}(hN:X.N.Nodup)(hi:X.N[i]? =some x)(hx:Loc X.env.scope x)(hf:X.fn x=true\/X.env.scope.names.lookup x=some .local:=by first|exact .inl rfl|exact .inr rfl|assumption):PG X (.Name x pos) (gName i):=by
 intro pins s σ H v u Q I r h;exact wpAny_assign_Name (a2k I hN hi hx r (fun s' I'=>⟨_,H,I',h⟩) hf)
def gNil:TGs:=fun vs σ H Q=>vs=[]/\Q σ H
def gCons (t:TG) (u:TGs):TGs:=fun vs σ H Q=>∃v r,vs=v::r/\t v σ H fun σ' H'=>u r σ' H' Q
theorem a8w:PGs X [] gNil:=by
 intro pins s σ H vs us Q I r h;obtain⟨e,h⟩:=h;subst e;cases r;exact assignInOrder_nil ⟨σ,H,I,h⟩
theorem a7X {e:Expr}{es:List Expr}{t:TG}{u:TGs}(h1:PG X e t)(h2:PGs X es u)
  (hs:(assignEach (e::es) X.env).map (·.2)=assign e X.env::(assignEach es X.env).map (·.2):=by rfl):PGs X (e::es) (gCons t u):=by
 intro pins s σ H vs us Q I r h;obtain⟨v,vr,e1,h⟩:=h;subst e1;cases r with
 | cons r rr=>
  rw[hs];refine assignInOrder_cons (thn (h1 pins s σ H _ _ _ I r h) fun _ s1 ⟨σ1,H1,I1,q1⟩=>?_);exact h2 pins s1 σ1 H1 _ _ Q I1 rr q1
def gTup (K:PySem.W.Frag) (n:Nat) (t:TGs):TG:=fun v σ H Q=>∃a xs,v= .ref a/\SqT K H a xs/\xs.length=n/\t xs σ H Q
theorem b1f {es:List Expr}{k:Nat}{t:TGs}{n:Nat}(hc:X.calm=true)(h:PGs X es t)
  (hn:(assignEach es X.env).length=n:=by rfl) (hst:(assignEach es X.env).findIdx? (·.1)=none:=by rfl):PG X (.Tuple es k pos) (gTup X.K n t):=by
 intro pins s σ H v u Q I r hw;obtain⟨a,xs,e1,hq,hl,hw⟩:=hw;subst e1;cases r;obtain⟨its,rv,ht,hz⟩:=I.tuple hq;refine assign_Tuple_tuple (I.ok.hd hc) ht (by simp[hn,<-hl,rv.length]) hst fun h' hx=>?_
 have I1:Inv X pins σ H {s with heap:=h'}:=I.kept (t':=s.toks) fun b o e=>hx b o (zV (zW e)) e
 exact h pins _ σ H xs _ Q I1 (by simpa using rv) hw
def gSub (to ti:TE) (t:TSet):TG:=fun v σ H Q=>to σ H fun o H1=>ti σ H1 fun i H2=>t o i v H2 fun H3=>Q σ H3
theorem b0F {o i:Expr}{to ti:TE}{t:TSet}(ho:PE X o to)(hi:PE X i ti)(hs:PSet X t)
  (ha:∀v,assign (.Subscript o i pos) X.env v=(do
   let ov <-holding [v] (eval o X.env)
   let iv <-holding [v,ov] (eval i X.env)
   standAt pos
   holding [v,ov,iv] (setItem ov iv v)
   release [v,ov,iv] []):=by intro _;rfl):PG X (.Subscript o i pos) (gSub to ti t):=by
 intro pins s σ H v u Q I r h;rw[ha];refine zA (qN (thn (ho pins s σ H _ I h) fun ov s1 h0=>ex5 h0 fun x H1 I1 r1 q1=>?_));refine zA (qN (thn (hi pins s1 σ H1 _ I1 q1) fun iv s2 h0=>ex5 h0 fun y H2 I2 r2 q2=>?_));refine zA (wpAny_standAt (zA (qN (thn (hs pins s2 σ H2 x y v ov iv u _ I2 r1 r2 r q2) fun _ s3 ⟨H3,I3,q3⟩=>?_))));exact wpAny_release ⟨σ,H3,I3,q3⟩
def tAsg (te:TE) (g:TG):TS:=fun D σ H=>te σ H fun x H1=>g x σ H1 D.nx
theorem b1B {tg e:Expr}{te:TE}{g:TG}(he:PE X e te)(hg:PG X tg g)(hs:swapsWithSole [tg] e pos.line X.env=pure false:=by rfl)(hw:swappedStores [tg] e X.env=pure none:=by rfl)
  (h1:(assignEach [tg] X.env).map (·.2)=[assign tg X.env]:=by rfl):PS X (.Assign [tg] e pos) (tAsg te g):=by
 intro pins s σ H D I h;refine wpAny_Assign_stores (thn (he pins s σ H _ I h) fun v s1 h0=>ex5 h0 fun x H1 I1 r1 q1=>?_) hs hw;rw[h1];exact thn (hg pins s1 σ H1 x v _ I1 r1 q1) fun _ s2 q=>q
theorem b0x {i:Nat}{x:Str}{e:Expr}{te:TE}{pos':Pos}(hN:X.N.Nodup)(hi:X.N[i]? =some x)(hx:Loc X.env.scope x)(he:PE X e te)(hs:swapsWith e (some (.Name x pos')) pos.line X.env=pure false:=by rfl)(hf:X.fn x=true\/X.env.scope.names.lookup x=some .local:=by first|exact .inl rfl|exact .inr rfl|assumption):
  PS X (.Assign [.Name x pos'] e pos) (tAsg te (gName i)):=by
 intro pins s σ H D I h;refine wpAny_Assign_Name (thn (he pins s σ H _ I h) fun v s1 h0=>ex5 h0 fun y H1 I1 r1 q1=>?_) hs;exact a2k I1 hN hi hx r1 (fun s2 I2=>⟨_,H1,I2,q1⟩) hf
end
structure It where
 go:Nat->Hp->Prop
 yld:Nat->Hp->V->Hp->Prop
 stop:Nat->Hp->Prop
def FpOk (X:Cx) (pins:List (Addr×Obj)) (H:Hp) (b:Addr):Prop:=
 H b=none/\b≠X.env.locals/\b∉X.fs/\(b∈X.ex\/X.s₀.heap.objs.size<=b)/\(∀x c,X.env.cells.lookup x=some c->c≠b)/\∀p∈X.pn++pins,p.1≠b
theorem Inv.fpOk {X:Cx}{pins:List (Addr×Obj)}{σ:St}{H H':Hp}{s:Shared}{b:Addr}(I:Inv X pins σ H s)(hb:s.heap.objs.size<=b)(hn:H' b=none):FpOk X pins H' b:=by
 refine⟨hn,Nat.ne_of_gt (zJ I.lt hb),I.nofs hb,.inr (zQ I.sz hb),fun x c e z=>?_,fun p hp z=>?_⟩
 ·obtain⟨v,q⟩:=I.cell x c e;exact absurd (zJ q.lt (by rw[z];exact hb)) (jU _)
 ·exact absurd (zJ (zW (I.pin p hp).1) (by rw[z];exact hb)) (jU _)
structure Turn (P:Program) (w:World) (K:PySem.W.Frag) (tg:Expr) (J:It) (fp:List Addr) (it:Addr) (tn:Nat->Heap->Prop):Prop where
 mem:it∈fp
 obj:∀i h,tn i h->∀b∈fp,∃o,h.get? b=some o/\∀v,o.data≠.cell v
 keep:∀i h h',tn i h->(∀b∈fp,∀o,h.get? b=some o->h'.get? b=some o)->tn i h'
 item:∀(X:Cx),X.prog=P->X.w=w->X.K=K->X.calm=true->∀(i:Nat) (pins:List (Addr×Obj)) (s:Shared) (σ:St) (H:Hp) (E:Value->Shared->Prop),Inv X pins σ H s->(∀b∈fp,FpOk X pins H b)->tn i s.heap->J.go i H->
  wpAny (model P w) X.A (pyNext (.ref it)) (fun r s1=>∃u,r=some u/\
   wpAny (model P w) X.A (letOwnedTupleGo tg (.ref it) u) (fun _ s2=>∃x H',Inv X pins σ H' s2/\RelV x u/\J.yld i H x H'/\tn (i+1) s2.heap/\∀b∈fp,H' b=none) E s1) E s
 done:∀(X:Cx),X.prog=P->X.w=w->X.K=K->X.calm=true->∀(i:Nat) (pins:List (Addr×Obj)) (s:Shared) (σ:St) (H:Hp) (E:Value->Shared->Prop),Inv X pins σ H s->(∀b∈fp,FpOk X pins H b)->tn i s.heap->J.stop i H->
  wpAny (model P w) X.A (pyNext (.ref it)) (fun r s1=>r=none/\Inv X pins σ H s1) E s
 self:∀(A:Around) (i:Nat) (s:Shared) (Q:Value->Shared->Prop) (E:Value->Shared->Prop),tn i s.heap->Q (.ref it) s->wpAny (model P w) A (pyIter (.ref it)) Q E s
abbrev TI:=St->Hp->(It->Hp->Prop)->Prop
def PIE (X:Cx) (pins:List (Addr×Obj)) (σ:St) (tg:Expr) (R:It->Hp->Prop) (itv:Value) (s2:Shared):Prop:=
 ∃(it:Addr) (fp:List Addr) (tn:Nat->Heap->Prop) (J:It) (H':Hp),itv= .ref it/\Inv X pins σ H' s2/\Turn X.prog X.w X.K tg J fp it tn/\tn 0 s2.heap/\(∀b∈fp,FpOk X pins H' b)/\R J H'
def PI (X:Cx) (tg iter:Expr) (wi:TI):Prop:=
 ∀(pins:List (Addr×Obj)) (s:Shared) (σ:St) (H:Hp) (R:It->Hp->Prop),Inv X pins σ H s->wi σ H R->
  wpAny (model X.prog X.w) X.A (eval iter X.env) (fun v s1=>wpAny (model X.prog X.w) X.A (pyIter v) (PIE X pins σ tg R) X.xe s1) X.xe s
theorem a4Z {M:Model}{A:Around}{E:Value->Shared->Prop}{s:Shared}{tg:Expr}{it:Addr}{u:Value}{o:Obj}{n:String}{vs:Array Value}{Q:Unit->Shared->Prop}(ho:s.heap.get? it=some o)(hc:o.cls= .type n)(hd:o.data= .fields vs)
  (hn:["enumerate","zip","dict_itemiterator","dict_reverseitemiterator","odict_iterator","itertools.zip_longest","itertools.pairwise"].contains n=false) (hQ:Q () s):wpAny M A (letOwnedTupleGo tg (.ref it) u) Q E s:=by
 unfold letOwnedTupleGo;cases tg<;>first
  | exact zC hQ
  | (cases u<;>first
    | exact zC hQ
    | (refine zA (wpAny_load ho ?_)
       rw[hc,hd];show wpAny M A (if(["enumerate","zip","dict_itemiterator","dict_reverseitemiterator","odict_iterator","itertools.zip_longest","itertools.pairwise"].contains n&&vs[0]? == some (rawInt _))=true then _ else _) Q E s;rw[if_neg (by intro h;rw[hn,Bool.false_and] at h;cases h)]
       exact zC hQ))
def Itl (K:PySem.W.Frag) (a:Addr):It:=
 ⟨fun i H=>∃xs x,SqL K H a xs/\xs[i]? =some x,fun i H x H'=>H'=H/\∀xs,SqL K H a xs->xs[i]? =some x,fun i H=>∃xs,SqL K H a xs/\xs.length<=i⟩
def Itt (K:PySem.W.Frag) (a:Addr):It:=
 ⟨fun i H=>∃xs x,SqT K H a xs/\xs[i]? =some x,fun i H x H'=>H'=H/\∀xs,SqT K H a xs->xs[i]? =some x,fun i H=>∃xs,SqT K H a xs/\xs.length<=i⟩
def Itr (lo:Int) (n:Nat):It:=⟨fun i _=>i<n,fun i H x H'=>H'=H/\x= .int (lo+i),fun i _=>n<=i⟩
theorem a5e {P:Program}{w:World}{K:PySem.W.Frag}{tg:Expr}(a it:Addr):Turn P w K tg (Itl K a) [it] it (fun i h=>h.IsListIter it a i) where
 mem:=by simp
 obj:=fun i h st b hb=>by
  have e:b=it:=by simpa using hb
  subst e;obtain⟨o,e,c,d⟩:=st;exact⟨o,e,fun v z=>by rw[d] at z;cases z⟩
 keep:=fun i h h' st k=>st.at fun o e=>k it (by simp) o e
 item:=by
  intro X hP hw hK hc i pins s σ H E I hf st hg;subst hP hw hK;obtain⟨xs,x,hq,hx⟩:=hg;obtain⟨its,rv,p,hz⟩:=I.list hq;obtain⟨u,hu,ru⟩:=rv.get hx;obtain⟨f0,f1,f2,f3,f4,f5⟩:=hf it (by simp)
  refine wpAny_pyNext_list_item st p.isList (x:=u) (by simpa using hu) fun h' st' sb=>?_
  have I1:Inv X pins σ H {s with heap:=h'}:=I.turned (t':=s.toks) (fun b o hb e=>(sb.2 b hb).trans e) f0 f1 f3 f4 f5
  obtain⟨o,e,c,d⟩:=id st';exact⟨u,rfl,a4Z (s:={s with heap:=h'}) e c d (by decide) ⟨x,H,I1,ru,⟨rfl,fun ys hy=>by rw[I.list_inj hy hq];exact hx⟩,st',fun b hb=>(hf b hb).1⟩⟩
 done:=by
  intro X hP hw hK hc i pins s σ H E I hf st hg;subst hP hw hK;obtain⟨xs,hq,hx⟩:=hg;obtain⟨its,rv,p,hz⟩:=I.list hq;obtain⟨f0,f1,f2,f3,f4,f5⟩:=hf it (by simp)
  have hl:=rv.length;exact wpAny_pyNext_list_end (I.ok.hd hc) st p.isList (by simp;walk_at "o") fun h' eb=>⟨rfl,I.turned (t':=s.toks) (fun b o hb e=>eb b o hb e) f0 f1 f3 f4 f5⟩
 self:=fun _ _ _ _ _ st h=>wpAny_pyIter_listiter st h
theorem a3h {P:Program}{w:World}{K:PySem.W.Frag}{tg:Expr}(a it:Addr):Turn P w K tg (Itt K a) [it] it (fun i h=>h.IsTupleIter it a i) where
 mem:=by simp
 obj:=fun i h st b hb=>by
  have e:b=it:=by simpa using hb
  subst e;obtain⟨o,e,c,d⟩:=st;exact⟨o,e,fun v z=>by rw[d] at z;cases z⟩
 keep:=fun i h h' st k=>st.at fun o e=>k it (by simp) o e
 item:=by
  intro X hP hw hK hc i pins s σ H E I hf st hg;subst hP hw hK;obtain⟨xs,x,hq,hx⟩:=hg;obtain⟨its,rv,p,hz⟩:=I.tuple hq;obtain⟨u,hu,ru⟩:=rv.get hx;obtain⟨f0,f1,f2,f3,f4,f5⟩:=hf it (by simp)
  refine wpAny_pyNext_tuple_item st (show s.heap.IsTuple a its.toArray from p) (x:=u) (by simpa using hu) fun h' st' sb=>?_
  have I1:Inv X pins σ H {s with heap:=h'}:=I.turned (t':=s.toks) (fun b o hb e=>(sb.2 b hb).trans e) f0 f1 f3 f4 f5
  obtain⟨o,e,c,d⟩:=id st';exact⟨u,rfl,a4Z (s:={s with heap:=h'}) e c d (by decide) ⟨x,H,I1,ru,⟨rfl,fun ys hy=>by rw[I.tuple_inj hy hq];exact hx⟩,st',fun b hb=>(hf b hb).1⟩⟩
 done:=by
  intro X hP hw hK hc i pins s σ H E I hf st hg;subst hP hw hK;obtain⟨xs,hq,hx⟩:=hg;obtain⟨its,rv,p,hz⟩:=I.tuple hq;obtain⟨f0,f1,f2,f3,f4,f5⟩:=hf it (by simp)
  have hl:=rv.length;exact wpAny_pyNext_tuple_end (I.ok.hd hc) st (show s.heap.IsTuple a its.toArray from p) (by simp;walk_at "o") fun h' eb=>⟨rfl,I.turned (t':=s.toks) (fun b o hb e=>eb b o hb e) f0 f1 f3 f4 f5⟩
 self:=fun _ _ _ _ _ st h=>wpAny_pyIter_tupleiter st h
theorem a3C {P:Program}{w:World}{K:PySem.W.Frag}{tg:Expr}(it:Addr)(lo:Int)(n:Nat):Turn P w K tg (Itr lo n) [it] it (fun i h=>IsRangeIter h it (lo+(i:Nat)*1) ((n:Int)-(i:Nat)) 1) where
 mem:=by simp
 obj:=fun i h st b hb=>by
  have e:b=it:=by simpa using hb
  subst e
  exact⟨_,st,fun v z=>by
   have z':Data.fields _=Data.cell v:=z
   cases z'⟩
 keep:=fun i h h' st k=>k it (by simp) _ st
 item:=by
  intro X hP hw hK hc i pins s σ H E I hf st hg;subst hP hw hK;obtain⟨f0,f1,f2,f3,f4,f5⟩:=hf it (by simp)
  have W:=Walks.range (prog:=X.prog) (w:=X.w) (I.ok.hd hc) it lo 1 n;refine W.item i s _ _ hg st fun v h' tk hv st' kk=>?_;obtain⟨t,rfl⟩:=hv;have I1:Inv X pins σ H {s with heap:=h',toks:=tk}:=I.turned (fun b o hb e=>kk b o (by simpa using hb) e) f0 f1 f3 f4 f5
  refine⟨_,rfl,a4Z (s:={s with heap:=h',toks:=tk}) (n:="range_iterator") st' rfl rfl (by decide) ⟨.int (lo+i),H,I1,⟨t,?_⟩,⟨rfl,rfl⟩,st',fun b hb=>(hf b hb).1⟩⟩
  rw[Int.mul_one]
 done:=by
  intro X hP hw hK hc i pins s σ H E I hf st hg;subst hP hw hK;obtain⟨f0,f1,f2,f3,f4,f5⟩:=hf it (by simp)
  exact wpAny_pyNext_range_end (I.ok.hd hc) st (by have:n<=i:=hg;walk_at "o") fun h' eb=>⟨rfl,I.turned (t':=s.toks) (fun b o hb e=>eb b o hb e) f0 f1 f3 f4 f5⟩
 self:=fun _ _ _ _ _ st h=>wpAny_pyIter_rangeiter st h
section
variable {X:Cx}{tg:Expr}
theorem a2R {pins:List (Addr×Obj)}{σ:St}{H:Hp}{s:Shared}{R:It->Hp->Prop}{E:Value->Shared->Prop}{lo hi:Int}{t u v:Tok}{tk:Nat}(I:Inv X pins σ H s)(h1:-(2^62)<=lo)(h2:lo<2^62)(h3:-(2^62)<=hi)(h4:hi<2^62)
  (q:R (Itr lo (hi-lo).toNat) H):wpAny (model X.prog X.w) X.A (pyIter (.ref s.heap.objs.size)) (PIE X pins σ tg R) E {s with heap:=s.heap.push {cls:=.type "range",data:=.fields #[.int lo t,.int hi u,.int 1 v]},toks:=tk}:=by
 refine wpAny_pyIter_range (IsRange.new ..) (small_one h1 h2 h3 h4) ?_;have I1:Inv X pins σ H {s with heap:=s.heap.push {cls:=.type "range",data:=.fields #[.int lo t,.int hi u,.int 1 v]},toks:=tk}:=I.kept fun b o e=>zE _ e
 refine⟨(s.heap.push {cls:=.type "range",data:=.fields #[.int lo t,.int hi u,.int 1 v]}).objs.size,[(s.heap.push {cls:=.type "range",data:=.fields #[.int lo t,.int hi u,.int 1 v]}).objs.size],_,_,H,rfl,
  I1.kept (t':=tk) fun b o e=>zE _ e,a3C _ lo (hi-lo).toNat,?_,fun b hb=>?_,q⟩
 ·have e1:lo+((0:Nat):Int)*1=lo:=by simp
  have e2:(((hi-lo).toNat:Nat):Int)-((0:Nat):Int)=Builtin.Range.rangeSize lo hi 1:=by rw[rangeSize_one];split<;>walk_at "o"
  show IsRangeIter _ _ (lo+((0:Nat):Int)*1) ((((hi-lo).toNat:Nat):Int)-((0:Nat):Int)) 1;rw[e1,e2];exact qA _ rfl
 ·have e:b=(s.heap.push {cls:=.type "range",data:=.fields #[.int lo t,.int hi u,.int 1 v]}).objs.size:=by simpa using hb
  subst e;exact I1.fpOk (zD _) (I1.hok.fresh (zD _))
def iRng1 (ta:TA):TI:=fun σ H R=>ta σ H fun vs H1=>∃j:Int,vs=[.int j]/\-(2^62)<=j/\j<2^62/\R (Itr 0 j.toNat) H1
def iRng2 (ta:TA):TI:=fun σ H R=>ta σ H fun vs H1=>∃i j:Int,vs=[.int i,.int j]/\(-(2^62)<=i/\i<2^62/\-(2^62)<=j/\j<2^62)/\R (Itr i (j-i).toNat) H1
theorem a5f {a:Expr}{ta:TA}{p pos:Pos}(hg:Gl X "range")(hm:X.mg "range"=none)(ha:PA X [a] ta)(hs:starEach [a] X.env=[(false,eval a X.env)]:=by rfl):PI X tg (.Call (.Name "range" p) [a] [] pos) (iRng1 ta):=by
 intro pins s σ H R I h;refine Call_ (J5 I hg hm boot_range (jF (thn (ha pos pins s σ H _ I h) fun us s1 h0=>ex5 h0 fun vs H1 I1 r1 q1=>?_) hs rfl));obtain⟨j,e,q1,q2,q⟩:=q1;subst e;cases r1 with
 | cons r rr=>
  cases rr;obtain⟨t,rfl⟩:=r;exact call_range_1 (a2R I1 (by walk_at "o") (by walk_at "o") q1 q2 (by simpa using q))
theorem a5r {a b:Expr}{ta:TA}{p pos:Pos}(hg:Gl X "range")(hm:X.mg "range"=none)(ha:PA X [a,b] ta)(hs:starEach [a,b] X.env=[(false,eval a X.env),(false,eval b X.env)]:=by rfl)(hs2:starEach [b] X.env=[(false,eval b X.env)]:=by rfl):
  PI X tg (.Call (.Name "range" p) [a,b] [] pos) (iRng2 ta):=by
 intro pins s σ H R I h;refine Call_ (J5 I hg hm boot_range (jF (thn (ha pos pins s σ H _ I h) fun us s1 h0=>ex5 h0 fun vs H1 I1 r1 q1=>?_) (by rw[hs,hs2]) (by rw[hs2];rfl)))
 obtain⟨i,j,e,⟨q1,q2,q3,q4⟩,q⟩:=q1;subst e;cases r1 with
 | cons r rr=>
  cases rr with
  | cons r' rr=>
   cases rr;obtain⟨t,rfl⟩:=r;obtain⟨t',rfl⟩:=r';exact call_range_2 (a2R I1 q1 q2 q3 q4 q)
def tFor (wi:TI) (g:TG) (tb:TS):TS:=fun D σ H=>wi σ H fun J H1=>∃W:Nat->Nat->St->Hp->Prop,(∃m,W 0 m σ H1)/\∀i m σ H,W i m σ H->
 (J.stop i H/\D.nx σ H)\/(J.go i H/\∃N:St->Hp->Prop,(∀σ' H',N σ' H'->∃m',m'<m/\W (i+1) m' σ' H')/\∀x H',J.yld i H x H'->g x σ H' fun σ2 H2=>tb {D with nx:=N,ct:=N,bk:=D.nx} σ2 H2)
def pinsAt (fp:List Addr) (h:Heap):List (Addr×Obj):=fp.filterMap fun b=>(h.get? b).map fun o=>(b,o)
theorem J6 {fp:List Addr}{h:Heap}{b:Addr}{o:Obj}(hb:b∈fp)(e:h.get? b=some o):(b,o)∈pinsAt fp h:=mem_filterMap.mpr ⟨b,hb,by rw[e];rfl⟩
theorem a5A {fp:List Addr}{h:Heap}{p:Addr×Obj}(hp:p∈pinsAt fp h):p.1∈fp/\h.get? p.1=some p.2:=by
 obtain⟨b,hb,e⟩:=mem_filterMap.mp hp;cases q:h.get? b with
 | none=>rw[q] at e;cases e
 | some o=>
  rw[q] at e;have e':(b,o)=p:=jB e;subst e';exact⟨hb,q⟩
theorem Inv.pinned {pins:List (Addr×Obj)}{σ:St}{H:Hp}{s:Shared}{fp:List Addr}(I:Inv X pins σ H s)(hf:∀b∈fp,FpOk X pins H b)(ho:∀b∈fp,∃o,s.heap.get? b=some o/\∀v,o.data≠.cell v):Inv X (pins++pinsAt fp s.heap) σ H s:=
 I.pins_of fun p hp=>(qE.mp hp).elim (fun z=>I.pin p (qQ _ z)) fun z=>by
  obtain⟨hb,e⟩:=a5A z;obtain⟨f0,f1,f2,_⟩:=hf p.1 hb;obtain⟨o,e',d⟩:=ho p.1 hb;rw[e] at e';cases e';exact⟨e,f0,f1,f2,d⟩
theorem Inv.unpinned {pins pl:List (Addr×Obj)}{σ:St}{H:Hp}{s:Shared}(I:Inv X (pins++pl) σ H s):Inv X pins σ H s:=I.pins_of fun p hp=>I.pin p (qQ _ (xG _ hp))
theorem b0M {iter:Expr}{body:List Stmt}{wi:TI}{g:TG}{tb:TS}{pos:Pos}(hp:PassesOwn (model X.prog X.w) X.A X.env X.xe)(hc:X.calm=true)(hi:PI X tg iter wi)(hg:PG X tg g)(hb:PSs X body tb)
  (hs:∀x,foldedSetIterable iter X.env x=pure x:=by intro _;rfl):PS X (.For tg iter body [] pos) (tFor wi g tb):=by
 intro pins s σ H D I h;refine wpAny_For (thn (hi pins s σ H _ I h) fun v s1 h1=>thn h1 fun itv s2 h2=>?_) hs;obtain⟨it,fp,tn,J,H2,e,I2,T,st2,f2,W,⟨m0,w0⟩,turn⟩:=h2;subst e;have stat:∀{H':Hp},(∀b∈fp,H' b=none)->∀b∈fp,FpOk X pins H' b:=fun hn b hb=>⟨hn b hb,(f2 b hb).2⟩;refine codeAny_forLoop_any (fun n s'=>∃i σ' H',Inv X pins σ' H' s'/\tn i s'.heap/\(∀b∈fp,H' b=none)/\W i n σ' H') ?_ m0 ⟨0,σ,H2,I2,st2,fun b hb=>(f2 b hb).1,w0⟩;rintro n s3 ⟨i,σ3,H3,I3,st3,fr3,w3⟩;rcases turn i n σ3 H3 w3 with ⟨stop,qn⟩|⟨go,N,hN,step⟩
 ·refine wpAny_passesOwn hp (thn (T.done X rfl rfl rfl hc i pins s3 σ3 H3 X.xe I3 (stat fr3) st3 stop) fun r s4 ⟨hr,I4⟩=>?_);subst hr;exact wpAny_execs_nil ⟨σ3,H3,I4,qn⟩
 ·refine wpAny_passesOwn hp (thn (T.item X rfl rfl rfl hc i pins s3 σ3 H3 X.xe I3 (stat fr3) st3 go) fun r s4 ⟨u,hr,h4⟩=>?_);subst hr;refine wpAny_passesOwn hp (thn h4 fun _ s5 ⟨x,H5,I5,r5,y5,st5,fr5⟩=>?_);have I5':=I5.pinned (stat fr5) (T.obj _ _ st5);refine wpAny_passesOwn hp (thn (hg _ s5 σ3 H5 x u _ I5' r5 (step x H5 y5)) fun _ s6 ⟨σ6,H6,I6,q6⟩=>?_);refine wpAny_passesOwn hp (thn (hb _ s6 σ6 H6 _ I6 q6) fun f s7 q7=>?_);have again:∀{σ7:St} {H7:Hp},Inv X (pins++pinsAt fp s5.heap) σ7 H7 s7->N σ7 H7->∃m,m<n/\∃i σ' H',Inv X pins σ' H' s7/\tn i s7.heap/\(∀b∈fp,H' b=none)/\W i m σ' H':=fun{σ7 H7} I7 n7=>by
   obtain⟨m',hm,w7⟩:=hN σ7 H7 n7;refine⟨m',hm,i+1,σ7,H7,I7.unpinned,T.keep _ _ _ st5 fun b hb o e=>(I7.pin (b,o) (qQ _ (qQ _ (J6 hb e)))).1,fun b hb=>?_,w7⟩;obtain⟨o,e,d⟩:=T.obj _ _ st5 b hb;exact(I7.pin (b,o) (qQ _ (qQ _ (J6 hb e)))).2.1
  cases f with
  | next=>obtain⟨σ7,H7,I7,n7⟩:=q7;exact again I7 n7
  | cont=>obtain⟨σ7,H7,I7,n7⟩:=q7;exact again I7 n7
  | brk=>obtain⟨σ7,H7,I7,q7⟩:=q7;exact⟨σ7,H7,I7.unpinned,q7⟩
  | ret v=>obtain⟨x7,σ7,H7,I7,r7,q7⟩:=q7;exact⟨x7,σ7,H7,I7.unpinned,r7,q7⟩
end
abbrev R2:=V->V->Hp->VK->Prop
def OpR (X:Cx) (f:Value->Value->Sem Value) (r:R2):Prop:=
 ∀(pins:List (Addr×Obj)) (s:Shared) (σ:St) (H:Hp) (x y:V) (v u:Value) (Q:VK),Inv X pins σ H s->RelV x v->RelV y u->r x y H Q->
  wpAny (model X.prog X.w) X.A (f v u) (EP X pins σ Q) X.xe s
def UnR (X:Cx) (f:Value->Sem Value) (r:V->Hp->VK->Prop):Prop:=
 ∀(pins:List (Addr×Obj)) (s:Shared) (σ:St) (H:Hp) (x:V) (v:Value) (Q:VK),Inv X pins σ H s->RelV x v->r x H Q->
  wpAny (model X.prog X.w) X.A (f v) (EP X pins σ Q) X.xe s
def CallR (X:Cx) (f:Value) (r:List V->Hp->VK->Prop):Prop:=
 ∀(pins:List (Addr×Obj)) (s:Shared) (σ:St) (H:Hp) (xs:List V) (us:List Value) (Q:VK),Inv X pins σ H s->Vals xs us->r xs H Q->
  wpAny (model X.prog X.w) X.A (call f us) (EP X pins σ Q) X.xe s
def TruR (X:Cx) (r:V->Hp->(Bool->Hp->Prop)->Prop):Prop:=
 ∀(pins:List (Addr×Obj)) (s:Shared) (σ:St) (H:Hp) (x:V) (v:Value) (Q:Bool->Hp->Prop),Inv X pins σ H s->RelV x v->r x H Q->
  wpAny (model X.prog X.w) X.A (truthy v) (TP X pins σ Q) X.xe s
def tOp (r:R2) (ta tb:TE):TE:=fun σ H Q=>ta σ H fun x H1=>tb σ H1 fun y H2=>r x y H2 Q
def tUn (r:V->Hp->VK->Prop) (ta:TE):TE:=fun σ H Q=>ta σ H fun x H1=>r x H1 Q
def rI (C:Int->Int->Prop) (g:Int->Int->V):R2:=fun x y H Q=>∃i j,x= .int i/\y= .int j/\C i j/\Q (g i j) H
def rI0 (g:Int->Int->V):R2:=fun x y H Q=>∃i j,x= .int i/\y= .int j/\Q (g i j) H
def rU (g:Int->V):V->Hp->VK->Prop:=fun x H Q=>∃i,x= .int i/\Q (g i) H
section
variable {X:Cx}{a b:Expr}{ta tb:TE}{pos:Pos}
theorem binT (ha:PE X a ta)(hb:PE X b tb){pins:List (Addr×Obj)}{s:Shared}{σ:St}{H:Hp}{R:V->V->Hp->Prop}(I:Inv X pins σ H s)
  (h:ta σ H fun x H1=>tb σ H1 fun y H2=>R x y H2) {Q:Value->Shared->Prop} {f:Value->Value->Sem Value}
  (hf:∀v u s2 x y H2,Inv X pins σ H2 s2->RelV x v->RelV y u->R x y H2->wpAny (model X.prog X.w) X.A (f v u) Q X.xe s2):
  wpAny (model X.prog X.w) X.A (eval a X.env) (fun v s₁=>wpAny (model X.prog X.w) X.A (eval b X.env) (fun u s₂=>wpAny (model X.prog X.w) X.A (f v u) Q X.xe s₂) X.xe s₁) X.xe s:=by
 refine thn (ha pins s σ H _ I h) fun v s1 h0=>ex5 h0 fun x H1 I1 r1 q1=>?_;refine thn (hb pins s1 σ H1 _ I1 q1) fun u s2 h0=>ex5 h0 fun y H2 I2 r2 q2=>?_;exact hf v u s2 x y H2 I2 r1 r2 q2
theorem pe_op {op:Operator}{r:R2}(ho:OpR X (binaryOp op) r)(ha:PE X a ta)(hb:PE X b tb):PE X (.BinOp a op b pos) (tOp r ta tb):=by
 intro pins s σ H Q I h;exact wpAny_BinOp (binT ha hb I h fun v u s2 x y H2 I2 rx ry q=>ho pins s2 σ H2 x y v u Q I2 rx ry q)
theorem pe_un {op:UnaryOp}{r:V->Hp->VK->Prop}(ho:UnR X (unaryOp op) r)(ha:PE X a ta):PE X (.UnaryOp op a pos) (tUn r ta):=by
 intro pins s σ H Q I h;exact UnaryOp_ (thn (ha pins s σ H _ I h) fun v s1 h0=>ex5 h0 fun x H1 I1 r1 q1=>ho pins s1 σ H1 x v Q I1 r1 q1)
theorem opI {f:Value->Value->Sem Value}{C:Int->Int->Prop}{g:Int->Int->Int}
  (rule:∀(i j:Int) (t u:Tok) (s:Shared) (Q:Value->Shared->Prop) (E:Value->Shared->Prop),C i j->Q (.int (g i j) s.toks) {s with toks:=s.toks+1}->wpAny (model X.prog X.w) X.A (f (.int i t) (.int j u)) Q E s):
  OpR X f (rI C fun i j=>.int (g i j)):=by
 intro pins s σ H x y v u Q I rx ry h;obtain⟨i,j,rfl,rfl,hc,q⟩:=h;obtain⟨t,rfl⟩:=rx;obtain⟨t',rfl⟩:=ry;exact rule i j t t' s _ _ hc ⟨.int (g i j),H,I.tok _,⟨_,rfl⟩,q⟩
theorem opI0 {f:Value->Value->Sem Value}{g:Int->Int->Int}
  (rule:∀(i j:Int) (t u:Tok) (s:Shared) (Q:Value->Shared->Prop) (E:Value->Shared->Prop),Q (.int (g i j) s.toks) {s with toks:=s.toks+1}->wpAny (model X.prog X.w) X.A (f (.int i t) (.int j u)) Q E s):
  OpR X f (rI0 fun i j=>.int (g i j)):=by
 intro pins s σ H x y v u Q I rx ry h;obtain⟨i,j,rfl,rfl,q⟩:=h;obtain⟨t,rfl⟩:=rx;obtain⟨t',rfl⟩:=ry;exact rule i j t t' s _ _ ⟨.int (g i j),H,I.tok _,⟨_,rfl⟩,q⟩
theorem opB0 {f:Value->Value->Sem Value}{g:Int->Int->Bool}
  (rule:∀(i j:Int) (t u:Tok) (s:Shared) (Q:Value->Shared->Prop) (E:Value->Shared->Prop),Q (.bool (g i j)) s->wpAny (model X.prog X.w) X.A (f (.int i t) (.int j u)) Q E s):
  OpR X f (rI0 fun i j=>.bl (g i j)):=by
 intro pins s σ H x y v u Q I rx ry h;obtain⟨i,j,rfl,rfl,q⟩:=h;obtain⟨t,rfl⟩:=rx;obtain⟨t',rfl⟩:=ry;exact rule i j t t' s _ _ ⟨.bl (g i j),H,I,rfl,q⟩
def CPow (i j:Int):Prop:=0<=j/\j<=1000000/\i.natAbs<2^64
theorem b0X:OpR X (binaryOp .Add) (rI0 fun i j=>.int (i+j)):=opI0 fun _ _ _ _ _ _ _ q=>add_int q
theorem b0Y:OpR X (binaryOp .Sub) (rI0 fun i j=>.int (i-j)):=opI0 fun _ _ _ _ _ _ _ q=>sub_int q
theorem b03:OpR X (binaryOp .Mod) (rI (fun _ j=>0<j) fun i j=>.int (i%j)):=opI fun i j _ _ _ _ _ hc q=>by
 have h1:(0:Int)<j:=hc;exact mod_int' (by walk_at "o") (by rw[Int.fmod_eq_emod_of_nonneg i (by walk_at "o")];exact q)
theorem b1l:OpR X (binaryOp .Pow) (rI CPow fun i j=>.int (i^j.toNat)):=opI fun _ _ _ _ _ _ _ hc q=>pow_int_small hc.1 hc.2.1 hc.2.2 q
theorem unI {f:Value->Sem Value}{g:Int->Int}
  (rule:∀(i:Int) (t:Tok) (s:Shared) (Q:Value->Shared->Prop) (E:Value->Shared->Prop),Q (.int (g i) s.toks) {s with toks:=s.toks+1}->wpAny (model X.prog X.w) X.A (f (.int i t)) Q E s):
  UnR X f (rU fun i=>.int (g i)):=by
 intro pins s σ H x v Q I rx h;obtain⟨i,rfl,q⟩:=h;obtain⟨t,rfl⟩:=rx;exact rule i t s _ _ ⟨.int (g i),H,I.tok _,⟨_,rfl⟩,q⟩
theorem b0v:UnR X (unaryOp .USub) (rU fun i=>.int (-i)):=unI fun _ _ _ _ _ q=>neg_int q
end
section
variable {X:Cx}{a b c:Expr}{ta tb:TE}{pos:Pos}
theorem op_lt:OpR X (compareOp .Lt) (rI0 fun i j=>.bl (decide (i<j))):=opB0 fun _ _ _ _ _ _ _ q=>lt_int q
theorem b0g:OpR X (compareOp .Gt) (rI0 fun i j=>.bl (decide (j<i))):=opB0 fun _ _ _ _ _ _ _ q=>gt_int q
theorem op_ge:OpR X (compareOp .GtE) (rI0 fun i j=>.bl (decide (j<=i))):=opB0 fun _ _ _ _ _ _ _ q=>ge_int q
theorem OpR.or {f:Value->Value->Sem Value}{r r':R2}(h:OpR X f r)(h':OpR X f r'):OpR X f (fun x y H Q=>r x y H Q\/r' x y H Q):=by
 intro pins s σ H x y v u Q I rx ry q;rcases q with q|q
 ·exact h pins s σ H x y v u Q I rx ry q
 ·exact h' pins s σ H x y v u Q I rx ry q
theorem nomark (b:Expr){op:CmpOp}(h:op≠.In:=by decide)(h2:op≠.NotIn:=by decide):behindInMarks op b=false:=by
 have e1:(op==CmpOp.In)=false:=by cases op<;>first|rfl|exact absurd rfl h
 have e2:(op==CmpOp.NotIn)=false:=by cases op<;>first|rfl|exact absurd rfl h2
 cases b<;>simp[behindInMarks,e1,e2]
theorem a8S {op:CmpOp}{r:R2}(ho:OpR X (compareOp op) r)(ha:PE X a ta)(hb:PE X b tb)(hm:behindInMarks op b=false):PE X (.Compare a [op] [b] pos) (tOp r ta tb):=by
 intro pins s σ H Q I h;exact wpAny_Compare1 (binT ha hb I h fun v u s2 x y H2 I2 rx ry q=>ho pins s2 σ H2 x y v u Q I2 rx ry q) hm
def tTest (t:TE):TT:=fun σ H Q=>t σ H fun x H'=>∃k,x= .bl k/\Q k H'
theorem a8O {op:CmpOp}{r:R2}(ho:OpR X (compareOp op) r)(ha:PE X a ta)(hb:PE X b tb)(hm:behindInMarks op b=false):PT X (.Compare a [op] [b] pos) (tTest (tOp r ta tb)):=by
 intro pins s σ H Q I h
 refine wpAny_isTrue_Compare1 (thn (ha pins s σ H _ I h) fun v s1 h0=>ex5 h0 fun x H1 I1 r1 q1=>thn (hb pins s1 σ H1 _ I1 q1) fun u s2 h0=>ex5 h0 fun y H2 I2 r2 q2=>
  thn (ho pins s2 σ H2 x y v u _ I2 r1 r2 q2) fun c s3 ⟨z,H3,I3,r3,k,e,q3⟩=>?_) hm
 subst e;cases r3;exact wpAny_truthy_bool ⟨H3,I3,q3⟩
def TruV (K:PySem.W.Frag) (x:V) (H:Hp) (k:Bool):Prop:=
 match x with
 | .non=>k=false
 | .bl b=>k=b
 | .int i=>k=(i != 0)
 | .str y=>y.length<=sizeLine/\k=((y.length:Int) != 0)
 | .byt y=>y.size<=sizeLine/\k=((y.size:Int) != 0)
 | .ref p=>(∃xs,SqL K H p xs/\k= !xs.isEmpty)\/(∃xs,SqT K H p xs/\k= !xs.isEmpty)\/∃kvs,H p=some (.dK kvs)/\k= !kvs.isEmpty
 | _=>False
theorem a3r {κ:Type}{kvs:List (κ×V)}{vs:List (κ×Value)}(r:KV kvs vs):(!vs.isEmpty)= !kvs.isEmpty:=by
 cases r<;>rfl
theorem a0e {xs:List V}{its:List Value}(r:Vals xs its):(!its.toArray.isEmpty)= !xs.isEmpty:=by
 cases r<;>simp
theorem line63:(sizeLine:Nat)<2^63:=by rw[xD];decide
theorem b1G:TruR X (fun x H Q=>∃k,TruV X.K x H k/\Q k H):=by
 intro pins s σ H x v Q I rx h;obtain⟨k,e,q⟩:=h;have hl:=line63;have hs:sizeLine=16777216:=xD;cases x with
 | non=>
  cases rx;have e':k=false:=e;subst e';exact truthy_none ⟨H,I,q⟩
 | bl b=>
  cases rx;have e':k=b:=e;subst e';exact wpAny_truthy_bool ⟨H,I,q⟩
 | int i=>
  obtain⟨t,rfl⟩:=rx;have e':k=(i != 0):=e;subst e';exact PySem.P.truthy_int ⟨H,I,q⟩
 | str y=>
  obtain⟨t,rfl⟩:=rx;obtain⟨hy,e'⟩:y.length<=sizeLine/\k=((y.length:Int) != 0):=e;subst e';exact PySem.P.truthy_str (by walk_at "o") ⟨H,I.tok _,q⟩
 | byt y=>
  obtain⟨t,rfl⟩:=rx;obtain⟨hy,e'⟩:y.size<=sizeLine/\k=((y.size:Int) != 0):=e;subst e';exact PySem.W.truthy_bytes (by walk_at "o") ⟨H,I.tok _,q⟩
 | ref p=>
  cases rx;have e':(∃xs,SqL X.K H p xs/\k= !xs.isEmpty)\/(∃xs,SqT X.K H p xs/\k= !xs.isEmpty)\/∃kvs,H p=some (.dK kvs)/\k= !kvs.isEmpty:=e;rcases e' with ⟨xs,hx,e'⟩|⟨xs,hx,e'⟩|⟨kvs,hx,e'⟩
  ·subst e';obtain⟨its,r,pl,hz⟩:=I.list hx;have hlen:=r.length;exact wpAny_truthy_list pl.isList (by simp only[zT];walk_at "o") ⟨H,I.tok _,by rw[a0e r];exact q⟩
  ·subst e';obtain⟨its,r,pl,hz⟩:=I.tuple hx;have hlen:=r.length;exact truthy_tuple pl (by simp only[zT];walk_at "o") ⟨H,I.tok _,by rw[a0e r];exact q⟩
  ·subst e';obtain⟨hz,hS,vs,r,m⟩:kvs.length<=sizeLine/\(p==sysModules)=false/\∃vs,KV kvs vs/\s.heap.DictAt (mixKind X.prog X.w) p vs kvs.length:=I.hok p _ hx;have hlen:kvs.length=vs.length:=xN r;exact wpAny_truthy_dict hS m.dictOf (by walk_at "o") ⟨H,I.tok _,by rw[a3r r];exact q⟩
 | _=>exact(show False from e).elim
theorem a7s (ha:PE X a ta)(he:∀whole,isTrue a X.env whole=(do let v <-whole;standAt a.pos;holding [v] (truthy v))):
  PT X a (fun σ H Q=>ta σ H fun x H'=>∃k,TruV X.K x H' k/\Q k H'):=by
 intro pins s σ H Q I h;exact isTrue_plain (thn (ha pins s σ H _ I h) fun v s1 h0=>ex5 h0 fun x H1 I1 r1 q1=>b1G pins s1 σ H1 x v Q I1 r1 q1) (he _)
theorem vals1 {x:V}{us:List Value}(r:Vals [x] us):∃u,us=[u]/\RelV x u:=by
 cases r with
 | cons r1 r2=>cases r2;exact⟨_,rfl,r1⟩
theorem vals2 {x y:V}{us:List Value}(r:Vals [x,y] us):∃u w',us=[u,w']/\RelV x u/\RelV y w':=by
 cases r with
 | cons r1 r2=>
  cases r2 with
  | cons r3 r4=>cases r4;exact⟨_,_,rfl,r1,r3⟩
theorem U6 (hc:X.calm=true):CallR X (.builtin "max") (fun xs H Q=>∃i j,xs=[.int i,.int j]/\Q (.int (if j>i then j else i)) H):=by
 intro pins s σ H xs us Q I r h;obtain⟨i,j,rfl,q⟩:=h;obtain⟨u,w',rfl,⟨t,rfl⟩,⟨t',rfl⟩⟩:=vals2 r;refine max_two_ints (I.ok.hd hc) fun h' tk k=>⟨_,H,I.kept k,?_,q⟩
 by_cases hj:j>i
 ·rw[if_pos hj,if_pos hj];exact⟨_,rfl⟩
 ·rw[if_neg hj,if_neg hj];exact⟨_,rfl⟩
theorem F8 (hc:X.calm=true):CallR X (.builtin "min") (fun xs H Q=>∃i j,xs=[.int i,.int j]/\Q (.int (if j<i then j else i)) H):=by
 intro pins s σ H xs us Q I r h;obtain⟨i,j,rfl,q⟩:=h;obtain⟨u,w',rfl,⟨t,rfl⟩,⟨t',rfl⟩⟩:=vals2 r;refine min_two_ints (I.ok.hd hc) fun h' tk k=>⟨_,H,I.kept k,?_,q⟩
 by_cases hj:j<i
 ·rw[if_pos hj,if_pos hj];exact⟨_,rfl⟩
 ·rw[if_neg hj,if_neg hj];exact⟨_,rfl⟩
end
theorem RelO.some_of {v:V}{o:Option Value}(r:RelO (some v) o):∃u,o=some u/\RelV v u:=by
 cases o with
 | none=>exact(show False from r).elim
 | some u=>exact⟨u,rfl,r⟩
structure Cls (K:PySem.W.Frag) (C:Addr):Prop where
 pg:PySem.W.plainGet K C Str.empty=true
 hd:PySem.W.hasDictIn K C=true
 po:PySem.W.plainOver K C=true
 sa:PySem.W.findIn K (.ref C) "__setattr__"=some (some (.builtin "object.__setattr__"))
section
variable {H:Hp}
inductive TyOf (K:PySem.W.Frag) (H:Hp):V->Value->Prop where
 | non:TyOf K H .non (.type "NoneType")
 | bl (x:Bool):TyOf K H (.bl x) (.type "bool")
 | int (i:Int):TyOf K H (.int i) (.type "int")
 | str (x:Str):TyOf K H (.str x) (.type "str")
 | flt (x:UInt64):TyOf K H (.flt x) (.type "float")
 | lst {a:Addr} {xs:List V} (e:H a=some (.lst xs)):TyOf K H (.ref a) (.type "list")
 | frz {a:Addr} {o:Obj} {xs:List V} (e:H a=some (.frz o (.lst xs))):TyOf K H (.ref a) (.type "list")
 | tup {a:Addr} {xs:List V} (e:H a=some (.tup xs)):TyOf K H (.ref a) (.type "tuple")
 | dK {a:Addr} {kvs:List (Key×V)} (e:H a=some (.dK kvs)):TyOf K H (.ref a) (.type "dict")
 | dT {a:Addr} {kvs:List (List Key×V)} (e:H a=some (.dT kvs)):TyOf K H (.ref a) (.type "dict")
 | ins {a C dx:Addr} {fs:List (Str×V)} (e:H a=some (.ins C dx fs)) (cl:Cls K C) (ha:PySem.W.findIn K (.ref C) "__class__"=some (some (.builtin "object.__class__")))
   (hn:PySem.W.specialIn K (.builtin "object.__class__") "__get__"=some (some (.builtin "getset_descriptor.__get__"))) (htk:PySem.W.takesIn K (.builtin "object.__class__")=some true)
   (hm:PySem.W.mroIn K C (.type "object")=some true):TyOf K H (.ref a) (.ref C)
end
structure Room (k:Nat) (A:Around):Prop where
 hd:A.handled=none
 dp:A.depth+3*k+5<recursionLimit
 un:A.units+16*k+200<cLine
 gd:A.guards=some []
theorem Room.mono {j k:Nat}{A:Around}(r:Room k A)(h:j<=k):Room j A:=⟨r.hd,by have:=r.dp;walk_at "o",by have:=r.un;walk_at "o",r.gd⟩
theorem Room.deeper {k:Nat}{A:Around}(r:Room (k+1) A)(env:Env):Room k (A.deeper env):=
 ⟨r.hd,by have:=r.dp;show A.depth+1+3*k+5<_;walk_at "o",by have:=r.un;show A.units+3+16*k+200<_;walk_at "o",r.gd⟩
theorem Room.depth {k:Nat}{A:Around}(r:Room k A):A.depth<recursionLimit:=by have:=r.dp;walk_at "o"
theorem Room.units {k:Nat}{A:Around}(r:Room k A):A.units+64<cLine:=by have:=r.un;walk_at "o"
def tNil:TA:=fun _ H Q=>Q [] H
def tCons (ta:TE) (tr:TA):TA:=fun σ H Q=>ta σ H fun x H1=>tr σ H1 fun xs H2=>Q (x::xs) H2
section
variable {X:Cx}{e:Expr}{es:List Expr}{te:TE}{t:TA}{pos:Pos}
theorem a6t:PA X [] tNil:=fun _ _ _ _ H Q I h=>Calls.spliced_nil ⟨[],H,I,.nil,h⟩
theorem a12 (ha:PE X e te)(hr:PA X es t)(hs:starEach (e::es) X.env=(false,eval e X.env)::starEach es X.env:=by rfl):PA X (e::es) (tCons te t):=by
 intro pos pins s σ H Q I h;rw[hs];show wpAny _ _ (spliced ((false,eval e X.env)::backTo pos (starEach es X.env))) _ _ s;refine Calls.spliced_cons (thn (ha pins s σ H _ I h) fun u s1 h0=>ex5 h0 fun x H1 I1 r1 q1=>?_);exact thn (hr pos pins s1 σ H1 _ I1 q1) fun us s2 h0=>ex5 h0 fun xs H2 I2 r2 q2=>⟨x::xs,H2,I2,.cons r1 r2,q2⟩
def tTup (t:TA):TE:=fun σ H Q=>t σ H fun xs H1=>xs.length<=sizeLine/\∀p,H1 p=none->Q (.ref p) (upd H1 p (.tup xs))
def tLst (t:TA):TE:=fun σ H Q=>t σ H fun xs H1=>xs.length<=sizeLine/\∀p,H1 p=none->Q (.ref p) (upd H1 p (.lst xs))
theorem a3D {x1}(h:PA X es t):PE X (.Tuple es x1 pos) (tTup t):=by
 intro pins s σ H Q I hq;refine wpAny_Tuple_spliced (thn (h pos pins s σ H _ I hq) fun us s1 ⟨xs,H1,I1,r,z,q⟩=>⟨by rw[<-r.length];exact z,?_⟩)
 have hf:H1 s1.heap.objs.size=none:=I1.hok.fresh (zD _);refine⟨.ref s1.heap.objs.size,upd H1 s1.heap.objs.size (.tup xs),I1.laid (t':=s1.toks) (fun b u e=>zE _ e) (zD _) ?_,rfl,q _ hf⟩;exact⟨z,us,r,TupN.new _ _⟩
theorem b1J (h:PA X es t):PE X (.List es pos) (tLst t):=by
 intro pins s σ H Q I hq;refine wpAny_List_spliced (thn (h pos pins s σ H _ I hq) fun us s1 ⟨xs,H1,I1,r,z,q⟩=>⟨by rw[<-r.length];exact z,?_⟩)
 have hf:H1 s1.heap.objs.size=none:=I1.hok.fresh (zD _);refine⟨.ref s1.heap.objs.size,upd H1 s1.heap.objs.size (.lst xs),I1.laid (t':=s1.toks) (fun b u e=>zE _ e) (zD _) ?_,rfl,q _ hf⟩;exact⟨z,us,0,r,qA _ rfl⟩
end
abbrev Sp:=List V->Hp->VK->XK->Prop
abbrev CXT:=List Env->Hp->Shared->XK->Value->Shared->Prop
structure Env0 (P:Program) (w:World) (K:PySem.W.Frag) (mg:Str->Option Value) (base:Heap) (A:Around) (outer:List Env) (s:Shared) (H:Hp):Prop where
 frames:A.frames=some outer
 mod:Mod K mg base
 bs:∀b o,base.get? b=some o->s.heap.get? b=some o/\H b=none
 bsz:base.objs.size<=s.heap.objs.size
 funs:s.heap.FunFrames base outer
 frf:∀b∈frs outer,H b=none
 hok:HOk P w H s.heap
 bare:AllBare s.gens
def CE (outer:List Env) (P:Program) (w:World) (H:Hp) (s:Shared) (Q:VK) (u:Value) (s':Shared):Prop:=
 ∃v H',s'.os=s.os/\AllBare s'.gens/\Un (frs outer) [] H H' s.heap s'.heap/\HOk P w H' s'.heap/\RelV v u/\Q v H'
def CR (CX:CXT) (outer:List Env) (P:Program) (w:World) (H:Hp) (s:Shared) (Q:VK) (E:XK) (r:Result) (s':Shared):Prop:=
 match r with
 | .ok (.ret u)=>CE outer P w H s Q u s'
 | .ok _=>False
 | .error e=>CX outer H s E e s'
structure FnOk (P:Program) (w:World) (K:PySem.W.Frag) (mg:Str->Option Value) (base:Heap) (CX:CXT) (k:Nat) (f:Addr) (fd:FuncData) (ps:List Str) (sp:Sp):Prop where
 len:∀vs H Q E,sp vs H Q E->vs.length=ps.length
 run:∀(A:Around) (outer:List Env) (s:Shared) (H:Hp) (args:Args) (us:List Value) (vs:List V) (Q:VK) (E:XK),Room k A->Env0 P w K mg base A outer s H->BindsTo s fd args (ps.zip us)->Vals vs us->sp vs H Q E->
  codeAny (model P w) A (.call (.ref f) args) (CR CX outer P w H s Q E) s
theorem FnOk.mono {P:Program}{w:World}{K:PySem.W.Frag}{mg:Str->Option Value}{base:Heap}{CX:CXT}{j k:Nat}{f:Addr}{fd:FuncData}{ps:List Str}{sp:Sp}(F:FnOk P w K mg base CX j f fd ps sp)(h:j<=k):
  FnOk P w K mg base CX k f fd ps sp:=⟨F.len,fun A outer s H args us vs Q E hr=>F.run A outer s H args us vs Q E (hr.mono h)⟩
section
variable {X:Cx}{pins:List (Addr×Obj)}{σ:St}{H:Hp}{s s':Shared}
theorem Inv.env0 (I:Inv X pins σ H s):Env0 X.prog X.w X.K X.mg X.base X.A X.stack s H:=
 ⟨I.ok.frames,I.ok.mod,I.bs,zQ I.ok.bsz I.sz,I.stack,I.stkFree,I.hok,I.bare⟩
theorem Inv.after {Q:VK}{u:Value}(I:Inv X pins σ H s)(h:CE X.stack X.prog X.w H s Q u s'):EP X pins σ Q u s':=by
 obtain⟨v,H',os,bare,un,hok,r,q⟩:=h;obtain⟨hh,g,d,t,os'⟩:=s';obtain rfl:os'=s.os:=os;exact⟨v,H',I.call (h':=hh) (g':=g) (d':=d) (t':=t) (ch:=[]) un hok bare (fun b z=>absurd z (by simp)),r,q⟩
end
def tCall (sp:Sp) (dvs:List V) (E:XK) (t:TA):TE:=fun σ H Q=>t σ H fun vs H1=>sp (vs++dvs) H1 Q E
def Binds (K:PySem.W.Frag) (fd:FuncData) (ps:List Str) (ds:List Value):Prop:=
 ∀(s:Shared) (us:List Value),K.In s.heap->(us++ds).length=ps.length->BindsTo s fd ⟨us,[]⟩ (ps.zip (us++ds))
theorem Binds.all {K:PySem.W.Frag}{fd:FuncData}{ps:List Str}(h:∀us:List Value,us.length=ps.length->bindArgs fd ⟨us,[]⟩=pure (ps.zip us)):Binds K fd ps []:=fun s us _ hl=>by
 rw[jZ] at hl ⊢;exact .of_eq (h us hl)
def Passes (CX:CXT) (X:Cx) (E:XK):Prop:=∀(pins:List (Addr×Obj)) (σ:St) (H:Hp) (s:Shared) (e:Value) (s':Shared),Inv X pins σ H s->CX X.stack H s E e s'->X.xe e s'
section
variable {X:Cx}{CX:CXT}{k:Nat}{f:Addr}{fd:FuncData}{ps:List Str}{sp:Sp}{dvs:List V}{ds:List Value}{E:XK}{x:Str}{p pos:Pos}{e:Expr}{es:List Expr}{t:TA}
theorem b1z {pins:List (Addr×Obj)}{σ:St}{H:Hp}{s:Shared}{Q:VK}{us:List Value}{vs:List V}(F:FnOk X.prog X.w X.K X.mg X.base CX k f fd ps sp)(hr:Room k X.A)(hb:Binds X.K fd ps ds)(hd:Vals dvs ds)(hx:Passes CX X E)
  (I:Inv X pins σ H s) (r:Vals vs us) (h:sp (vs++dvs) H Q E):wpAny (model X.prog X.w) X.A (call (.ref f) us) (EP X pins σ Q) X.xe s:=by
 have r2:Vals (vs++dvs) (us++ds):=r.append hd;have hl:(us++ds).length=ps.length:=by rw[<-r2.length];exact F.len _ _ _ _ h
 refine wpAny_call (codeAny_mono (F.run X.A X.stack s H ⟨us,[]⟩ (us++ds) (vs++dvs) Q E hr I.env0 (hb s us I.kIn hl) r2 h) fun r s' hq=>?_);cases r with
 | error e=>exact hx pins σ H s e s' I hq
 | ok fl=>
  cases fl with
  | ret u=>exact I.after hq
  | next=>exact False.elim hq
  | brk=>exact False.elim hq
  | cont=>exact False.elim hq
theorem a4W (F:FnOk X.prog X.w X.K X.mg X.base CX k f fd ps sp)(hr:Room k X.A)(hg:Gl X x)(hm:X.mg x=some (.ref f))(hk:PySem.W.keepIn X.K (.ref f)=true)(hb:Binds X.K fd ps ds)(hd:Vals dvs ds)(hx:Passes CX X E)
  (ha:PA X (e::es) t) (hdb:(x==("__debug__":Str))=false:=by decide) (he:starEach (e::es) X.env=(false,eval e X.env)::starEach es X.env:=by rfl) (hpl:(backTo pos (starEach es X.env)).any (·.1)=false:=by rfl):
  PE X (.Call (.Name x p) (e::es) [] pos) (tCall sp dvs E t):=by
 intro pins s σ H Q I h;refine yT (a8k I hg hm ?_ hdb);refine PySem.W.callWith_K (h₀:=X.base) I.ok.mod.kin hk (thn (ha pos pins s σ H _ I h) fun us s1 h0=>ex5 h0 fun vs H1 I1 r q=>⟨I1.kIn,?_⟩) he hpl;exact b1z F hr hb hd hx I1 r q
end
structure FnScope (N P:List Str) (sc:Scope):Prop where
 kind:sc.kind= .function
 co:sc.isCoroutine=false
 gen:sc.isGenerator=false
 nd:N.Nodup
 pre:N.take P.length=P
 par:∀x∈P,sc.names.lookup x=some .local\/sc.names.lookup x=some .cell
 nofree:∀y∈sc.names,y.2≠.free
theorem a1e {kindOf:Str->Option NameKind}{x:Str}:∀{binds:List (Str×Value)} {m:Str->Option Value},(∀v,(x,v)∉binds)->bindL kindOf binds m x=m x
 | [],_,_=>rfl
 | (n,v)::r,m,h=>by
  unfold bindL;rw[a1e fun w hw=>h w (zL _ hw)]
  split
  ·have:x≠n:=by rintro rfl;exact h v zM
   simp[this]
  ·rfl
theorem a09 {kindOf:Str->Option NameKind}{x:Str}:∀{binds:List (Str×Value)} {m:Str->Option Value},(∀v,(x,v)∉binds)->bindC kindOf binds m x=m x
 | [],_,_=>rfl
 | (n,v)::r,m,h=>by
  unfold bindC;rw[a09 fun w hw=>h w (zL _ hw)]
  split
  ·rfl
  ·have:x≠n:=by rintro rfl;exact h v zM
   simp[this]
theorem a0R {kindOf:Str->Option NameKind}{x:Str}{v:Value}:∀{P:List Str} {vs:List Value} {i:Nat} {m:Str->Option Value},P.Nodup->P[i]? =some x->vs[i]? =some v->kindOf x=some .local->
  bindL kindOf (P.zip vs) m x=some v
 | [],_,_,_,_,h,_,_=>by simp at h
 | _::_,[],_,_,_,_,h,_=>by simp at h
 | p::P,w::vs,0,m,nd,h1,h2,hk=>by
  simp at h1 h2;subst h1;subst h2;show bindL kindOf ((p,w)::P.zip vs) m p=_;unfold bindL;rw[a1e fun v hv=>(nodup_cons.mp nd).1 (of_mem_zip hv).1,if_pos hk];simp
 | p::P,w::vs,i+1,m,nd,h1,h2,hk=>by
  show bindL kindOf ((p,w)::P.zip vs) m x=_;unfold bindL;exact a0R (i:=i) (nodup_cons.mp nd).2 (by simpa using h1) (by simpa using h2) hk
theorem a0J {kindOf:Str->Option NameKind}{x:Str}{v:Value}:∀{P:List Str} {vs:List Value} {i:Nat} {m:Str->Option Value},P.Nodup->P[i]? =some x->vs[i]? =some v->kindOf x≠some .local->
  bindC kindOf (P.zip vs) m x=some v
 | [],_,_,_,_,h,_,_=>by simp at h
 | _::_,[],_,_,_,_,h,_=>by simp at h
 | p::P,w::vs,0,m,nd,h1,h2,hk=>by
  simp at h1 h2;subst h1;subst h2;show bindC kindOf ((p,w)::P.zip vs) m p=_;unfold bindC;rw[a09 fun v hv=>(nodup_cons.mp nd).1 (of_mem_zip hv).1,if_neg hk];simp
 | p::P,w::vs,i+1,m,nd,h1,h2,hk=>by
  show bindC kindOf ((p,w)::P.zip vs) m x=_;unfold bindC;exact a0J (i:=i) (nodup_cons.mp nd).2 (by simpa using h1) (by simpa using h2) hk
def start (N:List Str) (vs:List V):St:=vs.map some++List.replicate (N.length-vs.length) none
def cxOf (CX:CXT) (P:Program) (w:World) (K:PySem.W.Frag) (mg:Str->Option Value) (base:Heap) (N:List Str) (qual:Str) (scope:Scope) (f:Addr) (cd:Value) (A:Around) (outer:List Env) (s:Shared) (H:Hp) (E:XK):Cx where
 prog:=P
 w:=w
 K:=K
 mg:=mg
 base:=base
 A:=A.deeper (envOfC qual scope s.heap.objs.size f cd)
 N:=N
 s₀:=s
 H₀:=H
 env:=envOfC qual scope s.heap.objs.size f cd
 outer:=outer
 stack:=envOfC qual scope s.heap.objs.size f cd::outer
 ex:=[]
 calm:=true
 fn:=fun _=>true
 pn:=[]
 xe:=fun e s'=>wpAny (model P w) (A.deeper (envOfC qual scope s.heap.objs.size f cd)) (leaving (envOfC qual scope s.heap.objs.size f cd) e) (fun _ s''=>CX outer H s E e s'') (fun e' s''=>CX outer H s E e' s'') s'
theorem a2Y {sc:Scope}{n:Nat}{x:Str}(h:sc.names.lookup x=some .cell):∃c,(cellsFrom n sc.names []).lookup x=some c:=by
 have q:=PySem.W.cellsFrom_some sc.names n [] (.inl h);exact isSome_iff_exists.mp q
theorem a5J {CX:CXT}{P:Program}{w:World}{K:PySem.W.Frag}{mg:Str->Option Value}{base:Heap}{N ps:List Str}{qual:Str}{scope:Scope}{f:Addr}{cd:Value}{A:Around}{outer:List Env}{s s1:Shared}{H:Hp}{E:XK}{us:List Value}{vs:List V}
  (S:FnScope N ps scope) (hd:A.handled=none) (e0:Env0 P w K mg base A outer s H) (hl:vs.length=ps.length) (r:Vals vs us)
  (x:InCallC s s.heap.objs.size (bindL (envOfC qual scope s.heap.objs.size f cd).kindOf (ps.zip us) fun _=>none) (cellsFrom (s.heap.objs.size+1) scope.names []) (bindC (envOfC qual scope s.heap.objs.size f cd).kindOf (ps.zip us) fun _=>none) s1):
  Inv (cxOf CX P w K mg base N qual scope f cd A outer s H E) [] (start N vs) H s1:=by
 have hpl:ps.length<=N.length:=by have:=congrArg List.length S.pre;rw[qK] at this;walk_at "o"
 obtain⟨h1,tk,rfl,hk⟩:=x.done;have noA:∀b:Addr,b∉(cxOf CX P w K mg base N qual scope f cd A outer s H E).ex:=fun b z=>absurd (show b∈([]:List Addr) from z) (by simp)
 refine⟨⟨e0.mod,S.kind,rfl,rfl,zD _,fun y z c h1 h2=>?_,fun y hy=>?_,fun y c _ h=>?_,fun _=>hd,Around.frames_deeper e0.frames,.inr ⟨rfl,rfl⟩,fun b z=>absurd z (noA b),e0.bs,e0.bsz,fun b _ _=>noA b,fun b z=>absurd z (noA b),e0.funs,e0.frf⟩,
  rfl,e0.bare,Un.kept hk,⟨_,x.toInCall.ns,fun i y v h1 h2 h3=>?_⟩,fun y c h=>⟨_,x.cell y c h⟩,e0.hok.fresh (zD _),fun y c h=>?_,fun p hp=>absurd (show p∈([]:List (Addr×Obj)) from hp) (by simp),e0.hok.kept hk,?_⟩
 ·exact name_of_addr x.apart (yN h1) (yN h2)
 ·have hy:scope.names.lookup y=some .cell\/scope.names.lookup y=some .free:=hy;rcases hy with hy|hy
  ·exact a2Y hy
  ·exact absurd rfl (S.nofree _ (yN hy))
 ·exact Nat.le_of_lt (x.above y c (yN h))
 ·have hi:i<vs.length:=by
   unfold start at h2
   by_cases hi:i<vs.length
   ·exact hi
   ·rw[qI (by simpa using hi)] at h2
    rw[List.getElem?_replicate] at h2;split at h2<;>cases h2
  have ha:vs[i]? =some v:=by
   unfold start at h2;rw[qG (by simpa using hi),qH] at h2
   cases e:vs[i]? with
   | none=>rw[e] at h2;cases h2
   | some a=>rw[e] at h2;cases h2;rfl
  obtain⟨u,hu,rv⟩:=r.get ha;have hp:ps[i]? =some y:=by
   rw[<-S.pre,List.getElem?_take_of_lt (by walk_at "o")];exact h1
  have ndP:ps.Nodup:=by rw[<-S.pre];exact S.nd.sublist (take_sublist _ _)
  refine⟨u,rv,?_⟩;rcases S.par y (xE hp) with k|k
  ·exact .inl ⟨k,a0R ndP hp hu k⟩
  ·obtain⟨c,e⟩:=a2Y (n:=s.heap.objs.size+1) k;refine .inr ⟨.inl k,c,e,?_⟩;have q:=x.cell y c e;rw[a0J ndP hp hu (by show scope.names.lookup y≠_;rw[k];decide)] at q
   exact q
 ·exact e0.hok.fresh (Nat.le_of_lt (x.above y c (yN h)))
 ·unfold start;show _=N.length;rw[zH,zB,List.length_replicate];walk_at "o"
theorem fn_of {CX:CXT}{P:Program}{w:World}{K:PySem.W.Frag}{mg:Str->Option Value}{base:Heap}{k:Nat}{f:Addr}{name qual:Str}{params:Arguments}{body:List Stmt}{scope:Scope}{dV kV doc pm cdv ct oc:Value}{an od:Option Addr}
  {osl:Array (Option Value)} {N ps:List Str} {sp:Sp} (lk:K.lookup f=some ⟨oc,od,.func (PySem.W.fnOf name qual params body scope dV kV doc pm an cdv ct),osl⟩) (hcd:PySem.W.codeIn K cdv qual=true) (S:FnScope N ps scope)
  (len:∀vs H Q E,sp vs H Q E->vs.length=ps.length)
  (hbody:∀(A:Around) (outer:List Env) (s:Shared) (H:Hp) (vs:List V) (Q:VK) (E:XK),Room k (A.deeper (envOfC qual scope s.heap.objs.size f cdv))->sp vs H Q E->
   ∃t,PSs (cxOf CX P w K mg base N qual scope f cdv A outer s H E) body t/\t {nx:=fun _ H'=>Q .non H',rt:=Q} (start N vs) H):
  FnOk P w K mg base CX (k+1) f (PySem.W.fnOf name qual params body scope dV kV doc pm an cdv ct) ps sp:=by
 refine⟨len,fun A outer s H args us vs Q E hr e0 hb r hsp=>?_⟩;have hl:=len _ _ _ _ hsp;have KX:K.In s.heap:=e0.mod.kin.keeps fun b o e=>(e0.bs b o e).1;have lim:s.heap.NoLimit:=e0.mod.nolimit.keeps fun b o e=>(e0.bs b o e).1;have hkind:∀y∈ps.zip us,scope.names.lookup y.1=some .local\/(scope.names.lookup y.1=some .cell/\((cellsFrom (s.heap.objs.size+1) scope.names []).lookup y.1).isSome=true):=fun⟨n,v⟩ hy=>by
  rcases S.par n (of_mem_zip hy).1 with q|q
  ·exact .inl q
  ·exact .inr ⟨q,PySem.W.cellsFrom_some _ _ _ (.inl q)⟩
 refine codeAny_call_function hr.depth (KX _ _ lk) rfl S.co S.gen rfl (PySem.W.codeRec_of KX hcd) (hb _ _ _ _ ?_);refine wpAny_newFunctionEnv_cells S.kind hkind fun env he s1 x=>?_;subst he;refine⟨lim.keeps x.toInCall.keep,codeAny_func ?_⟩;obtain⟨t,ht,hq⟩:=hbody A outer s H vs Q E (hr.deeper _) hsp;have I:Inv (cxOf CX P w K mg base N qual scope f cdv A outer s H E) [] (start N vs) H s1:=a5J S hr.hd e0 hl r x;refine zZ (ht [] s1 (start N vs) H _ I hq) (fun fl s' hs=>?_) fun e s' hs=>hs;have fin:∀{σ':St} {H':Hp} {v:V} {u:Value},Inv (cxOf CX P w K mg base N qual scope f cdv A outer s H E) [] σ' H' s'->RelV v u->Q v H'->CE outer P w H s Q u s':=
  fun{σ' H' v u} J rv q=>⟨v,H',J.os,J.bare,J.base,J.hok,rv,q⟩
 cases fl with
 | ret u=>
  obtain⟨v,σ',H',J,rv,q⟩:=hs;exact fin J rv q
 | next=>
  obtain⟨σ',H',J,q⟩:=hs;exact fin (v:=V.non) (u:=Value.none) J rfl q
 | brk=>
  obtain⟨_,_,_,q⟩:=hs;exact False.elim q
 | cont=>
  obtain⟨_,_,_,q⟩:=hs;exact False.elim q
section
variable {X:Cx}{x:Str}{p pos:Pos}{e:Expr}{es:List Expr}{t:TA}{id T:String}{r:List V->Hp->VK->Prop}
def tCB (r:List V->Hp->VK->Prop) (t:TA):TE:=fun σ H Q=>t σ H fun vs H1=>r vs H1 Q
theorem a2U (hc:CallR X (.builtin id) r)(hg:Gl X x)(hm:X.mg x=none)(hv:bootBuiltins x=some (.builtin id))(ha:PA X (e::es) t)(hn:x≠"__name__":=by decide)(hdb:(x==("__debug__":Str))=false:=by decide)
  (he:starEach (e::es) X.env=(false,eval e X.env)::starEach es X.env:=by rfl) (hpl:(backTo pos (starEach es X.env)).any (·.1)=false:=by rfl):PE X (.Call (.Name x p) (e::es) [] pos) (tCB r t):=by
 intro pins s σ H Q I h;refine yT (J5 I hg hm hv ?_ hn hdb);exact PyProof.Rows.callWith_builtin1 (thn (ha pos pins s σ H _ I h) fun us s1 h0=>ex5 h0 fun vs H1 I1 r1 q1=>hc pins s1 σ H1 vs us Q I1 r1 q1) he hpl
theorem a5G (hc:CallR X (.type T) r)(hg:Gl X x)(hm:X.mg x=none)(hv:bootBuiltins x=some (.type T))(ha:PA X (e::es) t)(hn:x≠"__name__":=by decide)(hdb:(x==("__debug__":Str))=false:=by decide)
  (he:starEach (e::es) X.env=(false,eval e X.env)::starEach es X.env:=by rfl) (hpl:(backTo pos (starEach es X.env)).any (·.1)=false:=by rfl):PE X (.Call (.Name x p) (e::es) [] pos) (tCB r t):=by
 intro pins s σ H Q I h;refine yT (J5 I hg hm hv ?_ hn hdb);exact jF (thn (ha pos pins s σ H _ I h) fun us s1 h0=>ex5 h0 fun vs H1 I1 r1 q1=>hc pins s1 σ H1 vs us Q I1 r1 q1) he hpl
end
end L2
namespace HT
open PySem PyProof.Rows
def lexLt:List Int->List Int->Bool
 | [],[]=>false
 | [],_::_=>true
 | _::_,[]=>false
 | x::xs,y::ys=>if x=y then lexLt xs ys else decide (x<y)
theorem lexLt_cons (x y:Int)(xs ys:List Int):lexLt (x::xs) (y::ys)=if x=y then lexLt xs ys else decide (x<y):=rfl
theorem a0I:lexLt [] []=false:=rfl
theorem a0u (y:Int)(ys:List Int):lexLt [] (y::ys)=true:=rfl
theorem a0C (x:Int)(xs:List Int):lexLt (x::xs) []=false:=rfl
theorem a6l (A:Around)(s:Shared)(a:Int)(t:Tok)(c:Int)(u:Tok):∃e,SeqAt.EqAt A s (.int a t) (.int c u) e/\(e=true↔a=c):=
 ⟨(a==c),SeqAt.EqAt.int_int a t c u,by simp⟩
theorem a5Z (A:Around)(s:Shared)(a:Int)(t:Tok)(c:Int)(u:Tok)(prog:Program)(w:World)(E:Value->Shared->Prop)(Q:Value->Shared->Prop)(h:Q (.bool (decide (a<c))) s):
  wpAny (model prog w) A (richCompare .Lt (.int a t) (.int c u)) Q E s:=
 (PyProof.Rows.lt_int h:wpAny (model prog w) A (compareOp .Lt (.int a t) (.int c u)) Q E s)
section
open PySem.SeqAt
open PySem.AutoSeq1 (wpAny_loadPart')
open PySem.MeetsSeq PySem.MeetsSeq2 PySem.MeetsSeq3
theorem a0G (l b:Addr)(items items2:Array Value)(n n2:Nat)(dd dd2:Option Addr)(sl sl2:Array (Option Value))(ns ms:List Int)(hi:IntsAre items.toList ns)(hj:IntsAre items2.toList ms):
  Meets (Builtin.«tuple.__lt__» ⟨[.ref l,.ref b],[]⟩)
   (fun _ R s=>s.heap.get? l=some {cls:=.type "tuple",dict:=dd,data:=.seq items n,slots:=sl}/\s.heap.get? b=some {cls:=.type "tuple",dict:=dd2,data:=.seq items2 n2,slots:=sl2}/\
    R (.ok (.ret (.bool (lexLt ns ms)))) s):=
 .of_wp fun prog w A R s h=>by
  obtain⟨hp,g,d,tk,os⟩:=s;obtain⟨hl,hb,h⟩:=h;have f2:=AutoSeq1.sub_tuple_tuple;have z1:items.size=ns.length:=by rw[<-hi.length];simp
  have z2:items2.size=ms.length:=by rw[<-hj.length];simp
  wp_walk using wpAny_loadPart' hl,wpAny_loadPart' hb,wpAny_forIn_list _ (fun rest b s'=>b.1=none/\s'=⟨hp,g,d,tk,os⟩/\∃(vs ws:List Value) (ns' ms':List Int),rest=vs.zip ws/\
   IntsAre vs ns'/\IntsAre ws ms'/\ns'.length+items2.size=ms'.length+items.size/\R (.ok (.ret (.bool (lexLt ns' ms')))) ⟨hp,g,d,tk,os⟩) _
  case turn=>
   rintro⟨y,x⟩ rest b s' ⟨hb',rfl,vs,ws,ns',ms',hz,hvi,hwi,hlen,hR⟩;cases hvi with
   | nil=>rw[zip_nil_left] at hz;cases hz
   | cons a t hvi'=>
    cases hwi with
    | nil=>rw[List.zip_nil_right] at hz;cases hz
    | cons c u hwi'=>
     rw[jN] at hz;injection hz with hyx hrest
     injection hyx with hy hx
     subst hy hx;rw[lexLt_cons] at hR;simp only[qB] at hlen;obtain⟨e,he,hiff⟩:=a6l A.in1 ⟨hp,g,d,tk,os⟩ a t c u;refine zA (he prog w _ _ ?_);cases e with
     | true=>
      rw[if_pos (hiff.mp rfl)] at hR
      wp_walk
      exact⟨rfl,rfl,_,_,_,_,hrest,hvi',hwi',by walk_at "o",hR⟩
     | false=>
      rw[if_neg (fun q=>absurd (hiff.mpr q) qD)] at hR;have hri:=a5Z A.in1 ⟨hp,g,d,tk,os⟩ a t c u prog w
      wp_walk using hri
      exact⟨_,rfl,by simpa using hR⟩
  case fin=>
   rintro⟨b1,b2⟩ s' ⟨hb',rfl,vs,ws,ns',ms',hz,hvi,hwi,hlen,hR⟩;simp only at hb';subst hb';have hv:lexLt ns' ms'=decide (items.size<items2.size):=by
    cases hvi with
    | nil=>
     cases hwi with
     | nil=>
      simp only[yI] at hlen;rw[a0I];exact(qM (by walk_at "o")).symm
     | cons c u hw=>
      simp only[yI,qB] at hlen;rw[a0u];exact(qO (by walk_at "o")).symm
    | cons a t hv=>
     cases hwi with
     | nil=>
      simp only[yI,qB] at hlen;rw[a0C];exact(qM (by walk_at "o")).symm
     | cons c u hw=>
      rw[jN] at hz;cases hz
   rw[hv] at hR
   wp_walk
   exact⟨_,rfl,by simpa [Builtin.Tuple.tupleCompareSizes] using hR⟩
  case h=>
   exact⟨rfl,rfl,items.toList,items2.toList,ns,ms,rfl,hi,hj,by walk_at "o",h⟩
end
section
variable {prog:Program}{w:World}{A:Around}{E:Value->Shared->Prop}{s:Shared}
theorem lt_tupInts {l b:Addr}{items items2:Array Value}{ns ms:List Int}{Q:Value->Shared->Prop}(hl:IsTup s.heap l items)(hb:IsTup s.heap b items2)(hi:IntsAre items.toList ns)(hj:IntsAre items2.toList ms)
  (hu:A.units<cLine) (h:Q (.bool (lexLt ns ms)) s):wpAny (model prog w) A (compareOp .Lt (.ref l) (.ref b)) Q E s:=by
 obtain⟨⟨cls,dd,data,sl⟩,ho,hc,n,hd⟩:=id hl;obtain⟨⟨cls2,dd2,data2,sl2⟩,ho2,hc2,n2,hd2⟩:=id hb;simp only at hc hd hc2 hd2;subst hc hd hc2 hd2;exact richCompare_meets_room (op:=.Lt) ⟨_,ho,rfl⟩ ⟨_,ho2,rfl⟩ PySem.F.slot_tuple_lt PySem.F.entry_tuple_lt (PySem.F.args_tuple_lt_2 _ _) (a0G l b items items2 n n2 dd dd2 sl sl2 ns ms hi hj)
  ⟨ho,ho2,show Value.bool (lexLt ns ms)≠Value.notImplemented/\Q (.bool (lexLt ns ms)) s from⟨(fun x=>nomatch x),h⟩⟩ hu
theorem cat_tup {t b:Addr}{vs ws:List Value}{Q:Value->Shared->Prop}(ht:IsTup s.heap t vs.toArray)(hb:IsTup s.heap b ws.toArray)(hv:vs≠[])
  (h1:ws=[]->Q (.ref t) s) (h2:ws≠[]->Q (.ref s.heap.objs.size) {s with heap:=s.heap.push {cls:=.type "tuple",data:=.seq (vs++ws).toArray}})
  (hsz:vs.length+ws.length<=sizeLine):wpAny (model prog w) A (binaryOp .Add (.ref t) (.ref b)) Q E s:=by
 obtain⟨⟨cls,dd,data,sl⟩,ho,hc,n,hd⟩:=id ht;obtain⟨⟨cls2,dd2,data2,sl2⟩,ho2,hc2,n2,hd2⟩:=id hb;simp only at hc hd hc2 hd2;subst hc hd hc2 hd2;have e:vs.toArray++ws.toArray=(vs++ws).toArray:=by simp
 by_cases hw:ws=[]
 ·exact concat_meets ⟨_,ho,rfl⟩ ⟨_,ho2,rfl⟩ noFill_tuple_add seq_tuple_add PySem.F.slot_tuple_add PySem.F.entry_tuple_add (PySem.F.args_tuple_add_2 _ _)
   (tuple_addW1 t b vs.toArray ws.toArray n n2 dd dd2 sl sl2 (by simpa using hv) (by simp[hw])) ⟨ho,ho2,h1 hw⟩
 ·refine concat_meets ⟨_,ho,rfl⟩ ⟨_,ho2,rfl⟩ noFill_tuple_add seq_tuple_add PySem.F.slot_tuple_add PySem.F.entry_tuple_add (PySem.F.args_tuple_add_2 _ _)
   (tuple_addW2 t b vs.toArray ws.toArray n n2 dd dd2 sl sl2 (by simpa using hv) (by simpa using hw) (by rw[zT,zT];exact hsz)) ⟨ho,ho2,?_⟩
  rw[e];exact h2 hw
def sIx (n d:Nat):Option Int->Nat
 | none=>d
 | some v=>if v<0 then(v+(n:Int)).toNat else min v.toNat n
theorem b1i (n d:Nat)(hd:d<=n)(o:Option Int):sIx n d o<=n:=by
 cases o with
 | none=>exact hd
 | some v=>
  show(if v<0 then(v+(n:Int)).toNat else min v.toNat n)<=n
  by_cases hv:v<0
  ·rw[if_pos hv];walk_at "o"
  ·rw[if_neg hv];exact Nat.min_le_right _ _
theorem a4S (v:Int)(n d:Nat):(if v<0 then max (v+(n:Int)) 0 else min v (n:Int))=((sIx n d (some v):Nat):Int):=by
 show(if v<0 then max (v+(n:Int)) 0 else min v (n:Int))=(((if v<0 then(v+(n:Int)).toNat else min v.toNat n):Nat):Int)
 by_cases hv:v<0
 ·simp only[if_pos hv];walk_at "o"
 ·simp only[if_neg hv];walk_at "o"
theorem a3H (lo hi:Option Int)(n:Nat):Builtin.Slice.sliceAdjust lo hi 1 (n:Int)=(((sIx n 0 lo:Nat):Int),((sIx n n hi:Nat):Int)):=by
 have h1:¬((1:Int)<0):=by walk_at "o"
 unfold Builtin.Slice.sliceAdjust;simp only[h1,xF];refine Prod.ext ?_ ?_
 ·cases lo with
  | none=>rfl
  | some v=>exact a4S v n 0
 ·cases hi with
  | none=>rfl
  | some v=>exact a4S v n n
theorem a3c (i j:Nat):Builtin.Slice.slicePlaces (i:Int) (j:Int) 1=j-i:=by
 unfold Builtin.Slice.slicePlaces;have h1:(1:Int)>0:=by walk_at "o"
 simp only[h1,jL,Int.ediv_one]
 split<;>walk_at "o"
theorem a0n {v:Value}{o:Option Int}{Q:Option Int->Shared->Prop}(p:IsPart v o)(h:Q o s):wpAny (model prog w) A (Builtin.Slice.slicePartIndex v) Q E s:=by
 cases p with
 | none=>exact slicePart_none h
 | int i t=>exact slicePart_int h
theorem sliceApplied_gen {sl:Addr}{vl vu:Value}{lo hi:Option Int}{n:Nat}{Q:Int×Int×Nat->Shared->Prop}(hs:s.heap.IsSliceOf sl vl vu .none)(pl:IsPart vl lo)(pu:IsPart vu hi)
  (h:Q (((sIx n 0 lo:Nat):Int),1,sIx n n hi-sIx n 0 lo) s):wpAny (model prog w) A (Builtin.Slice.sliceApplied (.ref sl) (pure (n:Int))) Q E s:=by
 obtain⟨os,hos,hcs,hds⟩:=id hs;unfold Builtin.Slice.sliceApplied Builtin.Slice.sliceFields;refine zA (zA (jM hos hds (x:=vl) rfl (zA (jM hos hds (x:=vu) rfl (zA (jM hos hds (x:=.none) rfl (zC ?_)))))));refine zA (slicePart_none ?_);show wpAny _ _ (if((1:Int)==0)=true then _ else _) _ _ s;rw[if_neg (by decide)]
 refine zA (a0n pl (zA (a0n pu (zA (zC ?_)))));show wpAny _ _ (match Builtin.Slice.sliceAdjust lo hi 1 (n:Int) with|(lo,hi)=>pure (lo,(1:Int),Builtin.Slice.slicePlaces lo hi 1)) _ _ s
 rw[a3H lo hi n];show wpAny _ _ (pure (((sIx n 0 lo:Nat):Int),(1:Int),Builtin.Slice.slicePlaces ((sIx n 0 lo:Nat):Int) ((sIx n n hi:Nat):Int) 1)) _ _ s;rw[a3c];exact zC h
theorem a6r (xs:Array Value)(i k:Nat):((List.range k).filterMap fun(m:Nat)=>xs[((i:Int)+(m:Int)*1).toNat]?).toArray=((xs.toList.drop i).take k).toArray:=by
 have e:(fun(m:Nat)=>xs[((i:Int)+(m:Int)*1).toNat]?)=fun m=>xs[i+m]?:=by
  funext m
  have:((i:Int)+(m:Int)*1).toNat=i+m:=by walk_at "o"
  rw[this]
 rw[e]
 have:=pick_run xs i k
 rw[List.filterMap_map] at this;have e2:((fun x=>xs[x]?)∘fun x=>i+x)=fun m=>xs[i+m]?:=rfl;rw[e2] at this;rw[this]
theorem getItem_tuple_cut {t sl:Addr}{items:Array Value}{vl vu:Value}{lo hi:Option Int}{Q:Value->Shared->Prop}(ht:IsTup s.heap t items)(hs:s.heap.IsSliceOf sl vl vu .none)(pl:IsPart vl lo)(pu:IsPart vu hi)
  (hw:¬(sIx items.size 0 lo=0/\sIx items.size items.size hi=items.size))
  (h:Q (.ref s.heap.objs.size) {s with heap:=s.heap.push {cls:=.type "tuple",data:=.seq ((items.toList.drop (sIx items.size 0 lo)).take (sIx items.size items.size hi-sIx items.size 0 lo)).toArray}})
  (hsz:items.size<=sizeLine):wpAny (model prog w) A (getItem (.ref t) (.ref sl)) Q E s:=by
 have htake:sizeOk (.seq ((items.toList.drop (sIx items.size 0 lo)).take (sIx items.size items.size hi-sIx items.size 0 lo)).toArray):=by
  show((items.toList.drop (sIx items.size 0 lo)).take (sIx items.size items.size hi-sIx items.size 0 lo)).toArray.size<=sizeLine;rw[zT,qK,length_drop,zK];omega
 have hj:sIx items.size items.size hi<=items.size:=b1i _ _ (zD _) hi;obtain⟨os,hos,hcs,hds⟩:=id hs;have hTs:s.TypeIs (.ref sl) "slice":=⟨os,hos,hcs⟩;unfold getItem
 try with_reducible refine qN ?_
 first|refine zA (zC ?_)|skip
 refine zA (wpAny_sequenceKey ht.typeIs (by decide) ?_)
 refine zA (qT (name:=Str.ofString "__getitem__") ht.typeIs jH
  (qV jH ht.typeIs entry_tuple_getitem ?_ (args_tuple_getitem _ _)))
 show wpAny _ _ (Builtin.Tuple.tupleItemsOf (.ref t) >>=_) _ _ s;refine zA (tupleItemsOf_ ht ?_);refine zA (wpAny_typeOf hTs ?_);rw[if_pos (by decide)]
 refine zA (sliceApplied_gen hs pl pu ?_);have hno:¬((((sIx items.size 0 lo:Nat):Int)==0&&(1:Int)==1&&(sIx items.size items.size hi-sIx items.size 0 lo)==items.size)=true):=by
  intro q;rw[qR,qR] at q;have q1:((sIx items.size 0 lo:Nat):Int)=0:=eq_of_beq q.1.1;have q2:sIx items.size items.size hi-sIx items.size 0 lo=items.size:=eq_of_beq q.2;exact hw ⟨by omega,by omega⟩
 show wpAny _ _ (if(((sIx items.size 0 lo:Nat):Int)==0&&(1:Int)==1&&(sIx items.size items.size hi-sIx items.size 0 lo)==items.size)=true then _ else _) _ _ s;rw[if_neg hno,a6r]
 first
  | exact zA (m:=Builtin.Tuple.tupleExact _) (jG (zC ⟨_,rfl,zC h⟩) htake)
  | exact zA (m:=Builtin.Tuple.tupleExact _) (jG (zA (zC (zC ⟨_,rfl,zC h⟩))) htake)
  | exact zA (zA (m:=Builtin.Tuple.tupleExact _) (jG (zC (zC ⟨_,rfl,zC h⟩)) htake))
  | exact zA (zA (m:=Builtin.Tuple.tupleExact _) (jG (zC ⟨_,rfl,zC h⟩) htake))
end
end HT
namespace L2
open PySem PySem.Spec PyProof.Rows
abbrev TO:=St->Hp->(Option Int->Hp->Prop)->Prop
def PO (X:Cx) (e:Option Expr) (t:TO):Prop:=
 ∀(pins:List (Addr×Obj)) (s:Shared) (σ:St) (H:Hp) (Q:Option Int->Hp->Prop),Inv X pins σ H s->t σ H Q->
  wpAny (model X.prog X.w) X.A (evalPart e X.env) (fun u s'=>∃o H',Inv X pins σ H' s'/\IsPart u o/\Q o H') X.xe s
def tNoPart:TO:=fun _ H Q=>Q none H
def tPart (t:TE):TO:=fun σ H Q=>t σ H fun x H1=>∃i,x= .int i/\Q (some i) H1
theorem E1 {ns:List Int}:∀{us:List Value},Vals (ns.map V.int) us->IntsAre us ns:=by
 induction ns with
 | nil=>intro us r;rw[yL] at r;cases r;exact .nil
 | cons n ns ih=>
  intro us r;rw[zP] at r;cases r with
  | cons r1 r2=>
   obtain⟨t,e⟩:=r1;subst e;exact .cons n t (ih r2)
section
variable {X:Cx}{e:Expr}{te:TE}{lo hi:Option Expr}{tl th:TO}{pos p2:Pos}
theorem a84:PO X none tNoPart:=by
 intro pins s σ H Q I h;rw[evalPart_none];exact zC ⟨none,H,I,.none,h⟩
theorem a8l (h:PE X e te):PO X (some e) (tPart te):=by
 intro pins s σ H Q I hw;rw[evalPart_some];refine thn (h pins s σ H _ I hw) fun u s1 h0=>ex5 h0 fun x H1 I1 r1 q1=>?_;obtain⟨i,rfl,q⟩:=q1;obtain⟨t,rfl⟩:=r1;exact⟨some i,H1,I1,.int i t,q⟩
def SlR (X:Cx) (r:V->Option Int->Option Int->Hp->VK->Prop):Prop:=
 ∀(pins:List (Addr×Obj)) (s:Shared) (σ:St) (H:Hp) (x:V) (v vl vu:Value) (lo hi:Option Int) (sl:Addr) (Q:VK),Inv X pins σ H s->RelV x v->s.heap.IsSliceOf sl vl vu .none->IsPart vl lo->IsPart vu hi->r x lo hi H Q->
  ∃T id,typeLookup (.type T) "__getitem__"=pure (some (.builtin id))/\s.TypeIs v T/\wpAny (model X.prog X.w) X.A (getItem v (.ref sl)) (EP X pins σ Q) X.xe s
theorem SlR.or {r r':V->Option Int->Option Int->Hp->VK->Prop}(h:SlR X r)(h':SlR X r'):SlR X (fun x lo hi H Q=>r x lo hi H Q\/r' x lo hi H Q):=by
 intro pins s σ H x v vl vu lo hi sl Q I rx hs pl pu q;rcases q with q|q
 ·exact h pins s σ H x v vl vu lo hi sl Q I rx hs pl pu q
 ·exact h' pins s σ H x v vl vu lo hi sl Q I rx hs pl pu q
def tSl (r:V->Option Int->Option Int->Hp->VK->Prop) (te:TE) (tl th:TO):TE:=fun σ H Q=>te σ H fun x H1=>tl σ H1 fun l H2=>th σ H2 fun u H3=>r x l u H3 Q
theorem a62 {r:V->Option Int->Option Int->Hp->VK->Prop}(hr:SlR X r)(he:PE X e te)(hl:PO X lo tl)(hu:PO X hi th):PE X (.Subscript e (.Slice lo hi none p2) pos) (tSl r te tl th):=by
 intro pins s σ H Q I h;refine Subscript_ (thn (he pins s σ H _ I h) fun v s1 h0=>ex5 h0 fun x H1 I1 r1 q1=>?_);refine wpAny_Slice (thn (hl pins s1 σ H1 _ I1 q1) fun vl s2 ⟨l,H2,I2,pl,q2⟩=>thn (hu pins s2 σ H2 _ I2 q2) fun vu s3 ⟨u,H3,I3,pu,q3⟩=>?_);rw[evalPart_none];refine zC ?_;have I4:Inv X pins σ H3 {s3 with heap:=s3.heap.push {cls:=.type "slice",data:=.fields #[vl,vu,.none]}}:=I3.kept (t':=s3.toks) fun b ob q=>zE _ q
 obtain⟨T,id,hT,ht,hg⟩:=hr pins {s3 with heap:=s3.heap.push {cls:=.type "slice",data:=.fields #[vl,vu,.none]}} σ H3 x v vl vu l u s3.heap.objs.size Q I4 r1 (Heap.IsSliceOf.new ..) pl pu q3
 show wpAny (model X.prog X.w) X.A (subscriptTail e (.Slice lo hi none p2) v (.ref s3.heap.objs.size)) (EP X pins σ Q) X.xe {s3 with heap:=s3.heap.push {cls:=.type "slice",data:=.fields #[vl,vu,.none]}}
 exact tail_any (ops:=[.ref s3.heap.objs.size,v]) ht hT hg (by with_unfolding_all rfl)
def cutV (xs:List V) (lo hi:Option Int):List V:=(xs.drop (HT.sIx xs.length 0 lo)).take (HT.sIx xs.length xs.length hi-HT.sIx xs.length 0 lo)
theorem Y0 (xs:List V)(lo hi:Option Int):(cutV xs lo hi).length<=xs.length:=by
 unfold cutV;rw[qK,length_drop];walk_at "o"
def rSlT (K:PySem.W.Frag):V->Option Int->Option Int->Hp->VK->Prop:=fun x lo hi H Q=>∃a xs,x= .ref a/\SqT K H a xs/\
 ¬(HT.sIx xs.length 0 lo=0/\HT.sIx xs.length xs.length hi=xs.length)/\∀p,H p=none->Q (.ref p) (upd H p (.tup (cutV xs lo hi)))
theorem b0W:SlR X (rSlT X.K):=by
 intro pins s σ H x v vl vu lo hi sl Q I rx hs pl pu h;obtain⟨a,xs,rfl,hx,hw,q⟩:=h;cases rx;obtain⟨its,r,ht,hz⟩:=I.tuple hx;have hlen:its.toArray.size=xs.length:=by rw[zT];exact r.length.symm
 refine⟨"tuple",_,PyProof.Rows.slot_tuple_getitem.lookup,ht.typeIs,?_⟩;refine HT.getItem_tuple_cut ht hs pl pu (by rw[hlen];exact hw) ?_ (by rw[hlen];exact hz)
 rw[hlen];refine⟨.ref s.heap.objs.size,_,I.laid (t':=s.toks) (o:=.tup (cutV xs lo hi)) (fun b ob q=>zE _ q) (zD _) ?_,rfl,q _ (I.hok.fresh (zD _))⟩;exact⟨zQ (Y0 xs lo hi) hz,_,(r.drop (HT.sIx xs.length 0 lo)).take (HT.sIx xs.length xs.length hi-HT.sIx xs.length 0 lo),TupN.new _ _⟩
def rLtT (K:PySem.W.Frag):R2:=fun x y H Q=>∃a b ns ms,x= .ref a/\y= .ref b/\SqT K H a (ns.map V.int)/\SqT K H b (ms.map V.int)/\Q (.bl (HT.lexLt ns ms)) H
theorem b1o (hu:X.A.units<cLine):OpR X (compareOp .Lt) (rLtT X.K):=by
 intro pins s σ H x y v u Q I rx ry h;obtain⟨a,b,ns,ms,rfl,rfl,ha,hb,q⟩:=h;cases rx;cases ry;obtain⟨its,r1,p1,_⟩:=I.tuple ha;obtain⟨its2,r2,p2,_⟩:=I.tuple hb;have i1:IntsAre its.toArray.toList ns:=E1 r1;have i2:IntsAre its2.toArray.toList ms:=E1 r2;exact HT.lt_tupInts p1 p2 i1 i2 hu ⟨.bl (HT.lexLt ns ms),H,I,rfl,q⟩
def rCatT (K:PySem.W.Frag):R2:=fun x y H Q=>∃a b xs ys,x= .ref a/\y= .ref b/\SqT K H a xs/\SqT K H b ys/\xs≠[]/\xs.length+ys.length<=sizeLine/\
 (ys=[]->Q (.ref a) H)/\(ys≠[]->∀p,H p=none->Q (.ref p) (upd H p (.tup (xs++ys))))
theorem Vals.nil_iff {xs:List V}{us:List Value}(r:Vals xs us):us=[]↔xs=[]:=by
 cases r with
 | nil=>simp
 | cons _ _=>simp
theorem a3M:OpR X (binaryOp .Add) (rCatT X.K):=by
 intro pins s σ H x y v u Q I rx ry h;obtain⟨a,b,xs,ys,rfl,rfl,ha,hb,hx,hz,q1,q2⟩:=h;cases rx;cases ry;obtain⟨its,r1,p1,_⟩:=I.tuple ha;obtain⟨its2,r2,p2,_⟩:=I.tuple hb;refine HT.cat_tup p1 p2 (fun z=>hx (r1.nil_iff.mp z)) (fun z=>⟨.ref a,H,I,rfl,q1 (r2.nil_iff.mp z)⟩) (fun z=>?_) (by rw[<-r1.length,<-r2.length];exact hz)
 refine⟨.ref s.heap.objs.size,_,I.laid (t':=s.toks) (o:=.tup (xs++ys)) (fun b ob q=>zE _ q) (zD _) ?_,rfl,q2 (fun w=>z (r2.nil_iff.mpr w)) _ (I.hok.fresh (zD _))⟩;exact⟨by rw[zH];exact hz,_,r1.append r2,TupN.new _ _⟩
end
def ixN (n:Nat) (i:Int):Option Nat:=if 0<=i then(if i<n then some i.toNat else none) else if -(n:Int)<=i then some (i+n).toNat else none
def atI {α:Type} (xs:List α) (i:Int):Option α:=(ixN xs.length i).bind fun j=>xs[j]?
theorem a4D {n:Nat}{i:Int}{j:Nat}(h:ixN n i=some j):seqIndex? i n=some j/\j<n/\-(n:Int)<=i/\i<n:=by
 unfold ixN at h
 by_cases h0:0<=i
 ·rw[if_pos h0] at h
  by_cases h1:i<n
  ·rw[if_pos h1] at h;have e:i.toNat=j:=jB h;exact⟨by rw[seqIndex_of h0 h1,e],by walk_at "o",by walk_at "o",h1⟩
  ·rw[if_neg h1] at h;cases h
 ·rw[if_neg h0] at h
  by_cases h1:-(n:Int)<=i
  ·rw[if_pos h1] at h;have e:(i+n).toNat=j:=jB h;exact⟨by rw[seqIndex_neg (by walk_at "o") h1,e],by walk_at "o",h1,by walk_at "o"⟩
  ·rw[if_neg h1] at h;cases h
theorem a1F {α:Type}{xs:List α}{i:Int}{v:α}(h:atI xs i=some v):∃j,seqIndex? i xs.length=some j/\xs[j]? =some v/\j<xs.length/\-(xs.length:Int)<=i/\i<xs.length:=by
 unfold atI at h;cases e:ixN xs.length i with
 | none=>rw[e] at h;cases h
 | some j=>
  rw[e] at h;obtain⟨h1,h2,h3,h4⟩:=a4D e;exact⟨j,h1,h,h2,h3,h4⟩
theorem v6 {α:Type}{xs:List α}{j:Nat}{v:α}(h:xs[j]? =some v):atI xs (j:Int)=some v:=by
 have hj:j<xs.length:=(zO.mp h).1;have e:ixN xs.length (j:Int)=some j:=by
  unfold ixN;rw[if_pos (by walk_at "o"),if_pos (by walk_at "o")];simp
 unfold atI;rw[e];exact h
def PlainIx (b:Expr):Prop:=∀o i,subscripted b false o i=operate [o,i] (getItem o i)
def IxR (X:Cx) (r:R2):Prop:=
 ∀(value slice:Expr) (pins:List (Addr×Obj)) (s:Shared) (σ:St) (H:Hp) (x y:V) (v u:Value) (Q:VK),Inv X pins σ H s->RelV x v->RelV y u->r x y H Q->
  subscripted slice false v u=operate [v,u] (getItem v u)->wpAny (model X.prog X.w) X.A (subscriptTail value slice v u) (EP X pins σ Q) X.xe s
def MtR (X:Cx) (id:String) (r:V->List V->Hp->VK->Prop):Prop:=
 ∀(pins:List (Addr×Obj)) (s:Shared) (σ:St) (H:Hp) (x:V) (xs:List V) (v:Value) (us:List Value) (Q:VK),Inv X pins σ H s->RelV x v->Vals xs us->r x xs H Q->
  wpAny (model X.prog X.w) X.A (call (.builtin id) (v::us)) (EP X pins σ Q) X.xe s
section
variable {X:Cx}{a b:Expr}{ta tb:TE}{pos:Pos}
theorem IxR.or {r r':R2}(h:IxR X r)(h':IxR X r'):IxR X (fun x y H Q=>r x y H Q\/r' x y H Q):=by
 intro value slice pins s σ H x y v u Q I rx ry q hs;rcases q with q|q
 ·exact h value slice pins s σ H x y v u Q I rx ry q hs
 ·exact h' value slice pins s σ H x y v u Q I rx ry q hs
theorem pe_ix {r:R2}(hr:IxR X r)(ha:PE X a ta)(hb:PE X b tb)(hs:PlainIx b):PE X (.Subscript a b pos) (tOp r ta tb):=by
 intro pins s σ H Q I h;exact Subscript_ (binT ha hb I h fun v u s2 x y H2 I2 rx ry q=>hr a b pins s2 σ H2 x y v u Q I2 rx ry q (hs _ _))
def rIxL (K:PySem.W.Frag):R2:=fun x y H Q=>∃p xs i v,x= .ref p/\y= .int i/\SqL K H p xs/\atI xs i=some v/\Q v H
def rIxT (K:PySem.W.Frag):R2:=fun x y H Q=>∃p xs i v,x= .ref p/\y= .int i/\SqT K H p xs/\atI xs i=some v/\Q v H
def rIxS:R2:=fun x y H Q=>∃z i c,x= .str z/\y= .int i/\z.length<=sizeLine/\atI z.cps.toList i=some c/\Q (.str ⟨#[c]⟩) H
theorem a8G:IxR X (rIxL X.K):=by
 intro value slice pins s σ H x y v u Q I rx ry h hs;obtain⟨p,xs,i,z,rfl,rfl,hq,he,q⟩:=h;cases rx;obtain⟨t,rfl⟩:=ry;obtain⟨its,r,pl,hz⟩:=I.list hq;obtain⟨j,h1,h2,h3,h4,h5⟩:=a1F he;obtain⟨w,ew,rw'⟩:=r.get h2;have hl:=r.length;have hn:=line63;have fin:EP X pins σ Q w s:=⟨z,H,I,rw',q⟩
 by_cases h0:0<=i
 ·have hj:i.toNat=j:=by
   rw[seqIndex_of h0 h5] at h1;exact jB h1
  exact item_listR pl.isList h0 (by walk_at "o") (by rw[hj];simpa using ew) fin hs
 ·have hj:(i+(its.toArray.size:Int)).toNat=j:=by
   rw[seqIndex_neg (by walk_at "o") h4] at h1
   rw[zT,<-hl];exact jB h1
  exact yW (x:=w) pl.isList.typeIs slot_list_getitem.lookup
   (wpAny_getItem_list_neg (Q:=fun r s'=>r=w/\EP X pins σ Q r s') pl.isList (by walk_at "o") (by rw[zT]<;>walk_at "o") (by walk_at "o") (by rw[hj];simpa using ew) ⟨rfl,fin⟩) hs
theorem b0Z:IxR X (rIxT X.K):=by
 intro value slice pins s σ H x y v u Q I rx ry h hs;obtain⟨p,xs,i,z,rfl,rfl,hq,he,q⟩:=h;cases rx;obtain⟨t,rfl⟩:=ry;obtain⟨its,r,pl,hz⟩:=I.tuple hq;obtain⟨j,h1,h2,h3,h4,h5⟩:=a1F he;obtain⟨w,ew,rw'⟩:=r.get h2;have hl:=r.length;have hn:=line63;have fin:EP X pins σ Q w s:=⟨z,H,I,rw',q⟩;exact yW (x:=w) pl.typeIs slot_tuple_getitem.lookup
  (getItem_tuple (j:=j) (Q:=fun r s'=>r=w/\EP X pins σ Q r s') pl (by walk_at "o") (by walk_at "o") (by rw[zT,<-hl];exact h1) (by simpa using ew) ⟨rfl,fin⟩) hs
theorem b0G:IxR X rIxS:=by
 intro value slice pins s σ H x y v u Q I rx ry h hs;obtain⟨z,i,c,rfl,rfl,hz,he,q⟩:=h;obtain⟨t,rfl⟩:=rx;obtain⟨t',rfl⟩:=ry;obtain⟨j,h1,h2,h3,h4,h5⟩:=a1F he;have hl:z.cps.toList.length=z.length:=by simp[Str.length]
 rw[hl] at h1 h4 h5;have hn:=line63
 exact tail_any (typeIs_str s z t) slot_str_getitem.lookup (getItem_str (c:=c) (by
  have e1:decide (i < -(2^63:Int))=false:=qM (by walk_at "o")
  have e2:decide (i≥2^63)=false:=qM (by walk_at "o")
  rw[e1,e2,Bool.or_false]) (by rw[h1];simpa using h2) ⟨.str ⟨#[c]⟩,H,I.tok _,⟨_,rfl⟩,q⟩) hs
def rIx (K:PySem.W.Frag):R2:=fun x y H Q=>rIxL K x y H Q\/rIxT K x y H Q\/rIxS x y H Q
theorem b00:IxR X (rIx X.K):=a8G.or (b0Z.or b0G)
theorem a3l (its:List Value)(n j:Nat)(u:Value):Obj.mapSeq (·.setIfInBounds j u) {cls:=.type "list",data:=.seq its.toArray n}={cls:=.type "list",data:=.seq (its.set j u).toArray n}:=by
 simp[Obj.mapSeq]
theorem Inv.lst {pins:List (Addr×Obj)}{σ:St}{H:Hp}{s:Shared}{p:Addr}{xs:List V}(I:Inv X pins σ H s)(h:H p=some (.lst xs)):
  ∃(its:List Value) (n:Nat),Vals xs its/\s.heap.get? p=some {cls:=.type "list",data:=.seq its.toArray n}/\xs.length<=sizeLine:=by
 obtain⟨z,its,n,r,e⟩:=I.hok p _ h;exact⟨its,n,r,e,z⟩
theorem Inv.lstUpd {pins:List (Addr×Obj)}{σ:St}{H:Hp}{s:Shared}{p:Addr}{xs ys:List V}{its its':List Value}{n n':Nat}{f:Obj->Obj}(I:Inv X pins σ H s)(h:H p=some (.lst xs))
  (ho:s.heap.get? p=some {cls:=.type "list",data:=.seq its.toArray n}) (hf:f {cls:=.type "list",data:=.seq its.toArray n}={cls:=.type "list",data:=.seq its'.toArray n'}) (r:Vals ys its') (hz:ys.length<=sizeLine) (t:Nat):
  Inv X pins σ (upd H p (.lst ys)) {s with heap:=s.heap.update p f,toks:=t}:=by
 have e:(s.heap.update p f).get? p=some {cls:=.type "list",data:=.seq its'.toArray n'}:=by
  rw[xU f ho (by rw[hf]<;>rfl),hf]
 refine I.write (x:=p) (e:=p) (by rw[h];trivial) (.inl rfl) (fun b u hb q=>(Heap.get?_update_other _ _ (jE hb)).trans q) ⟨_,e⟩ ?_
 exact⟨hz,its',n',r,e⟩
def rSetL:V->V->V->Hp->(Hp->Prop)->Prop:=fun o i v H Q=>∃p xs k j,o= .ref p/\i= .int k/\H p=some (.lst xs)/\ixN xs.length k=some j/\Q (upd H p (.lst (xs.set j v)))
theorem a7g:PSet X rSetL:=by
 intro pins s σ H o i v ov iv u Q I ro ri rv h;obtain⟨p,xs,k,j,rfl,rfl,hp,hj,q⟩:=h;cases ro;obtain⟨t,rfl⟩:=ri;obtain⟨its,n,r,ho,hz⟩:=I.lst hp;obtain⟨h1,h2,h3,h4⟩:=a4D hj;have hl:=r.length;have hn:=line63;have I':Inv X pins σ (upd H p (.lst (xs.set j v))) {s with heap:=s.heap.update p (Obj.mapSeq (·.setIfInBounds j u))}:=
  I.lstUpd hp ho (a3l its n j u) (r.set rv j) (by rw[length_set];exact hz) s.toks
 by_cases h0:0<=k
 ·have hk:k.toNat=j:=by
   rw[seqIndex_of h0 h4] at h1;exact jB h1
  exact PySem.W.ki_setAt ho h0 (by walk_at "o") (by rw[zT,<-hl];exact h4) (by rw[hk];exact⟨_,I',q⟩)
 ·have hk:(k+(its.toArray.size:Int)).toNat=j:=by
   rw[seqIndex_neg (by walk_at "o") h3] at h1
   rw[zT,<-hl];exact jB h1
  exact PySem.W.ki_setBack ho (by walk_at "o") (by rw[zT,<-hl];exact h3) (by walk_at "o") (by rw[hk];exact⟨_,I',q⟩)
theorem a1G (lo hi:Option Int)(n:Nat):(sliceBounds lo hi none n).1=((HT.sIx n 0 lo:Nat):Int)/\(sliceBounds lo hi none n).2.1=((HT.sIx n n hi:Nat):Int)/\(sliceBounds lo hi none n).2.2=1:=by
 refine⟨?_,?_,rfl⟩
 ·cases lo with
  | none=>simp[sliceBounds,HT.sIx]
  | some i=>
   simp only[sliceBounds,HT.sIx,getD_none,show(1:Int)>0 by decide,jL]
   by_cases h:i<0
   ·simp only[h,jL]<;>walk_at "o"
   ·simp only[h,xF]<;>walk_at "o"
 ·cases hi with
  | none=>simp[sliceBounds,HT.sIx]
  | some i=>
   simp only[sliceBounds,HT.sIx,getD_none,show(1:Int)>0 by decide,jL]
   by_cases h:i<0
   ·simp only[h,jL]<;>walk_at "o"
   ·simp only[h,xF]<;>walk_at "o"
theorem a0H (its:List Value)(lo hi:Option Int):slicePick its.toArray lo hi none=((its.drop (HT.sIx its.length 0 lo)).take (HT.sIx its.length its.length hi-HT.sIx its.length 0 lo)).toArray:=by
 obtain⟨h1,h2,h3⟩:=a1G lo hi its.toArray.size;unfold slicePick;rw[h1,h2,h3];simp only[sliceRange_one,pick_run,zT]<;>rfl
def rSlL (K:PySem.W.Frag):V->Option Int->Option Int->Hp->VK->Prop:=fun x lo hi H Q=>∃a xs,x= .ref a/\SqL K H a xs/\∀p,H p=none->Q (.ref p) (upd H p (.lst (cutV xs lo hi)))
theorem a8u:SlR X (rSlL X.K):=by
 intro pins s σ H x v vl vu lo hi sl Q I rx hs pl pu h;obtain⟨a,xs,rfl,hx,q⟩:=h;cases rx;obtain⟨its,r,ht,hz⟩:=I.list hx;have hlen:=r.length;refine⟨"list",_,slot_list_getitem.lookup,ht.isList.typeIs,?_⟩;refine wpAny_getItem_list_slice ht.isList hs pl pu .none (by simp) ?_ (by rw[zT]<;>walk_at "o")
 rw[a0H,<-hlen];refine⟨.ref s.heap.objs.size,_,I.laid (t':=s.toks) (o:=.lst (cutV xs lo hi)) (fun b ob q=>zE _ q) (zD _) ?_,rfl,q _ (I.hok.fresh (zD _))⟩;exact⟨zQ (Y0 xs lo hi) hz,_,0,(r.drop (HT.sIx xs.length 0 lo)).take (HT.sIx xs.length xs.length hi-HT.sIx xs.length 0 lo),qA _ rfl⟩
def flatV:V->Bool
 | .non=>true
 | .bl _=>true
 | .int _=>true
 | .str _=>true
 | _=>false
def eqV:V->V->Bool
 | .non,.non=>true
 | .bl a,.bl b=>a==b
 | .bl a,.int b=>(if a then 1 else 0)==b
 | .int a,.bl b=>a==(if b then 1 else 0)
 | .int a,.int b=>a==b
 | .str a,.str b=>a==b
 | _,_=>false
theorem b0T {A:Around}{s:Shared}{y x:V}{u v:Value}(ry:RelV y u)(rx:RelV x v)(fy:flatV y=true)(fx:flatV x=true):SeqAt.EqAt A s u v (eqV y x):=by
 cases y with
 | non=>
  cases ry;cases x with
  | non=>cases rx;exact SeqAt.EqAt.same _
  | bl b=>cases rx;exact SeqAt.EqAt.none_bool b
  | int b=>obtain⟨t,rfl⟩:=rx;exact SeqAt.EqAt.none_int b t
  | str b=>obtain⟨t,rfl⟩:=rx;exact SeqAt.EqAt.none_str b t
  | _=>exact absurd (show false=true from fx) qD
 | bl a=>
  cases ry;cases x with
  | non=>cases rx;exact SeqAt.EqAt.bool_none a
  | bl b=>cases rx;exact SeqAt.EqAt.bool_bool a b
  | int b=>obtain⟨t,rfl⟩:=rx;exact SeqAt.EqAt.bool_int a b t
  | str b=>obtain⟨t,rfl⟩:=rx;exact SeqAt.EqAt.bool_str a b t
  | _=>exact absurd (show false=true from fx) qD
 | int a=>
  obtain⟨t',rfl⟩:=ry;cases x with
  | non=>cases rx;exact SeqAt.EqAt.int_none a t'
  | bl b=>cases rx;exact SeqAt.EqAt.int_bool a t' b
  | int b=>obtain⟨t,rfl⟩:=rx;exact SeqAt.EqAt.int_int a t' b t
  | str b=>obtain⟨t,rfl⟩:=rx;exact SeqAt.EqAt.int_str a t' b t
  | _=>exact absurd (show false=true from fx) qD
 | str a=>
  obtain⟨t',rfl⟩:=ry;cases x with
  | non=>cases rx;exact SeqAt.EqAt.str_none a t'
  | bl b=>cases rx;exact SeqAt.EqAt.str_bool a t' b
  | int b=>obtain⟨t,rfl⟩:=rx;exact SeqAt.EqAt.str_int a t' b t
  | str b=>obtain⟨t,rfl⟩:=rx;exact SeqAt.EqAt.str_str a t' b t
  | _=>exact absurd (show false=true from fx) qD
 | _=>exact absurd (show false=true from fy) qD
def eqU (x:V) (u:Value):Bool:=match u with
 | .none=>eqV .non x
 | .bool b=>eqV (.bl b) x
 | .int i _=>eqV (.int i) x
 | .str z _=>eqV (.str z) x
 | _=>false
theorem a6M {x y:V}{u:Value}(r:RelV y u)(f:flatV y=true):eqU x u=eqV y x:=by
 cases y with
 | non=>cases r;rfl
 | bl b=>cases r;rfl
 | int i=>obtain⟨t,rfl⟩:=r;rfl
 | str z=>obtain⟨t,rfl⟩:=r;rfl
 | _=>exact absurd (show false=true from f) qD
theorem T8 {x:V}:∀{xs:List V} {us:List Value},Vals xs us->xs.all flatV=true->us.any (eqU x)=xs.any fun y=>eqV y x
 | _,_,.nil,_=>rfl
 | y::xs,u::us,.cons r t,f=>by
  rw[all_cons,qR] at f;rw[any_cons,any_cons,a6M r f.1,T8 t f.2]
theorem K9 {A:Around}{s:Shared}{x:V}{v:Value}(rx:RelV x v)(fx:flatV x=true):∀{xs:List V} {us:List Value},Vals xs us->xs.all flatV=true->∀u∈us,SeqAt.EqAt A s u v (eqU x u)
 | _,_,.nil,_=>fun u hu=>by cases hu
 | y::xs,u::us,.cons r t,f=>fun u' hu=>by
  rw[all_cons,qR] at f;rcases zS.mp hu with rfl|hu
  ·rw[a6M r f.1];exact b0T r rx f.1 fx
  ·exact K9 rx fx t f.2 u' hu
def inV (x:V) (xs:List V):Bool:=xs.any fun y=>eqV y x
def rIn (K:PySem.W.Frag) (neg:Bool):R2:=fun x y H Q=>∃p xs,y= .ref p/\(SqL K H p xs\/SqT K H p xs)/\flatV x=true/\xs.all flatV=true/\Q (.bl (if neg then !inV x xs else inV x xs)) H
theorem a5p:OpR X (compareOp .In) (rIn X.K false):=by
 intro pins s σ H x y v u Q I rx ry h;obtain⟨p,xs,rfl,hq,fx,fs,q⟩:=h;cases ry;rcases hq with hq|hq
 ·obtain⟨its,r,pl,hz⟩:=I.list hq;refine SeqAt.in_listAt (eqU x) pl.isList (fun w hw=>K9 rx fx r fs w (by simpa using hw)) ⟨.bl _,H,I,rfl,?_⟩
  rw[show its.toArray.any (eqU x)=its.any (eqU x) by simp,T8 r fs]
  exact q
 ·obtain⟨its,r,pl,hz⟩:=I.tuple hq;refine SeqAt.in_tupleAt (eqU x) pl (fun w hw=>K9 rx fx r fs w (by simpa using hw)) ⟨.bl _,H,I,rfl,?_⟩
  rw[show its.toArray.any (eqU x)=its.any (eqU x) by simp,T8 r fs]
  exact q
theorem a1P:OpR X (compareOp .NotIn) (rIn X.K true):=by
 intro pins s σ H x y v u Q I rx ry h;obtain⟨p,xs,rfl,hq,fx,fs,q⟩:=h;cases ry;rcases hq with hq|hq
 ·obtain⟨its,r,pl,hz⟩:=I.list hq;refine SeqAt.notIn_listAt (eqU x) pl.isList (fun w hw=>K9 rx fx r fs w (by simpa using hw)) ⟨.bl _,H,I,rfl,?_⟩
  rw[show its.toArray.any (eqU x)=its.any (eqU x) by simp,T8 r fs]
  exact q
 ·obtain⟨its,r,pl,hz⟩:=I.tuple hq;refine SeqAt.notIn_tupleAt (eqU x) pl (fun w hw=>K9 rx fx r fs w (by simpa using hw)) ⟨.bl _,H,I,rfl,?_⟩
  rw[show its.toArray.any (eqU x)=its.any (eqU x) by simp,T8 r fs]
  exact q
theorem T6:CallR X (.builtin "len") (fun xs H Q=>∃p ys,xs=[.ref p]/\(SqL X.K H p ys\/SqT X.K H p ys)/\Q (.int ys.length) H):=by
 intro pins s σ H xs us Q I r h;obtain⟨p,ys,rfl,hq,q⟩:=h;obtain⟨u,rfl,rx⟩:=vals1 r;cases rx;have hn:=line63;rcases hq with hq|hq
 ·obtain⟨its,r',pl,hz⟩:=I.list hq;have hlen:=r'.length;exact Calls.call_len_list pl.isList (by simp only[zT]<;>walk_at "o") ⟨.int ys.length,H,I.tok _,⟨s.toks+1,by rw[zT,hlen]⟩,q⟩
 ·obtain⟨its,r',pl,hz⟩:=I.tuple hq;have hlen:=r'.length;exact len_tuple pl (by simp only[zT]<;>walk_at "o") ⟨.int ys.length,H,I.tok _,⟨s.toks+1,by rw[zT,hlen]⟩,q⟩
theorem CallR.or {f:Value}{r r':List V->Hp->VK->Prop}(h:CallR X f r)(h':CallR X f r'):CallR X f (fun xs H Q=>r xs H Q\/r' xs H Q):=by
 intro pins s σ H xs us Q I rs q;rcases q with q|q
 ·exact h pins s σ H xs us Q I rs q
 ·exact h' pins s σ H xs us Q I rs q
theorem a1J:CallR X (.type "list") (fun xs H Q=>∃p ys,xs=[.ref p]/\(SqL X.K H p ys\/SqT X.K H p ys)/\∀l,H l=none->Q (.ref l) (upd H l (.lst ys))):=by
 intro pins s σ H xs us Q I r h;obtain⟨p,ys,rfl,hq,q⟩:=h;obtain⟨u,rfl,rx⟩:=vals1 r;cases rx;have fin:∀(its:List Value),Vals ys its->ys.length<=sizeLine->∀(h':Heap) (c':Nat),(∀b o',s.heap.get? b=some o'->h'.get? b=some o')->
   h'.get? s.heap.objs.size=some {cls:=.type "list",dict:=none,data:=.seq its.toArray c',slots:= #[]}->EP X pins σ Q (.ref s.heap.objs.size) {s with heap:=h'}:=fun its r' hz h' c' kp e=>
  ⟨.ref s.heap.objs.size,_,I.laid (t':=s.toks) kp (zD _) (show ObjOk X.prog X.w _ h' _ (.lst ys) from⟨hz,its,c',r',e⟩),rfl,q _ (I.hok.fresh (zD _))⟩
 rcases hq with hq|hq
 ·obtain⟨its,r',pl,hz⟩:=I.list hq;have hlen:=r'.length;obtain⟨o,ho,hc,n,hd⟩:=pl.isList;exact call_list_seq p (.inl rfl) ho hc hd (fun h' c' kp e=>fin its r' hz h' c' kp e) (by simp only[zT]<;>walk_at "o")
 ·obtain⟨its,r',pl,hz⟩:=I.tuple hq;have hlen:=r'.length;obtain⟨o,ho,hc,n,hd⟩:=pl;exact call_list_seq p (.inr rfl) ho hc hd (fun h' c' kp e=>fin its r' hz h' c' kp e) (by simp only[zT]<;>walk_at "o")
theorem F4:CallR X (.type "tuple") (fun xs H Q=>∃p ys,xs=[.ref p]/\((SqL X.K H p ys/\∀l,H l=none->Q (.ref l) (upd H l (.tup ys)))\/(SqT X.K H p ys/\Q (.ref p) H))):=by
 intro pins s σ H xs us Q I r h;obtain⟨p,ys,rfl,h⟩:=h;obtain⟨u,rfl,rx⟩:=vals1 r;cases rx;rcases h with ⟨hq,q⟩|⟨hq,q⟩
 ·obtain⟨its,r',pl,hz⟩:=I.list hq;have hlen:=r'.length;refine call_tuple_list pl.isList (fun h' kp=>?_) (by simp only[zT]<;>walk_at "o")
  have I1:Inv X pins σ H {s with heap:=h'}:=I.kept (t':=s.toks) kp
  have I2:Inv X pins σ (upd H h'.objs.size (.tup ys)) {s with heap:=h'.push {cls:=.type "tuple",data:=.seq its.toArray}}:=
   I1.laid (t':=s.toks) (fun b o e=>zE _ e) (zD _) (show ObjOk X.prog X.w _ _ _ (.tup ys) from⟨hz,its,r',TupN.new _ _⟩)
  exact⟨.ref h'.objs.size,_,I2,rfl,q _ (I1.hok.fresh (zD _))⟩
 ·obtain⟨its,r',pl,hz⟩:=I.tuple hq;exact call_tuple_same pl ⟨.ref p,H,I,rfl,q⟩
def tyV (K:PySem.W.Frag) (T:String) (x:V) (H:Hp):Prop:=match x with
 | .str _=>T="str"
 | .int _=>T="int"
 | .ref p=>(T="list"/\∃xs,SqL K H p xs)\/(T="tuple"/\∃o,K.lookup p=some o/\o.cls= .type "tuple"/\o.dict=none)\/
   (T="dict"/\((∃kvs,H p=some (.dK kvs))\/∃kvs,H p=some (.dT kvs)))\/(T="set"/\∃S n,H p=some (.set S n))
 | _=>False
theorem a7J {pins:List (Addr×Obj)}{σ:St}{H:Hp}{s:Shared}{T:String}{x:V}{v:Value}(I:Inv X pins σ H s)(r:RelV x v)(ty:tyV X.K T x H):
  s.TypeIs v T/\∀a,v= .ref a->∃ob,s.heap.get? a=some ob/\ob.dict=none:=by
 cases x with
 | str z=>
  obtain⟨t,rfl⟩:=r;cases(show T="str" from ty);exact⟨typeIs_str s z t,fun _ e=>nomatch e⟩
 | int i=>
  obtain⟨t,rfl⟩:=r;cases(show T="int" from ty);exact⟨typeIs_int s i t,fun _ e=>nomatch e⟩
 | ref p=>
  cases r;rcases ty with ⟨rfl,xs,hq⟩|⟨rfl,o,hk,hc,hd⟩|⟨rfl,hk⟩|⟨rfl,S,n,hk⟩
  ·obtain⟨its,_,pl,_⟩:=I.list hq;refine⟨pl.isList.typeIs,fun a e=>?_⟩;cases e;obtain⟨o,n,e,c,hd,_⟩:=pl;exact⟨o,e,hd⟩
  ·refine⟨⟨o,I.kIn p o hk,hc⟩,fun a e=>?_⟩;cases e;exact⟨o,I.kIn _ o hk,hd⟩
  ·have z:∃o,s.heap.get? p=some o/\o.ExactDict:=by
    rcases hk with ⟨kvs,hk⟩|⟨kvs,hk⟩
    ·obtain⟨_,_,_,_,o,_,e,ex,_⟩:=I.hok p _ hk;exact⟨o,e,ex⟩
    ·obtain⟨_,_,_,_,o,_,e,ex,_⟩:=I.hok p _ hk;exact⟨o,e,ex⟩
   obtain⟨o,e,ex⟩:=z;refine⟨⟨o,e,ex.1⟩,fun a e2=>?_⟩;cases e2;exact⟨o,e,ex.2.1⟩
  ·obtain⟨o,_,_,_,e,ex,_⟩:=I.hok p _ hk;refine⟨⟨o,e,ex.1⟩,fun a e2=>?_⟩;cases e2;exact⟨o,e,ex.2.1⟩
 | _=>exact False.elim ty
def tBM0 (K:PySem.W.Frag) (T:String) (r:V->List V->Hp->VK->Prop) (to:TE):TE:=fun σ H Q=>to σ H fun x H1=>tyV K T x H1/\r x [] H1 Q
def tBM (K:PySem.W.Frag) (T:String) (r:V->List V->Hp->VK->Prop) (to:TE) (t:TA):TE:=fun σ H Q=>to σ H fun x H1=>tyV K T x H1/\t σ H1 fun xs H2=>r x xs H2 Q
variable {o e:Expr}{es:List Expr}{to:TE}{t:TA}{name:Str}{apos cpos:Pos}{T id:String}{r:V->List V->Hp->VK->Prop}
theorem b1C (pa:PlainAttrs T)(slot:Slot T name id)(hty:typeOf (.builtin id)=pure (.type "method_descriptor"))(hm:MtR X id r)(ho:PE X o to)
  (hbase:attributeBase o name X.env (eval o X.env)=eval o X.env:=by rfl) (hline:(apos.endLine==cpos.line)=true:=by rfl):PE X (.Call (.Attribute o name apos) [] [] cpos) (tBM0 X.K T r to):=by
 intro pins s σ H Q I h;refine wpAny_Call_method0_late hbase hline (thn (ho pins s σ H _ I h) fun v s1 ⟨x,H1,I1,r1,ty,q1⟩=>?_);obtain⟨h1,h2⟩:=a7J I1 r1 ty;exact⟨T,id,pa,slot,hty,h1,h2,Calls.callWith_builtin rfl (PySem.evalArgs_none (hm pins s1 σ H1 x [] v [] Q I1 r1 .nil q1))⟩
theorem a7T (pa:PlainAttrs T)(slot:Slot T name id)(hty:typeOf (.builtin id)=pure (.type "method_descriptor"))(hm:MtR X id r)(ho:PE X o to)(ha:PA X (e::es) t)
  (hbase:attributeBase o name X.env (eval o X.env)=eval o X.env:=by rfl)
  (hfew:((backTo cpos (starEach (e::es) X.env)).all (fun x=>!x.1)&&(backToKw cpos (keywordEach [] X.env)).all (fun x=>x.1.isSome)
   && decide ((e::es).length+([]:List Keyword).length+(if([]:List Keyword).isEmpty then 0 else 1)<30))=true:=by rfl)
  (hline:(apos.endLine==cpos.line)=true:=by rfl) (hs:starEach (e::es) X.env=(false,eval e X.env)::starEach es X.env:=by rfl) (hplain:(backTo cpos (starEach es X.env)).any (·.1)=false:=by rfl):
  PE X (.Call (.Attribute o name apos) (e::es) [] cpos) (tBM X.K T r to t):=by
 intro pins s σ H Q I h;refine wpAny_Call_method_late hbase hfew hline rfl (thn (ho pins s σ H _ I h) fun v s1 ⟨x,H1,I1,r1,ty,q1⟩=>?_);obtain⟨h1,h2⟩:=a7J I1 r1 ty;refine⟨T,id,pa,slot,hty,h1,h2,?_⟩;have hA:=ha cpos pins s1 σ H1 _ I1 q1;rw[hs] at hA ⊢;refine Calls.callWith_builtin (by show(false||(backTo cpos (starEach es X.env)).any (·.1))=false;rw[hplain]<;>rfl) (Calls.evalArgs_plain ?_)
 exact thn hA fun us s2 h0=>ex5 h0 fun vs H2 I2 r2 q2=>hm pins s2 σ H2 x vs v us Q I2 r1 r2 q2
end
def MtM (X:Cx) (id:String) (r:V->List V->Hp->VK->Prop):Prop:=
 ∀(pins:List (Addr×Obj)) (s:Shared) (σ:St) (H:Hp) (x:V) (xs:List V) (v:Value) (us:List Value) (Q:VK),Inv X pins σ H s->RelV x v->Vals xs us->r x xs H Q->
  wpAny (model X.prog X.w) X.A (call (.builtin id) (v::us)) (EP X pins σ Q) X.xe s
theorem Vals.one:∀{x:V} {us:List Value},Vals [x] us->∃u,us=[u]/\RelV x u
 | _,_,.cons r .nil=>⟨_,rfl,r⟩
theorem Vals.zero:∀{us:List Value},Vals [] us->us=[]
 | _,.nil=>rfl
section
variable {X:Cx}{pins:List (Addr×Obj)}{σ:St}{H:Hp}{s:Shared}{l:Addr}{xs ys:List V}
theorem Inv.lset {its its':List Value}{n:Nat}{f:Array Value->Array Value}{t':Nat}(I:Inv X pins σ H s)(hH:H l=some (.lst xs))
  (e:s.heap.get? l=some {cls:=.type "list",data:=.seq its.toArray n}) (hf:f its.toArray=its'.toArray) (hv:Vals ys its') (hz:ys.length<=sizeLine):
  Inv X pins σ (upd H l (.lst ys)) {s with heap:=s.heap.update l (Obj.mapSeq f),toks:=t'}:=by
 have q:=PySem.IsL.update e f;rw[hf] at q;refine I.write (x:=l) (e:=l) (by rw[hH];exact trivial) (.inl rfl) (fun b' u hb hu=>(Heap.get?_update_other s.heap (Obj.mapSeq f) (jE hb)).trans hu) ⟨_,q⟩ ?_
 exact⟨hz,its',_,hv,q⟩
theorem Inv.lnew {its:List Value}{t':Nat}(I:Inv X pins σ H s)(hv:Vals ys its)(hz:ys.length<=sizeLine):
  Inv X pins σ (upd H s.heap.objs.size (.lst ys)) {s with heap:=s.heap.push {cls:=.type "list",data:=.seq its.toArray},toks:=t'}:=
 I.laid (fun _ _ q=>zE _ q) (zD _) ⟨hz,its,0,hv,qA _ rfl⟩
theorem Inv.fresh (I:Inv X pins σ H s):H s.heap.objs.size=none:=I.hok.fresh (zD _)
theorem Inv.lstM (I:Inv X pins σ H s)(hH:H l=some (.lst xs)):xs.length<=sizeLine/\∃(its:List Value) (n:Nat),Vals xs its/\xs.length=its.length/\s.heap.get? l=some {cls:=.type "list",data:=.seq its.toArray n}:=by
 obtain⟨z,its,n,r,e⟩:=I.hok l _ hH;exact⟨z,its,n,r,r.length,e⟩
theorem notLongL {n:Nat}(h:n<=sizeLine):Builtin.List.listTooLong n=false:=by
 unfold Builtin.List.listTooLong;exact qM (by walk_at "o")
end
section
variable {X:Cx}
def rAppend:V->List V->Hp->VK->Prop:=fun x vs H Q=>∃l xs y,x= .ref l/\vs=[y]/\H l=some (.lst xs)/\xs.length<sizeLine/\Q .non (upd H l (.lst (xs++[y])))
theorem a0V:MtM X "list.append" rAppend:=by
 intro pins s σ H x vs v us Q I rx rv h;obtain⟨l,xs,y,rfl,rfl,hH,hz,q⟩:=h;cases rx;obtain⟨u,rfl,ru⟩:=rv.one;obtain⟨z,its,n,r,hl,e⟩:=I.lstM hH;refine call_meets F.slot_list_append ⟨_,e,rfl⟩ F.entry_list_append (F.args_list_append_2 _ _) (PySem.list_append l its.toArray n u (by rw[zT];walk_at "o")) ⟨e,?_⟩
 refine⟨.non,_,I.lset (its':=its++[u]) hH e (by simp) (r.append (.cons ru .nil)) ?_,rfl,q⟩
 rw[zH,length_singleton];walk_at "o"
def rClear:V->List V->Hp->VK->Prop:=fun x vs H Q=>∃l xs,x= .ref l/\vs=[]/\H l=some (.lst xs)/\Q .non (upd H l (.lst []))
theorem a6Q:MtM X "list.clear" rClear:=by
 intro pins s σ H x vs v us Q I rx rv h;obtain⟨l,xs,rfl,rfl,hH,q⟩:=h;cases rx;have hus:=rv.zero;subst hus;obtain⟨z,its,n,r,hl,e⟩:=I.lstM hH;refine call_meets F.slot_list_clear ⟨_,e,rfl⟩ F.entry_list_clear (F.args_list_clear_1 _) (AutoSeq1.list_clear_list_0 l its.toArray n (by rw[zT];walk_at "o")) ⟨e,?_⟩
 exact⟨.non,_,I.lset (its':=[]) (ys:=[]) hH e rfl .nil (qL _),rfl,q⟩
end
end L2
namespace Att
open PySem PySem.W PySem.Calls PyProof.Rows
theorem Y7 {P:Params}{h:Heap}:∀(ns:List Int) (vs:List Value),WellAll P h vs (ns.map WData.int)->IntsAre vs ns:=by
 intro ns
 induction ns with
 | nil=>
  intro vs w;rw[yL] at w;cases w;exact .nil
 | cons n ns ih=>
  intro vs w;rw[zP] at w;cases w with
  | cons a b=>
   cases a;exact .cons _ _ (ih _ b)
theorem a5s {l:OpenLaw}{n:Nat}(hn:l.most=some n){P:Params}{h:Heap}{args:List WData}{vals:List Value}
  (hpre:l.row.toRowW.claim.pre args=true) (hwl:WellAll P h vals args):
  ∃a vs ns,vals=[Value.ref a]/\args=[WData.list (ns.map WData.int)]/\h.get? a=some {cls:=.type "list",data:=.seq vs.toArray}/\IntsAre vs ns/\ns.length<=n:=by
 have hsh:WShape.hasAll [] args [.list .int]=true:=(pre_splitW hpre).1;have hc:l.pre.holds [] {args:=args}=true:=(pre_splitW hpre).2;obtain⟨d,r,rfl,h1,h2⟩:=hasAllW_cons hsh;obtain rfl:=hasAllW_nil h2;obtain⟨xs,rfl,h3⟩:=hasW_list h1;obtain⟨ns,rfl⟩:=items_int h3;have hlen:ns.length<=n:=by
  unfold OpenLaw.pre at hc;have h4:(WTm.not (.lt (.lit (.int (n:Int))) (.len (.arg 0)))).holds [] {args:=[.list (ns.map .int)]}=true:=by
   have h4:=(holds_andW hc).1;rw[hn] at h4;exact h4
  have h5:=condW_of h4 (w_not (w_lt w_lit (w_len_list (w_arg rfl))));rw[zB] at h5;refine Nat.le_of_not_lt fun q=>?_;have q':(n:Int)<((ns.length:Nat):Int):=by walk_at "o"
  first
   | (rw[qO q'] at h5;exact absurd h5 (by decide))
   | (simp at h5;walk_at "o")
 cases hwl with
 | cons w1 w2=>
  cases w2;cases w1 with
  | list ho hall=>exact⟨_,_,ns,rfl,rfl,ho,Y7 ns _ hall,hlen⟩
theorem a5H (l:OpenLaw)(args:List WData):l.row.toRowW.claim.post args (.bool true) args=true:=
 postW_of (r:=l.row.toRowW) (X:=(true==true))
  (show WShape.has [] (.bool true) .bool=true by first|rfl|decide|simp[WShape.has,WShape.arms,WShape.armsAll])
  (show(WTm.eq .res (.lit (.bool true))).value [] {args:=args,res:=some (.bool true),after:=args}=some (.bool (true==true)) from w_eq_bool (w_res rfl) w_lit) rfl
theorem attach_call {l:OpenLaw}{n:Nat}{q:Program}{loose:List Str}{XP:(Str->Option Value)->Heap->Prop}{YP:World->Heap->Prop}{d:DefRec}
  (hn:l.most=some n) (hdf:d.params.defaults=[])
  (call:∀(w:World) (s₀ s₁:Shared) (mg mb:Str->Option Value) (fa:Addr) (o:Obj) (pm cd doc:Value) (a:Addr) (vs:List Value) (ns:List Int),
   Ground q loose [] XP w s₀ mg mb s₁.heap->YP w s₁.heap->
   s₁.heap.get? fa=some o->o.data= .func (docDef d.name d.params d.body d.scope pm cd doc)->s₁.heap.CodeRec cd d.name->mg d.name=some (.ref fa)->
   s₁.heap.get? a=some {cls:=.type "list",data:=.seq vs.toArray}->IntsAre vs ns->ns.length<=n->s₁.gens= #[]->
   codeAny (model l.prog w) callerA (.call (.ref fa) ⟨[.ref a],[]⟩) (fun r s'=>r= .ok (.ret (.bool true))/\OldK s₁.heap s'.heap/\s'.os=s₁.os/\AllBare s'.gens) s₁):
  WalkO q loose XP YP l.row.toRowW d [] (fun f vs=>PySem.call f vs):=by
 intro w s₀ s₁ mg mb G Y fa o pm cd doc dV kV ho hd hcd hD hmg hg args vals as hpre hlay hrd hwl hlo;obtain rfl:dV= .none:=Dflts.none hD hdf;obtain rfl:kV= .none:=Dflts.noKw hD;obtain⟨a,vs,ns,rfl,rfl,hobj,hints,hlen⟩:=a5s hn hpre hwl;refine enter_call (codeAny_mono (call w s₀ s₁ mg mb fa o pm cd doc a vs ns G Y ho (fd_plain hd) hcd hmg hobj hints hlen hg) fun r s' hq=>?_);obtain⟨rfl,h2,h3,h4⟩:=hq;exact⟨.inl ⟨.bool true,.bool true,[],rfl,fun _=>rfl,.bool true,a5H l _,fun _=>⟨List.Pairwise.nil,fun _ hm=>(nomatch hm)⟩⟩,h2,h3,h4⟩
def ledger (h:Heap) (L d:Addr):List (Addr×Obj):=(List.range h.objs.size).filterMap fun a=>if a=L\/a=d then none else(h.get? a).map fun o=>(a,o)
end Att
namespace L2
open PySem PySem.Spec PyProof.Rows
theorem a1d:∀{vs:List Value} {ns:List Int},IntsAre vs ns->Vals (ns.map V.int) vs
 | _,_,.nil=>.nil
 | _,_,.cons n t h=>.cons ⟨t,rfl⟩ (a1d h)
def Only (H:Hp):Prop:=∀b,H b=none\/∃o xs,H b=some (.frz o (.lst xs))
theorem a7u {P:Program}{w:World}{K:PySem.W.Frag}{mg mb:Str->Option Value}{CX:CXT}{k:Nat}{fa a:Addr}{fd:FuncData}{x:Str}{sp:Sp}{s₁:Shared}{vs:List Value}{ns:List Int}
  (KX:K.In s₁.heap) (hns:s₁.heap.Ns mainGlobals mg) (hb:s₁.heap.Ns builtinsNs mb) (hbb:∀x:Str,x≠"__name__"->mb x=bootBuiltins x) (hlim:s₁.heap.NoLimit) (hg:s₁.gens= #[])
  (ha:s₁.heap.get? a=some {cls:=.type "list",data:=.seq vs.toArray}) (hi:IntsAre vs ns) (hl:ns.length<=sizeLine) (hr:Room k callerA)
  (F:∀base:Heap,K.In base->base.Ns mainGlobals mg->FnOk P w K mg base CX k fa fd [x] sp) (hbind:∀(s:Shared) (u:Value),BindsTo s fd ⟨[u],[]⟩ [(x,u)])
  (hsp:∀H:Hp,Only H->SqL K H a (ns.map V.int)->sp [.ref a] H (fun v _=>v= .bl true) fun _ _ _=>False)
  (hCX:∀H e s',CX [] H s₁ (fun _ _ _=>False) e s'->False):
  codeAny (model P w) callerA (.call (.ref fa) ⟨[.ref a],[]⟩) (fun r s'=>r= .ok (.ret (.bool true))/\OldK s₁.heap s'.heap/\s'.os=s₁.os/\AllBare s'.gens) s₁:=by
 have rv:=a1d hi;have lenV:=hi.length;have core:∀H:Hp,Only H->SqL K H a (ns.map V.int)->HOk P w H s₁.heap->(∀b,H b≠none->b=a)->(H a≠none->K.lookup a=none)->
   codeAny (model P w) callerA (.call (.ref fa) ⟨[.ref a],[]⟩) (fun r s'=>r= .ok (.ret (.bool true))/\OldK s₁.heap s'.heap/\s'.os=s₁.os/\AllBare s'.gens) s₁:=by
  intro H hO hS hok hA hK;have base_of:∀{b:Addr} {o:Obj},s₁.heap.get? b=some o->H b=none->(hidT s₁.heap H).get? b=some o:=fun e n=>a7I e n;have noA:∀{b:Addr} {o:Obj} {es:Array DictEntry} {ep:Nat},s₁.heap.get? b=some o->o.data= .dict es ep->H b=none:=fun{b o es ep} e d=>by
   cases q:H b with
   | none=>rfl
   | some u=>
    have e':b=a:=hA b (by rw[q];simp)
    subst e';rw[ha] at e;cases e;have d':Data.seq vs.toArray _=Data.dict es ep:=d;cases d'
  have nsK:∀{b:Addr} {m:Str->Option Value},s₁.heap.Ns b m->(hidT s₁.heap H).Ns b m:=fun{b m} ⟨o,es,ep,e,d,r⟩=>⟨o,es,ep,base_of e (noA e d),d,r⟩
  have hKb:K.In (hidT s₁.heap H):=fun b o e=>base_of (KX b o e) (by
   cases q:H b with
   | none=>rfl
   | some u=>
    have e':b=a:=hA b (by rw[q];simp)
    subst e'
    rw[hK (by rw[q];simp)] at e;cases e)
  have hM:Mod K mg (hidT s₁.heap H):=⟨hKb,nsK hns,⟨mb,nsK hb,hbb⟩,let ⟨mc,h1,h2⟩:=hlim;⟨mc,nsK h1,h2⟩⟩;have e0:Env0 P w K mg (hidT s₁.heap H) callerA [] s₁ H:=⟨rfl,hM,fun b o e=>a8m e,Nat.le_of_eq (a5R _ _),trivial,fun b hb=>absurd (show b∈([]:List Addr) from hb) (by simp),hok,.of_eq hg⟩
  refine codeAny_mono ((F _ hKb (nsK hns)).run callerA [] s₁ H ⟨[.ref a],[]⟩ [.ref a] [.ref a] _ _ hr e0 (hbind s₁ (.ref a)) (.cons rfl .nil) (hsp H hO hS)) fun r s' h=>?_;cases r with
  | error e=>exact(hCX H e s' h).elim
  | ok fl=>
   cases fl with
   | next=>exact False.elim h
   | brk=>exact False.elim h
   | cont=>exact False.elim h
   | ret u=>
    obtain⟨v,H',os,bare,un,hok',r',q⟩:=h;have q':v= .bl true:=q;subst q';obtain rfl:u=Value.bool true:=r';refine⟨rfl,OldK.of_keep fun b o e=>?_,os,bare⟩;cases q:H b with
    | none=>exact un.keep b o e q (by intro z;exact absurd (show b∈([]:List Addr) from z) (by simp)) (by simp)
    | some u=>
     rcases hO b with z|⟨ob,xs,z⟩
     ·rw[q] at z;cases z
     ·have z2:=un.frzs b ob _ z;obtain⟨e1,_⟩:=hok b _ z;obtain⟨e2,_⟩:=hok' b _ z2;rw[e] at e1;cases e1;exact e2
 cases hk:K.lookup a with
 | some o=>
  have e:=KX a o hk;rw[ha] at e;cases e;refine core (fun _=>none) (fun _=>.inl rfl) (.inr ⟨_,vs.toArray,_,hk,rfl,rfl,rfl,by rw[zT,lenV];exact hl,by simpa using rv⟩) (fun b u z=>by have z':(none:Option HO)=some u:=z;cases z') (fun b z=>absurd rfl z) fun z=>absurd rfl z
 | none=>
  refine core (fun b=>if b=a then some (.frz {cls:=.type "list",data:=.seq vs.toArray} (.lst (ns.map V.int))) else none) (fun b=>?_) (.inl (.inr ⟨{cls:=.type "list",data:=.seq vs.toArray},if_pos rfl⟩)) (fun b u z=>?_) (fun b z=>?_) fun _=>hk
  ·by_cases hb:b=a
   ·exact .inr ⟨_,_,if_pos hb⟩
   ·exact .inl (if_neg hb)
  ·by_cases hb:b=a
   ·have z':=(if_pos hb).symm.trans z;cases z';subst hb;exact⟨ha,by rw[zB];exact hl,vs,_,rv,ha⟩
   ·have z':=(if_neg hb).symm.trans z;cases z'
  ·by_cases hb:b=a
   ·exact hb
   ·exact absurd (if_neg hb) z
abbrev KOf {K:PySem.W.Frag} {h:Heap} (_:K.In h):PySem.W.Frag:=K
theorem a8i {l:PySem.W.OpenLaw}{n k:Nat}{q:Program}{loose:List Str}{XP:(Str->Option Value)->Heap->Prop}{YP:World->Heap->Prop}{d:DefRec}{K:Params->PySem.W.Frag}{CX:World->CXT}{sp:World->Sp}{x:Str}
  (hn:l.most=some n) (hn2:n<=sizeLine) (hdf:d.params.defaults=[]) (hr:Room k callerA)
  (hY:∀(w:World) (h:Heap),YP w h->(K w.params).In h)
  (F:∀(w:World) (mg:Str->Option Value) (fa:Addr) (h:Heap),(K w.params).In h->h.Ns mainGlobals mg->mg d.name=some (.ref fa)->
   ∃fd:FuncData,(∀(s:Shared) (u:Value),BindsTo s fd ⟨[u],[]⟩ [(x,u)])/\
    ∀base:Heap,(K w.params).In base->base.Ns mainGlobals mg->FnOk l.prog w (K w.params) mg base (CX w) k fa fd [x] (sp w))
  (hsp:∀(w:World) (H:Hp) (a:Addr) (ns:List Int),ns.length<=n->Only H->SqL (K w.params) H a (ns.map V.int)->sp w [.ref a] H (fun v _=>v= .bl true) fun _ _ _=>False)
  (hCX:∀(w:World) (H:Hp) (s:Shared) (e:Value) (s':Shared),CX w [] H s (fun _ _ _=>False) e s'->False):
  PySem.W.WalkO q loose XP YP l.row.toRowW d [] (fun f vs=>PySem.call f vs):=by
 refine Att.attach_call hn hdf fun w s₀ s₁ mg mb fa o pm cd doc a vs ns G Y ho hd hcd hmg hobj hints hlen hg=>?_;have KX:=hY w _ Y;obtain⟨fd,hb,hF⟩:=F w mg fa _ KX G.T.g hmg;exact a7u KX G.T.g G.T.b G.T.builtins G.T.nolimit hg hobj hints (zQ hlen hn2) hr hF hb (fun H hO hS=>hsp w H a ns hlen hO hS) fun H e s'=>hCX w H s₁ e s'
def defArgs (s:Stmt):Arguments:=match s with
 | .FunctionDef _ a _ _ _ _ _ _ _ _=>a
 | _=>{posonlyargs:=[],args:=[],vararg:=none,kwonlyargs:=[],kw_defaults:=[],kwarg:=none,defaults:=[]}
def defBody (s:Stmt):List Stmt:=match s with
 | .FunctionDef _ _ b _ _ _ _ _ _ _=>b
 | _=>[]
def defScope (s:Stmt):Scope:=match s with
 | .FunctionDef _ _ _ _ _ _ sc _ _ _=>sc
 | _=>{kind:=.function,names:=[],isGenerator:=false,isCoroutine:=false}
abbrev CX0:CXT:=fun _ _ _ _ _ _=>False
abbrev E0:XK:=fun _ _ _=>False
theorem pass0 {X:Cx}:Passes CX0 X E0:=fun _ _ _ _ _ _ _ h=>h.elim
structure Fun (K:PySem.W.Frag) (x qual:Str) (st:Stmt) (f:Addr) (fd:FuncData):Prop where
 ex:∃(oc:Value) (od:Option Addr) (kV doc pm:Value) (an:Option Addr) (cdv ct:Value) (osl:Array (Option Value)),
  fd=PySem.W.fnOf x qual (defArgs st) (defBody st) (defScope st) .none kV doc pm an cdv ct/\K.lookup f=some ⟨oc,od,.func fd,osl⟩/\PySem.W.codeIn K cdv qual=true
 kp:PySem.W.keepIn K (.ref f)=true
section
variable {P:Program}{w:World}{K:PySem.W.Frag}{mg:Str->Option Value}{base:Heap}
theorem Fun.ok {x qual:Str}{st:Stmt}{f:Addr}{fd:FuncData}{N ps:List Str}{k:Nat}{sp:Sp}(F:Fun K x qual st f fd)(S:FnScope N ps (defScope st))(len:∀vs H Q E,sp vs H Q E->vs.length=ps.length)
  (hbody:∀(cdv:Value) (A:Around) (outer:List Env) (s:Shared) (H:Hp) (vs:List V) (Q:VK) (E:XK),Room k (A.deeper (envOfC qual (defScope st) s.heap.objs.size f cdv))->sp vs H Q E->
   ∃t,PSs (cxOf CX0 P w K mg base N qual (defScope st) f cdv A outer s H E).nox (defBody st) t/\t {nx:=fun _ H'=>Q .non H',rt:=Q} (start N vs) H):FnOk P w K mg base CX0 (k+1) f fd ps sp:=by
 obtain⟨oc,od,kV,doc,pm,an,cdv,ct,osl,rfl,lk,hcd⟩:=F.ex;refine fn_of lk hcd S len fun A outer s H vs Q E hr hsp=>?_;obtain⟨t,h,q⟩:=hbody cdv A outer s H vs Q E hr hsp;exact⟨t,h.nox,q⟩
theorem Fun.binds {x qual:Str}{st:Stmt}{f:Addr}{fd:FuncData}{ps:List Str}(F:Fun K x qual st f fd)
  (h:∀(kV doc pm:Value) (an:Option Addr) (cdv ct:Value) (us:List Value),us.length=ps.length->bindArgs (PySem.W.fnOf x qual (defArgs st) (defBody st) (defScope st) .none kV doc pm an cdv ct) ⟨us,[]⟩=pure (ps.zip us)):Binds K fd ps []:=by
 obtain⟨oc,od,kV,doc,pm,an,cdv,ct,osl,rfl,lk,hcd⟩:=F.ex;exact .all (h kV doc pm an cdv ct)
theorem a64 {x qual:Str}{st:Stmt}{f:Addr}{oc:Value}{od an:Option Addr}{osl:Array (Option Value)}{kV doc pm cdv ct:Value}(l:K.lookup f=some ⟨oc,od,.func (PySem.W.fnOf x qual (defArgs st) (defBody st) (defScope st) .none kV doc pm an cdv ct),osl⟩)
  (c:PySem.W.codeIn K cdv qual=true) (k:PySem.W.keepIn K (.ref f)=true):Fun K x qual st f (PySem.W.fnOf x qual (defArgs st) (defBody st) (defScope st) .none kV doc pm an cdv ct):=⟨⟨oc,od,kV,doc,pm,an,cdv,ct,osl,rfl,l,c⟩,k⟩
end
theorem a0o {A:Around}{k:Nat}(hr:Room k A):A.units+1<cLine:=Nat.lt_of_le_of_lt (Nat.add_le_add_left (by decide:1<=64) _) hr.units
def Same (H H':Hp):Prop:=∀b o,H b=some o->H' b=some o
theorem Same.refl (H:Hp):Same H H:=fun _ _ h=>h
theorem Same.trans {H H1 H2:Hp}(a:Same H H1)(b:Same H1 H2):Same H H2:=fun c o h=>b c o (a c o h)
section
variable {prog:Program}{w:World}{K:Type} [DecidableEq K] {knd:KeyKind prog w K}{A:Around}{E:Value->Shared->Prop}{s:Shared}
theorem Z7 {kvs:List (K×Value)}{k:K}{v:Value}(h:(kvs.any fun kv=>decide (kv.1=k))=true):(stored kvs k v).length=kvs.length:=by
 unfold stored;rw[if_pos h,zB]
theorem a0k {kvs:List (K×Value)}{k:K}{v:Value}(h:¬(kvs.any fun kv=>decide (kv.1=k))=true):(stored kvs k v).length=kvs.length+1:=by
 unfold stored;rw[if_neg h,zH];rfl
theorem a3m {d:Addr}{kvs:List (K×Value)}{k:K}{key v:Value}{Q:Unit->Shared->Prop}(hkey:knd.is k key=true)(hm:s.heap.DictAt knd d kvs kvs.length)(hsz:kvs.length<=sizeLine)
  (hQ:∀h',h'.DictAt knd d (stored kvs k v) (stored kvs k v).length->Heap.SameBut d s.heap h'->Q () {s with heap:=h',toks:=s.toks+1}):wpAny (model prog w) A (dictSet d key v) Q E s:=by
 obtain⟨o,es,ho,hc,hd,hk,hp,hn⟩:=hm;have pl:=hp.length;have hes:es.size<=sizeLine:=by rw[zK] at pl;walk_at "o"
 unfold dictSet
 try with_reducible refine qN ?_
 refine zA (knd.pyHash hkey ?_);unfold dictSetHashed
 try with_reducible refine qN ?_
 refine zA (wpAny_dictFind_of (s:={s with toks:=s.toks+1}) hkey ho hd hk ?_)
 have hidx:(es.findIdx? fun e=>knd.is k e.key)=kvs.findIdx? fun kv=>decide (kv.1=k):=by
  rw[<-hp.findIdx k];obtain⟨l⟩:=es;simp
 cases hi:es.findIdx? fun e=>knd.is k e.key with
 | some i=>
  have old:=any_of_findIdx_some (hidx▸hi);have el:=Z7 (v:=v) old;refine zA (jP (zA (wpAny_updateDict (s:={s with toks:=s.toks+1}) ho hd (wpAny_point (hQ _ ⟨_,_,xU _ ho (Obj.isFreed_of_dict (Obj.data_mapDict hd _)),hc.mapDict _,by rw[el];exact Obj.data_mapDict hd _,hk.modify _ _,?_,?_⟩ (qY ..))))))
  ·rw[stored,if_pos old];have hl:(es.toList.findIdx? fun e=>knd.is k e.key)=some i:=by rw[<-hi];obtain⟨l⟩:=es;simp
   have:=hp.modify hn hl v
   obtain⟨l⟩:=es;simpa using this
  ·rw[stored,if_pos old,keys_map_store];exact hn
 | none=>
  have hnot:k∉kvs.map (·.1):=not_mem_of_findIdx_none (hidx▸hi);have hany:¬(kvs.any fun kv=>decide (kv.1=k))=true:=by
   rw[List.any_eq_true];rintro⟨kv,hkv,he⟩;exact hnot (zG.mpr ⟨kv,hkv,xK he⟩)
  have el:=a0k (v:=v) hany;refine zA (jP (wpAny_updateDictKeys (hz:=hes) (s:={s with toks:=s.toks+1}) ho hd (hQ _ ⟨_,_,xU _ ho (Obj.isFreed_of_dict (Obj.data_mapDictKeys hd _)),hc.mapDictKeys _,by rw[el];exact Obj.data_mapDictKeys hd _,hk.push hkey _,?_,?_⟩ (qY ..))))
  ·rw[stored,if_neg hany]
   have:=hp.append hkey (knd.hash k) v
   obtain⟨l⟩:=es;simpa using this
  ·rw[stored,if_neg hany,qF,qW];exact⟨hn,by simp,fun a ha b hb e=>by simp only[zP,yL,zN] at hb;subst hb;exact hnot (e▸ha)⟩
theorem a2r {d:Addr}{kvs:List (K×Value)}{k:K}{key v:Value}{Q:Unit->Shared->Prop}(hkey:knd.is k key=true)(hm:s.heap.DictAt knd d kvs kvs.length)(hsz:kvs.length<=sizeLine)
  (hQ:∀h',h'.DictAt knd d (stored kvs k v) (stored kvs k v).length->Heap.SameBut d s.heap h'->Q () {s with heap:=h',toks:=s.toks+1}):wpAny (model prog w) A (setItem (.ref d) key v) Q E s:=by
 have ty:=hm.dictOf.typeIs;unfold setItem
 try with_reducible refine qN ?_
 refine zA (wpAny_sequenceKey ty (by decide) ?_)
 refine zA (qT (name:=Str.ofString "__setitem__") ty slot_dict_setitem (qV slot_dict_setitem ty entry_dict_setitem ?_ (args_dict_setitem _ _ _)));show wpAny _ _ (Builtin.Dict.notOrdered "__setitem__" ⟨[.ref d,key,v],[]⟩ >>=_) _ _ s;refine zA (wpAny_notOrdered_dict ty ?_);show wpAny _ _ (dictSet d key v >>=_) _ _ s;exact zA (a3m hkey hm hsz fun h' hm' hs'=>zC ⟨.none,rfl,zC (hQ h' hm' hs')⟩)
end
section
variable {prog:Program}{w:World}{K:Type} [DecidableEq K] {knd:HeapKind prog w K}{A:Around}{E:Value->Shared->Prop}{s:Shared}
def DictLnH (knd:HeapKind prog w K) (h:Heap) (d:Addr) (xs:List (K×Addr×Value)):Prop:=∃o es,h.get? d=some o/\o.ExactDict/\o.data= .dict es xs.length/\es.toList=xs.map (entryOfKey knd)/\(∀x∈xs,knd.is h x.1 x.2.1)/\(xs.map (·.1)).Nodup
theorem DictLnH.of {h:Heap}{d:Addr}{xs:List (K×Addr×Value)}(x:DictLnH knd h d xs):h.DictOfH knd d xs:=let ⟨o,es,a,b,c,e⟩:=x;⟨o,es,_,a,b,c,e⟩
theorem a1i {d a:Addr}{xs:List (K×Addr×Value)}{k:K}{v:Value}{Q:Unit->Shared->Prop}(hu:knd.room A)(hkey:knd.is s.heap k a)(hm:DictLnH knd s.heap d xs)(hsz:xs.length<=sizeLine)
  (hQ:∀h',DictLnH knd h' d (storedH xs k a v)->Heap.SameBut d s.heap h'->Q () {s with heap:=h',toks:=s.toks+knd.draws k}):wpAny (model prog w) A (dictSet d (.ref a) v) Q E s:=by
 obtain⟨o,es,ho,hc,hd,he,his,hn⟩:=hm;have sz:=size_of_entries he;unfold dictSet
 try with_reducible refine qN ?_
 refine zA (knd.pyHash hu hkey ?_);unfold dictSetHashed
 try with_reducible refine qN ?_
 refine zA (wpAny_dictFind_heap (s:={s with toks:=s.toks+knd.draws k}) hu hkey ho hd he his hn ?_ ?_)
 ·intro hno;have hnot:k∉xs.map (·.1):=not_mem_keys_of_get hno;have en:=storedH_new (atKey_none_of_get hno) a v;refine zA (jP (wpAny_updateDictKeys (hz:=by walk_at "o") (s:={s with toks:=s.toks+knd.draws k}) ho hd (hQ _ ⟨_,_,xU _ ho (Obj.isFreed_of_dict (Obj.data_mapDictKeys hd _)),hc.mapDictKeys _,by rw[en,zH];exact Obj.data_mapDictKeys hd _,?_,?_,?_⟩ (qY ..))))
  ·rw[en];simp[he,entryOfKey]
  ·rw[en];intro x hx;rcases qE.mp hx with hx|hx
   ·exact knd.keeps (his x hx) ho hd (qY ..)
   ·rw[zN.mp hx];exact knd.keeps hkey ho hd (qY ..)
  ·rw[en,qF,qW];exact⟨hn,by simp,fun x hx y hy e=>by simp only[zP,yL,zN] at hy;subst hy;exact hnot (e▸hx)⟩
 ·intro j p hj;have eo:=storedH_old (atKey_of_get hn hj) a v;refine zA (jP (zA (wpAny_updateDict (s:={s with toks:=s.toks+knd.draws k}) ho hd (wpAny_point (hQ _ ⟨_,_,xU _ ho (Obj.isFreed_of_dict (Obj.data_mapDict hd _)),hc.mapDict _,by rw[eo,zB];exact Obj.data_mapDict hd _,?_,?_,?_⟩ (qY ..))))))
  ·rw[eo]
   have:=modify_map_putAt (entryOfKey knd) (fun e:DictEntry=>{e with val:=v}) k v (fun _ _=>rfl) hn hj
   rw[<-he] at this;obtain⟨l⟩:=es;simpa using this
  ·rw[eo];intro x hx;obtain⟨y,hy,rfl⟩:=zG.mp hx;unfold putAt
   split<;>exact knd.keeps (his y hy) ho hd (qY ..)
  ·rw[eo,keys_map_putAt];exact hn
theorem a3t {d a:Addr}{xs:List (K×Addr×Value)}{k:K}{v:Value}{Q:Unit->Shared->Prop}(hu:knd.room A.in1)(hkey:knd.is s.heap k a)(hm:DictLnH knd s.heap d xs)(hsz:xs.length<=sizeLine)
  (hQ:∀h',DictLnH knd h' d (storedH xs k a v)->Heap.SameBut d s.heap h'->Q () {s with heap:=h',toks:=s.toks+knd.draws k}):wpAny (model prog w) A (setItem (.ref d) (.ref a) v) Q E s:=by
 have ty:=hm.of.typeIs;unfold setItem
 try with_reducible refine qN ?_
 refine zA (wpAny_sequenceKey ty (by decide) ?_)
 refine zA (qT (name:=Str.ofString "__setitem__") ty slot_dict_setitem (qV slot_dict_setitem ty entry_dict_setitem ?_ (args_dict_setitem _ _ _)));show wpAny _ _ (Builtin.Dict.notOrdered "__setitem__" ⟨[.ref d,.ref a,v],[]⟩ >>=_) _ _ s;refine zA (wpAny_notOrdered_dict ty ?_);show wpAny _ _ (dictSet d (.ref a) v >>=_) _ _ s;exact zA (a1i hu hkey hm hsz fun h' hm' hs'=>zC ⟨.none,rfl,zC (hQ h' hm' hs')⟩)
end
section
variable {κ:Type} [DecidableEq κ]
def valV (kvs:List (κ×V)) (k:κ):Option V:=(kvs.find? fun kv=>decide (kv.1=k)).map (·.2)
def putK (kvs:List (κ×V)) (k:κ) (v:V):List (κ×V):=
 if(kvs.any fun kv=>decide (kv.1=k))=true then kvs.map (fun kv=>if kv.1=k then(kv.1,v) else kv) else kvs++[(k,v)]
theorem T9 {p:κ×V}{r:List (κ×V)}{k:κ}(e:p.1=k):valV (p::r) k=some p.2:=by simp[valV,find?_cons,e]
theorem M4 {p:κ×V}{r:List (κ×V)}{k:κ}(e:¬p.1=k):valV (p::r) k=valV r k:=by simp[valV,find?_cons,e]
theorem a2h (k:κ):∀kvs:List (κ×V),(kvs.any fun kv=>decide (kv.1=k))=(valV kvs k).isSome
 | []=>rfl
 | p::r=>by
  rw[any_cons]
  by_cases e:p.1=k
  ·simp only[T9 e,qO e,Bool.true_or,Option.isSome_some]
  ·rw[M4 e,qM e,Bool.false_or];exact a2h k r
theorem L1 (kvs:List (κ×V))(k:κ)(v:V):(putK kvs k v).length<=kvs.length+1:=by
 unfold putK
 split
 ·rw[zB];walk_at "o"
 ·rw[zH,qB,yI];walk_at "o"
theorem RelO.isSome_eq {o:Option V}{u:Option Value}(r:RelO o u):o.isSome=u.isSome:=by
 cases o with
 | none=>cases u with
  | none=>rfl
  | some _=>exact(show False from r).elim
 | some _=>cases u with
  | none=>exact(show False from r).elim
  | some _=>rfl
theorem RelO.getD {o:Option V}{u:Option Value}{d:V}{d':Value}(r:RelO o u)(rd:RelV d d'):RelV (o.getD d) (u.getD d'):=by
 cases o with
 | none=>cases u with
  | none=>exact rd
  | some _=>exact(show False from r).elim
 | some _=>cases u with
  | none=>exact(show False from r).elim
  | some _=>exact r
theorem KV.val {kvs:List (κ×V)}{vs:List (κ×Value)}(r:KV kvs vs)(k:κ):RelO (valV kvs k) (valueAt vs k):=by
 unfold KV at r
 induction r with
 | nil=>exact True.intro
 | @cons p q ps qs h t ih=>
  obtain⟨h1,h2⟩:=h
  by_cases e:p.1=k
  ·have e':q.1=k:=h1.symm.trans e;have b:valueAt (q::qs) k=some q.2:=by simp[valueAt,find?_cons,e']
   rw[T9 e,b];exact h2
  ·have e':¬q.1=k:=fun z=>e (h1.trans z);have b:valueAt (q::qs) k=valueAt qs k:=by simp[valueAt,find?_cons,e']
   rw[M4 e,b];exact ih
theorem KV.any {kvs:List (κ×V)}{vs:List (κ×Value)}(r:KV kvs vs)(k:κ):(kvs.any fun kv=>decide (kv.1=k))=vs.any fun kv=>decide (kv.1=k):=by
 unfold KV at r
 induction r with
 | nil=>rfl
 | cons h t ih=>rw[any_cons,any_cons,ih,h.1]
theorem KV.repl {kvs:List (κ×V)}{vs:List (κ×Value)}(r:KV kvs vs)(k:κ){y:V}{u:Value}(ry:RelV y u):
  KV (kvs.map fun kv=>if kv.1=k then(kv.1,y) else kv) (vs.map fun kv=>if kv.1=k then(kv.1,u) else kv):=by
 unfold KV at r ⊢
 induction r with
 | nil=>exact .nil
 | @cons p q ps qs h t ih=>
  rw[zP,zP];refine .cons ?_ ih;obtain⟨h1,h2⟩:=h
  by_cases e:p.1=k
  ·rw[if_pos e,if_pos (h1.symm.trans e)];exact⟨h1,ry⟩
  ·rw[if_neg e,if_neg (fun z=>e (h1.trans z))];exact⟨h1,h2⟩
theorem KV.put {kvs:List (κ×V)}{vs:List (κ×Value)}(r:KV kvs vs)(k:κ){y:V}{u:Value}(ry:RelV y u):KV (putK kvs k y) (stored vs k u):=by
 unfold putK stored;rw[r.any k]
 by_cases e:(vs.any fun kv=>decide (kv.1=k))=true
 ·rw[if_pos e,if_pos e];exact r.repl k ry
 ·rw[if_neg e,if_neg e];exact Paired.snoc r ⟨rfl,ry⟩
theorem KV.length {kvs:List (κ×V)}{vs:List (κ×Value)}(r:KV kvs vs):kvs.length=vs.length:=xN r
end
theorem a04 {P:Program}{w:World}{k:Key}{u:Value}(r:RelV (kV k) u):(mixKind P w).is k u=true:=by
 cases k with
 | inl i=>obtain⟨t,e⟩:=(show ∃t,u=Value.int i t from r);subst e;exact a23 P w i t
 | inr x=>obtain⟨t,e⟩:=(show ∃t,u=Value.str x t from r);subst e;exact a2p P w x t
theorem V2 {P:Program}{w:World}:∀{ks:List Key} {us:List Value},Vals (ks.map kV) us->ItemsAre (mixKind P w) ks us
 | [],_,r=>by rw[yL] at r;cases r;exact .nil
 | k::ks,_,r=>by
  rw[zP] at r;cases r with
  | cons h t=>exact .cons (a04 h) (V2 t)
abbrev KT (H:Hp):List (List Key×V)->List (List Key×Addr×Value)->Prop:=Paired fun p q=>p.1=q.1/\H q.2.1=some (.tup (p.1.map kV))/\RelV p.2 q.2.2
theorem KT.val {H:Hp}{kvs:List (List Key×V)}{xs:List (List Key×Addr×Value)}(r:KT H kvs xs)(k:List Key):RelO (valV kvs k) ((atKey xs k).map (·.2)):=by
 induction r with
 | nil=>exact True.intro
 | @cons p q ps qs h t ih=>
  obtain⟨h1,_,h2⟩:=h
  by_cases e:p.1=k
  ·have e':q.1=k:=h1.symm.trans e;have b:atKey (q::qs) k=some q.2:=by simp[atKey,find?_cons,e']
   rw[T9 e,b];exact h2
  ·have e':¬q.1=k:=fun z=>e (h1.trans z);have b:atKey (q::qs) k=atKey qs k:=by simp[atKey,find?_cons,e']
   rw[M4 e,b];exact ih
theorem KT.repl {H:Hp}{kvs:List (List Key×V)}{xs:List (List Key×Addr×Value)}(r:KT H kvs xs)(k:List Key){y:V}{u:Value}(ry:RelV y u):
  KT H (kvs.map fun kv=>if kv.1=k then(kv.1,y) else kv) (xs.map (putAt k u)):=by
 induction r with
 | nil=>exact .nil
 | @cons p q ps qs h t ih=>
  rw[zP,zP];refine .cons ?_ ih;obtain⟨h1,h2,h3⟩:=h;unfold putAt
  by_cases e:p.1=k
  ·rw[if_pos e,if_pos (h1.symm.trans e)];exact⟨h1,h2,ry⟩
  ·rw[if_neg e,if_neg (fun z=>e (h1.trans z))];exact⟨h1,h2,h3⟩
theorem KT.put {H:Hp}{kvs:List (List Key×V)}{xs:List (List Key×Addr×Value)}(r:KT H kvs xs)(k:List Key){b:Addr}{y:V}{u:Value}(hb:H b=some (.tup (k.map kV)))(ry:RelV y u):
  KT H (putK kvs k y) (storedH xs k b u):=by
 have e:(kvs.any fun kv=>decide (kv.1=k))=(atKey xs k).isSome:=by
  rw[a2h,(r.val k).isSome_eq,isSome_map]
 unfold putK storedH;rw[e]
 by_cases q:(atKey xs k).isSome=true
 ·rw[if_pos q,if_pos q];exact r.repl k ry
 ·rw[if_neg q,if_neg q];exact Paired.snoc r ⟨rfl,hb,ry⟩
theorem KT.keeps {H H':Hp}{kvs:List (List Key×V)}{xs:List (List Key×Addr×Value)}(r:KT H kvs xs)(ht:∀b ys,H b=some (.tup ys)->H' b=some (.tup ys)):KT H' kvs xs:=
 Paired.mapP r fun _ _ z=>⟨z.1,ht _ _ z.2.1,z.2.2⟩
section
variable {P:Program}{w:World}{H:Hp}{h:Heap}{a:Addr}
theorem a6n {u:HO}(ok:HOk P w H h)(e:Rd H a u):ObjOk P w H h a u:=e.ok ok
theorem dk_rd {kvs:List (Key×V)}(ok:HOk P w H h)(e:Rd H a (.dK kvs)):kvs.length<=sizeLine/\(a==sysModules)=false/\∃vs,KV kvs vs/\h.DictOf (mixKind P w) a vs:=
 let ⟨z,y,vs,r,d⟩:=(show ObjOk P w H h a (.dK kvs) from a6n ok e);⟨z,y,vs,r,d.dictOf⟩
theorem dk_at {kvs:List (Key×V)}(ok:HOk P w H h)(e:H a=some (.dK kvs)):kvs.length<=sizeLine/\(a==sysModules)=false/\∃vs,KV kvs vs/\h.DictAt (mixKind P w) a vs kvs.length:=a6n ok (.inl e)
theorem a3O {kvs:List (Key×V)}(ok:HOk P w H h)(e:H a=some (.dK kvs)):kvs.length<=sizeLine/\(a==sysModules)=false/\∃vs,KV kvs vs/\h.DictOf (mixKind P w) a vs:=dk_rd ok (.inl e)
theorem a3i {ks:List Key}(ok:HOk P w H h)(e:H a=some (.tup (ks.map kV))):(tupleKind (mixKind P w)).is h ks a:=by
 obtain⟨_,its,r,o,h1,h2,⟨n,h3⟩,_⟩:=(show ObjOk P w H h a (.tup (ks.map kV)) from ok a _ e);exact⟨o,its.toArray,n,h1,h2,h3,by simpa using V2 r⟩
theorem a3b {kvs:List (List Key×V)}(ok:HOk P w H h)(e:Rd H a (.dT kvs)):kvs.length<=sizeLine/\(a==sysModules)=false/\
  ∃xs,KT H kvs xs/\DictLnH (tupleKind (mixKind P w)) h a xs:=by
 obtain⟨z,y,xs,r,o,es,h1,h2,h3,h4,h5⟩:=(show ObjOk P w H h a (.dT kvs) from a6n ok e);refine⟨z,y,xs,r,o,es,h1,h2,by rw[<-xN r];exact h3,h4,fun x hx=>?_,h5⟩
 have all:∀{l:List (List Key×V)} {m:List (List Key×Addr×Value)},KT H l m->∀x∈m,(tupleKind (mixKind P w)).is h x.1 x.2.1:=by
  intro l m q
  induction q with
  | nil=>intro x hx;exact nomatch hx
  | @cons p q ps qs hq t ih=>
   intro x hx;rcases zS.mp hx with e|hx
   ·subst e;exact a3i ok (by rw[<-hq.1];exact hq.2.1)
   ·exact ih x hx
 exact all r x hx
theorem dt_rd {kvs:List (List Key×V)}(ok:HOk P w H h)(e:Rd H a (.dT kvs)):kvs.length<=sizeLine/\(a==sysModules)=false/\
  ∃xs,KT H kvs xs/\h.DictOfH (tupleKind (mixKind P w)) a xs:=let ⟨z,y,xs,r,d⟩:=a3b ok e;⟨z,y,xs,r,d.of⟩
theorem a38 {kvs:List (List Key×V)}(ok:HOk P w H h)(e:H a=some (.dT kvs)):kvs.length<=sizeLine/\(a==sysModules)=false/\
  ∃xs,KT H kvs xs/\h.DictOfH (tupleKind (mixKind P w)) a xs:=dt_rd ok (.inl e)
end
def DPut (H:Hp) (a:Addr) (y v:V) (H':Hp):Prop:=
 (∃kvs k,H a=some (.dK kvs)/\y=kV k/\kvs.length<sizeLine/\H'=upd H a (.dK (putK kvs k v)))\/
 ∃kvs k b,H a=some (.dT kvs)/\y= .ref b/\H b=some (.tup (k.map kV))/\kvs.length<sizeLine/\H'=upd H a (.dT (putK kvs k v))
theorem DPut.k {H:Hp}{a:Addr}{kvs:List (Key×V)}{k:Key}{v:V}(e:H a=some (.dK kvs))(hl:kvs.length<sizeLine):DPut H a (kV k) v (upd H a (.dK (putK kvs k v))):=.inl ⟨kvs,k,e,rfl,hl,rfl⟩
theorem DPut.t {H:Hp}{a b:Addr}{kvs:List (List Key×V)}{k:List Key}{v:V}(e:H a=some (.dT kvs))(eb:H b=some (.tup (k.map kV)))(hl:kvs.length<sizeLine):
  DPut H a (.ref b) v (upd H a (.dT (putK kvs k v))):=.inr ⟨kvs,k,b,e,rfl,eb,hl,rfl⟩
section
variable {X:Cx}{pins:List (Addr×Obj)}{σ:St}{H:Hp}{s:Shared}{a:Addr}{y v:V}{u r:Value}{o:Option V}{A:Around}{E:Value->Shared->Prop}
theorem Inv.big (I:Inv X pins σ H s):sysModules<s.heap.objs.size:=by
 have h:mainGlobals<s.heap.objs.size:=(I.mod.glob.keeps I.bk).lt;exact Nat.lt_trans (by decide) h
theorem a1A {h':Heap}{t':Nat}{ob:HO}(I:Inv X pins σ H s)(mu:Mut (H a))(hs:Heap.SameBut a s.heap h')(he:∃q,h'.get? a=some q)(new:ObjOk X.prog X.w (upd H a ob) h' a ob):
  Inv X pins σ (upd H a ob) {s with heap:=h',toks:=t'}:=
 I.write (x:=a) (e:=a) mu (.inl rfl) (fun b q hb z=>(hs.2 b hb).trans z) he new
theorem b0E {P:Program}{w:World}{H':Hp}{h':Heap}{kvs:List (Key×V)}{vs:List (Key×Value)}(z:kvs.length<=sizeLine)(hd:(a==sysModules)=false)(rel:KV kvs vs)(dd:h'.DictAt (mixKind P w) a vs vs.length):
  ObjOk P w H' h' a (.dK kvs):=⟨z,hd,vs,rel,by rw[rel.length];exact dd⟩
theorem a5P {H':Hp}{Q:Unit->Shared->Prop}(hu:A.units+1<cLine)(I:Inv X pins σ H s)(g:DPut H a y v H')(ry:RelV y u)(rv:RelV v r)(h:∀s',Inv X pins σ H' s'->Q () s'):
  wpAny (model X.prog X.w) A (setItem (.ref a) u r) Q E s:=by
 rcases g with ⟨kvs,k,e,ey,l,eH⟩|⟨kvs,k,b,e,ey,eb,l,eH⟩
 ·subst ey eH;obtain⟨z,hd,vs,rel,dd⟩:=dk_at I.hok e;rw[rel.length] at dd;have hz:vs.length<=sizeLine:=by rw[<-rel.length];exact z
  have hl:(putK kvs k v).length<=sizeLine:=by have:=L1 kvs k v;walk_at "o"
  refine a2r (a04 ry) dd hz fun h' dd' hs=>h _ ?_;have he:∃q,h'.get? a=some q:=let ⟨q,_,hq,_⟩:=dd';⟨q,hq⟩;exact a1A I (by rw[e];exact True.intro) hs he (b0E hl hd (rel.put k rv) dd')
 ·subst ey eH;cases(show u=Value.ref b from ry);obtain⟨z,hd,xs,rel,dd⟩:=a3b I.hok (.inl e);have hz:xs.length<=sizeLine:=by rw[<-xN rel];exact z
  have hl:(putK kvs k v).length<=sizeLine:=by have:=L1 kvs k v;walk_at "o"
  refine a3t (yU hu) (a3i I.hok eb) dd hz fun h' dd' hs=>h _ ?_;obtain⟨q,es,hq,h2,h3,h4,_,h5⟩:=dd';refine a1A I (by rw[e];exact True.intro) hs ⟨q,hq⟩ ⟨hl,hd,_,(rel.put k eb rv).keeps fun c ys ec=>?_,q,es,hq,h2,by rw[xN (rel.put k eb rv)];exact h3,h4,h5⟩
  rw[g9 (a9F ec e (fun z=>nomatch z))];exact ec
end
def sDPut (td ty tv:TE):TS:=fun D σ H=>tv σ H fun v H1=>td σ H1 fun x H2=>ty σ H2 fun y H3=>∃a H4,x= .ref a/\DPut H3 a y v H4/\D.nx σ H4
section
variable {X:Cx}{o i value:Expr}{pos pos':Pos}{td ty tv:TE}
theorem a3W (hu:X.A.units+1<cLine)(ho:PE X o td)(hi:PE X i ty)(hv:PE X value tv)(hs:swapsWith value (some (.Subscript o i pos')) pos.line X.env=pure false):
  PS X (.Assign [.Subscript o i pos'] value pos) (sDPut td ty tv):=by
 intro pins s σ H D I h;refine wpAny_Assign_Subscript (thn (hv pins s σ H _ I h) fun r s1 ⟨v,H1,I1,rv,q1⟩=>thn (ho pins s1 σ H1 _ I1 q1) fun u s2 ⟨x,H2,I2,rx,q2⟩=>thn (hi pins s2 σ H2 _ I2 q2) fun iv s3 ⟨y,H3,I3,ry,a,H4,ex,g,q3⟩=>?_) hs;subst ex;obtain rfl:u=Value.ref a:=rx;exact a5P hu I3 g ry rv fun s4 I4=>⟨σ,H4,I4,q3⟩
end
theorem a7W {P:Program}{w:World}{H:Hp}(h:Heap)(hb:sysModules<h.objs.size):ObjOk P w H (h.push {cls:=.type "dict",data:=.dict #[]}) h.objs.size (.dK []):=
 ⟨qL _,beq_eq_false_iff_ne.mpr (jE (zV hb)),[],.nil,_, #[],qA _ rfl,⟨rfl,rfl,rfl⟩,rfl,fun _ he=>by simp at he,Pairs.nil,nodup_nil⟩
theorem a2c {P:Program}{w:World}{H:Hp}(h:Heap)(hb:sysModules<h.objs.size):ObjOk P w H (h.push {cls:=.type "dict",data:=.dict #[]}) h.objs.size (.dT []):=
 ⟨qL _,beq_eq_false_iff_ne.mpr (jE (zV hb)),[],.nil,_, #[],qA _ rfl,⟨rfl,rfl,rfl⟩,rfl,rfl,nodup_nil⟩
def tDNewK:TE:=fun _ H Q=>∀p,H p=none->Q (.ref p) (upd H p (.dK []))
def tDNewT:TE:=fun _ H Q=>∀p,H p=none->Q (.ref p) (upd H p (.dT []))
section
variable {X:Cx}{pos:Pos}
theorem a7Q:PE X (.Dict [] [] pos) tDNewK:=fun pins s σ H Q I h=>
 wpAny_Dict_empty ⟨.ref s.heap.objs.size,_,I.laid (a:=s.heap.objs.size) (o:=.dK []) (t':=s.toks) (fun _ _ q=>zE _ q) (zD _) (a7W s.heap I.big),rfl,h _ (I.hok.fresh (zD _))⟩
theorem a6m:PE X (.Dict [] [] pos) tDNewT:=fun pins s σ H Q I h=>
 wpAny_Dict_empty ⟨.ref s.heap.objs.size,_,I.laid (a:=s.heap.objs.size) (o:=.dT []) (t':=s.toks) (fun _ _ q=>zE _ q) (zD _) (a2c s.heap I.big),rfl,h _ (I.hok.fresh (zD _))⟩
end
end L2
set_option maxHeartbeats 1000000
namespace Z
open PySem PySem.Spec PyProof.Rows L2
theorem obs {α β:Type}{o:Option α}{k:α->Option β}{y:β}(h:o.bind k=some y):∃a,o=some a/\k a=some y:=Option.bind_eq_some_iff.mp h
theorem oms {α β:Type}{o:Option α}{k:α->β}{y:β}(h:o.map k=some y):∃a,o=some a/\k a=y:=Option.map_eq_some_iff.mp h
set_option genInjectivity true in
inductive D where
 | non|bl (b:Bool)|int (i:Int)|str (x:Str)|tup (xs:List D)|lst (xs:List D)|dT (ks:List (List Key)) (xs:List D)|dK (ks:List Key) (xs:List D)|exn (C:Addr)|fn (f:Addr)
set_option genInjectivity true in
inductive W where
 | v (d:D)|o (d:D)|l (d:D)|r (i:Nat)
abbrev Ev:=List (Option W)
abbrev Av:=Addr->Prop
def ExcAt (a C:Addr) (h:Heap):Prop:=∃o vs,h.get? a=some o/\o.cls= .ref C/\o.data= .fields vs
def Mu:HO->Prop
 | .lst _=>True
 | .dT _=>True
 | .dK _=>True
 | _=>False
abbrev Emp:Hp:=fun _=>none
mutual
def Den (K:PySem.W.Frag) (A:Av) (H:Hp):D->V->Prop
 | .non,v=>v= .non
 | .bl b,v=>v= .bl b
 | .int i,v=>v= .int i
 | .str x,v=>v= .str x
 | .tup xs,v=>∃a vs,v= .ref a/\SqT K H a vs/\DenL K A H xs vs
 | .lst xs,v=>∃a vs,v= .ref a/\((H a=some (.lst vs)/\¬A a)\/(∃o,H a=some (.frz o (.lst vs)))\/SqL K Emp a vs)/\DenL K A H xs vs
 | .dT ks xs,v=>∃a vs,v= .ref a/\(H a=some (.dT (ks.zip vs))/\¬A a)/\ks.length=xs.length/\DenL K A H xs vs
 | .dK ks xs,v=>∃a vs,v= .ref a/\(H a=some (.dK (ks.zip vs))/\¬A a)/\ks.length=xs.length/\DenL K A H xs vs
 | .exn C,v=>∃a,v= .ref a/\H a=some (.ext (ExcAt a C))
 | .fn f,v=>v= .ref f
def DenL (K:PySem.W.Frag) (A:Av) (H:Hp):List D->List V->Prop
 | [],vs=>vs=[]
 | d::ds,vs=>∃v r,vs=v::r/\Den K A H d v/\DenL K A H ds r
end
section
variable {K:PySem.W.Frag}{A A' M:Av}{H H':Hp}
structure Go (A A' M:Av) (H H':Hp):Prop where
 k:∀b o,H b=some o->¬M b->H' b=some o
 m:∀b,M b->A b/\∃u,H b=some u/\Mu u
 n:∀b,A' b->A b\/H b=none
theorem Go.not (g:Go A A' M H H'){b:Addr}{u:HO}(e:H b=some u)(n:¬Mu u):H' b=some u:=g.k b u e fun z=>by
 obtain⟨_,u',e',m⟩:=g.m b z;rw[e] at e';cases e';exact n m
theorem Go.lone (g:Go A A' M H H'){b:Addr}{u:HO}(h:H b=some u/\¬A b):H' b=some u/\¬A' b:=
 ⟨g.k b u h.1 fun z=>h.2 (g.m b z).1,fun z=>(g.n b z).elim h.2 fun z=>by rw[h.1] at z;cases z⟩
mutual
theorem p0 (g:Go A A' M H H'):∀(d:D) (v:V),Den K A H d v->Den K A' H' d v
 | .non,v,h=>by rw[Den] at h ⊢;exact h
 | .bl b,v,h=>by rw[Den] at h ⊢;exact h
 | .int i,v,h=>by rw[Den] at h ⊢;exact h
 | .str x,v,h=>by rw[Den] at h ⊢;exact h
 | .tup xs,v,h=>by
  rw[Den] at h ⊢;obtain⟨a,vs,e,q,l⟩:=h;refine⟨a,vs,e,?_,q9 g xs vs l⟩;rcases q with (q|⟨o,q⟩)|q
  ·exact .inl (.inl (g.not q id))
  ·exact .inl (.inr ⟨o,g.not q id⟩)
  ·exact .inr q
 | .lst xs,v,h=>by
  rw[Den] at h ⊢;obtain⟨a,vs,e,q,l⟩:=h;refine⟨a,vs,e,?_,q9 g xs vs l⟩;rcases q with q|⟨o,q⟩|q
  ·exact .inl (g.lone q)
  ·exact .inr (.inl ⟨o,g.not q id⟩)
  ·exact .inr (.inr q)
 | .dT ks xs,v,h=>by
  rw[Den] at h ⊢;obtain⟨a,vs,e,q,hl,l⟩:=h;exact⟨a,vs,e,g.lone q,hl,q9 g xs vs l⟩
 | .dK ks xs,v,h=>by
  rw[Den] at h ⊢;obtain⟨a,vs,e,q,hl,l⟩:=h;exact⟨a,vs,e,g.lone q,hl,q9 g xs vs l⟩
 | .exn C,v,h=>by
  rw[Den] at h ⊢;obtain⟨a,e,q⟩:=h;exact⟨a,e,g.not q id⟩
 | .fn _,v,h=>by rw[Den] at h ⊢;exact h
theorem q9 (g:Go A A' M H H'):∀(ds:List D) (vs:List V),DenL K A H ds vs->DenL K A' H' ds vs
 | [],vs,h=>by rw[DenL] at h ⊢;exact h
 | d::ds,vs,h=>by
  rw[DenL] at h ⊢;obtain⟨v,r,e,q,l⟩:=h;exact⟨v,r,e,p0 g d v q,q9 g ds r l⟩
end
theorem a1Z (s:Same H H'):Go A A (fun _=>False) H H':=⟨fun b o e _=>s b o e,fun _ z=>z.elim,fun _ z=>.inl z⟩
theorem w4 (h:∀b,A' b->A b):Go A A' (fun _=>False) H H:=⟨fun _ _ e _=>e,fun _ z=>z.elim,fun b z=>.inl (h b z)⟩
theorem S3 (s:Same H H'){d:D}{v:V}(h:Den K A H d v):Den K A H' d v:=p0 (a1Z s) d v h
theorem a5k (s:Same H H'){d:List D}{v:List V}(h:DenL K A H d v):DenL K A H' d v:=q9 (a1Z s) d v h
theorem j4 {d:D}{ds:List D}{v:V}{vs:List V}(h:Den K A H d v)(t:DenL K A H ds vs):DenL K A H (d::ds) (v::vs):=by rw[DenL];exact⟨v,vs,rfl,h,t⟩
theorem j6:DenL K A H [] []:=by rw[DenL]
theorem v3:∀{ds es:List D} {vs ws:List V},DenL K A H ds vs->DenL K A H es ws->DenL K A H (ds++es) (vs++ws)
 | [],_,_,_,h,t=>by rw[DenL] at h;subst h;exact t
 | d::ds,_,_,_,h,t=>by
  rw[DenL] at h;obtain⟨v,r,rfl,q,l⟩:=h;exact j4 q (v3 l t)
theorem b9:∀{ds:List D} {vs:List V},DenL K A H ds vs->ds.length=vs.length
 | [],_,h=>by rw[DenL] at h;subst h;rfl
 | d::ds,_,h=>by
  rw[DenL] at h;obtain⟨v,r,rfl,q,l⟩:=h;rw[qB,qB,b9 l]
theorem z6:∀{ds:List D} {vs:List V} {i:Nat} {d:D},DenL K A H ds vs->ds[i]? =some d->∃v,vs[i]? =some v/\Den K A H d v
 | [],_,_,_,_,e=>by simp at e
 | d::ds,_,0,_,h,e=>by
  rw[DenL] at h;obtain⟨v,r,rfl,q,l⟩:=h;simp at e;subst e;exact⟨v,rfl,q⟩
 | d::ds,_,i+1,x,h,e=>by
  rw[DenL] at h;obtain⟨v,r,rfl,q,l⟩:=h;obtain⟨u,h1,h2⟩:=z6 (i:=i) (d:=x) l (by simpa using e)
  exact⟨u,by simpa using h1,h2⟩
theorem a2S {d:D}{v:V}(hd:Den K A H d v):∀{ds:List D} {vs:List V} (i:Nat),DenL K A H ds vs->DenL K A H (ds.set i d) (vs.set i v)
 | [],_,_,h=>by rw[DenL] at h;subst h;exact j6
 | _::_,_,0,h=>by
  rw[DenL] at h;obtain⟨v,r,rfl,q,l⟩:=h;exact j4 hd l
 | _::_,_,i+1,h=>by
  rw[DenL] at h;obtain⟨v,r,rfl,q,l⟩:=h;exact j4 q (a2S hd i l)
theorem a1k:∀{ds:List D} {vs:List V} (n:Nat),DenL K A H ds vs->DenL K A H (ds.take n) (vs.take n)
 | [],_,n,h=>by rw[DenL] at h;subst h;simp;exact j6
 | d::ds,_,0,h=>by simp;exact j6
 | d::ds,_,n+1,h=>by
  rw[DenL] at h;obtain⟨v,r,rfl,q,l⟩:=h;exact j4 q (a1k n l)
theorem a1n:∀{ds:List D} {vs:List V} (n:Nat),DenL K A H ds vs->DenL K A H (ds.drop n) (vs.drop n)
 | [],_,n,h=>by rw[DenL] at h;subst h;simp;exact j6
 | d::ds,_,0,h=>h
 | d::ds,_,n+1,h=>by
  rw[DenL] at h;obtain⟨v,r,rfl,q,l⟩:=h;exact a1n n l
theorem w9 {i:Int}{v:V}:Den K A H (.int i) v↔v= .int i:=by rw[Den]
theorem a1Y {i:Bool}{v:V}:Den K A H (.bl i) v↔v= .bl i:=by rw[Den]
theorem a8M {v:V}:Den K A H .non v↔v= .non:=by rw[Den]
theorem a1v {i:Str}{v:V}:Den K A H (.str i) v↔v= .str i:=by rw[Den]
theorem denL1 {d:D}{vs:List V}(l:DenL K A H [d] vs):∃v,vs=[v]/\Den K A H d v:=by
 rw[DenL] at l;obtain⟨v,r,rfl,h,l⟩:=l;rw[DenL] at l;subst l;exact⟨v,rfl,h⟩
theorem denL2 {d e:D}{vs:List V}(l:DenL K A H [d,e] vs):∃v u,vs=[v,u]/\Den K A H d v/\Den K A H e u:=by
 rw[DenL] at l;obtain⟨v,r,rfl,h,l⟩:=l;obtain⟨u,rfl,h'⟩:=denL1 l;exact⟨v,u,rfl,h,h'⟩
end
mutual
def lf:D->Bool
 | .tup xs=>lfL xs
 | .lst _=>false
 | .dT _ _=>false
 | .dK _ _=>false
 | _=>true
def lfL:List D->Bool
 | []=>true
 | d::ds=>lf d&&lfL ds
end
section
variable {K:PySem.W.Frag}{A A':Av}{H H':Hp}
mutual
theorem a3J (g:∀b o,H b=some o->¬Mu o->H' b=some o):∀(d:D) (v:V),lf d=true->Den K A H d v->Den K A' H' d v
 | .non,v,_,h=>by rw[Den] at h ⊢;exact h
 | .bl b,v,_,h=>by rw[Den] at h ⊢;exact h
 | .int i,v,_,h=>by rw[Den] at h ⊢;exact h
 | .str x,v,_,h=>by rw[Den] at h ⊢;exact h
 | .tup xs,v,f,h=>by
  rw[Den] at h ⊢;obtain⟨a,vs,e,q,l⟩:=h;refine⟨a,vs,e,?_,S5 g xs vs (by rw[lf] at f;exact f) l⟩
  rcases q with (q|⟨o,q⟩)|q
  ·exact .inl (.inl (g _ _ q id))
  ·exact .inl (.inr ⟨o,g _ _ q id⟩)
  ·exact .inr q
 | .lst xs,v,f,h=>by rw[lf] at f;cases f
 | .dT _ xs,v,f,h=>by rw[lf] at f;cases f
 | .dK _ xs,v,f,h=>by rw[lf] at f;cases f
 | .exn _,v,_,h=>by rw[Den] at h ⊢;obtain⟨a,e,q⟩:=h;exact⟨a,e,g _ _ q id⟩
 | .fn _,v,_,h=>by rw[Den] at h ⊢;exact h
theorem S5 (g:∀b o,H b=some o->¬Mu o->H' b=some o):∀(d:List D) (v:List V),lfL d=true->DenL K A H d v->DenL K A' H' d v
 | [],v,_,h=>by rw[DenL] at h ⊢;exact h
 | d::ds,v,f,h=>by
  rw[lfL,qR] at f;rw[DenL] at h ⊢;obtain⟨u,r,e,q,l⟩:=h;exact⟨u,r,e,a3J g d u f.1 q,S5 g ds r f.2 l⟩
end
end
def Obj (K:PySem.W.Frag) (A:Av) (H:Hp) (a:Addr):D->Prop
 | .lst xs=>∃vs,H a=some (.lst vs)/\DenL K A H xs vs
 | .dT ks xs=>∃vs,H a=some (.dT (ks.zip vs))/\ks.length=xs.length/\DenL K A H xs vs
 | .dK ks xs=>∃vs,H a=some (.dK (ks.zip vs))/\ks.length=xs.length/\DenL K A H xs vs
 | _=>False
def DenR (K:PySem.W.Frag) (A:Av) (H:Hp):D->V->Prop
 | .lst xs,v=>∃a vs,v= .ref a/\SqL K H a vs/\DenL K A H xs vs
 | .dT ks xs,v=>∃a vs,v= .ref a/\H a=some (.dT (ks.zip vs))/\ks.length=xs.length/\DenL K A H xs vs
 | .dK ks xs,v=>∃a vs,v= .ref a/\H a=some (.dK (ks.zip vs))/\ks.length=xs.length/\DenL K A H xs vs
 | d,v=>Den K A H d v
section
variable {K:PySem.W.Frag}{A A' M:Av}{H H':Hp}{d:D}{v:V}{a:Addr}
theorem w6 (g:Go A A' M H H')(hk:H' a=H a)(h:Obj K A H a d):Obj K A' H' a d:=by
 cases d with
 | lst xs=>obtain⟨vs,e,l⟩:=h;exact⟨vs,hk.trans e,q9 g _ _ l⟩
 | dT ks xs=>obtain⟨vs,e,hl,l⟩:=h;exact⟨vs,hk.trans e,hl,q9 g _ _ l⟩
 | dK ks xs=>obtain⟨vs,e,hl,l⟩:=h;exact⟨vs,hk.trans e,hl,q9 g _ _ l⟩
 | _=>exact h
theorem D9 (h:Obj K A H a d):∃u,H a=some u/\Mu u:=by
 cases d with
 | lst xs=>obtain⟨vs,e,l⟩:=h;exact⟨_,e,trivial⟩
 | dT ks xs=>obtain⟨vs,e,hl,l⟩:=h;exact⟨_,e,trivial⟩
 | dK ks xs=>obtain⟨vs,e,hl,l⟩:=h;exact⟨_,e,trivial⟩
 | _=>exact h.elim
theorem T7 (h:Obj K A H a d)(n:¬A a):Den K A H d (.ref a):=by
 cases d with
 | lst xs=>obtain⟨vs,e,l⟩:=h;rw[Den];exact⟨a,vs,rfl,.inl ⟨e,n⟩,l⟩
 | dT ks xs=>obtain⟨vs,e,hl,l⟩:=h;rw[Den];exact⟨a,vs,rfl,⟨e,n⟩,hl,l⟩
 | dK ks xs=>obtain⟨vs,e,hl,l⟩:=h;rw[Den];exact⟨a,vs,rfl,⟨e,n⟩,hl,l⟩
 | _=>exact h.elim
theorem obj_r (h:Obj K A H a d):DenR K A H d (.ref a):=by
 cases d with
 | lst xs=>obtain⟨vs,e,l⟩:=h;exact⟨a,vs,rfl,.inl (.inl e),l⟩
 | dT ks xs=>obtain⟨vs,e,hl,l⟩:=h;exact⟨a,vs,rfl,e,hl,l⟩
 | dK ks xs=>obtain⟨vs,e,hl,l⟩:=h;exact⟨a,vs,rfl,e,hl,l⟩
 | _=>exact h.elim
theorem D1 (h:Den K A H d v):DenR K A H d v:=by
 cases d with
 | lst xs=>
  rw[Den] at h;obtain⟨a,vs,e,q,l⟩:=h;refine⟨a,vs,e,?_,l⟩;rcases q with q|⟨o,q⟩|(q|⟨o,q⟩)|q
  ·exact .inl (.inl q.1)
  ·exact .inl (.inr ⟨o,q⟩)
  ·cases q
  ·cases q
  ·exact .inr q
 | dT ks xs=>rw[Den] at h;obtain⟨a,vs,e,q,l⟩:=h;exact⟨a,vs,e,q.1,l⟩
 | dK ks xs=>rw[Den] at h;obtain⟨a,vs,e,q,l⟩:=h;exact⟨a,vs,e,q.1,l⟩
 | _=>exact h
end
def W.own:W->Option D
 | .o d=>some d
 | .l d=>some d
 | _=>none
def Ow (ρ:Ev) (σ:L2.St):Av:=fun b=>∃(i:Nat) (w:W) (d:D),ρ[i]? =some (some w)/\w.own=some d/\σ[i]? =some (some (V.ref b))
abbrev AvO (O:Av) (ρ:Ev) (σ:L2.St):Av:=fun b=>O b\/Ow ρ σ b
def SlotOk (K:PySem.W.Frag) (A:Av) (H:Hp):W->V->Prop
 | .v d,v=>Den K A H d v
 | .o d,v=>∃a,v= .ref a/\Obj K A H a d
 | .l d,v=>∃a,v= .ref a/\Obj K A H a d
 | .r _,_=>False
def hz (X:Cx) (L:List (Option Nat×Addr)):Hp:=fun b=>if(none,b)∈L then none else X.H₀ b
structure Rep (X:Cx) (P:List (D×V)) (O:Av) (L:List (Option Nat×Addr)) (ρ:Ev) (σ:L2.St) (H:Hp):Prop where
 same:∀b o,X.H₀ b=some o->(∀i,(i,b)∉L)->H b=some o
 amb:∀b,O b->(∃o,X.H₀ b=some o)/\∀i,(i,b)∉L
 len:ρ.length=σ.length
 slot:∀(i:Nat) (w:W),ρ[i]? =some (some w)->∃v,σ[i]? =some (some v)/\SlotOk X.K (AvO O ρ σ) H w v
 inj:∀(i j:Nat) (w w':W) (d d':D) (b:Addr),ρ[i]? =some (some w)->w.own=some d->σ[i]? =some (some (.ref b))->ρ[j]? =some (some w')->w'.own=some d'->σ[j]? =some (some (.ref b))->i=j
 new:∀(i:Nat) (d:D) (b:Addr),ρ[i]? =some (some (.o d))->σ[i]? =some (some (.ref b))->hz X L b=none
 lnt:∀(i:Nat) (d:D),ρ[i]? =some (some (.l d))->∃b,σ[i]? =some (some (.ref b))/\(some i,b)∈L
 lnd:∀(i:Nat) (b:Addr),(some i,b)∈L->∃d,ρ[i]? =some (some (.l d))/\σ[i]? =some (some (.ref b))
 prot:∀p∈P,Den X.K (AvO O ρ σ) H p.1 p.2
 gvl:∀b,(none,b)∈L->∃(i:Nat) (a:Addr),(some i,a)∈L
section
variable {X:Cx}{P:List (D×V)}{O:Av}{L:List (Option Nat×Addr)}{ρ:Ev}{σ:L2.St}{H H':Hp}
theorem a3w {K:PySem.W.Frag}{A:Av}{H:Hp}{w:W}{d:D}{v:V}(h:SlotOk K A H w v)(e:w.own=some d):∃a,v= .ref a/\Obj K A H a d:=by
 cases w<;>simp only[W.own] at e<;>first|(cases e;exact h)|cases e
theorem Rep.obj (r:Rep X P O L ρ σ H){i:Nat}{w:W}{d:D}(e:ρ[i]? =some (some w))(ew:w.own=some d):∃a,σ[i]? =some (some (.ref a))/\Obj X.K (AvO O ρ σ) H a d:=by
 obtain⟨v,h1,h2⟩:=r.slot i w e;obtain⟨a,rfl,h3⟩:=a3w h2 ew;exact⟨a,h1,h3⟩
theorem Rep.owMu (r:Rep X P O L ρ σ H){b:Addr}(z:Ow ρ σ b):∃u,H b=some u/\Mu u:=by
 obtain⟨i,w,d,e1,e2,e3⟩:=z;obtain⟨a,h1,h2⟩:=r.obj e1 e2;rw[e3] at h1;cases h1;exact D9 h2
theorem Rep.ambN (r:Rep X P O L ρ σ H){b:Addr}(z:O b):¬Ow ρ σ b:=fun⟨i,w,d,e1,e2,e3⟩=>by
 obtain⟨⟨o,h0⟩,hl⟩:=r.amb b z;cases w with
 | o d'=>have:=r.new i d' b e1 e3;unfold hz at this;rw[if_neg (hl none),h0] at this;cases this
 | l d'=>obtain⟨c,h1,h2⟩:=r.lnt i d' e1;rw[e3] at h1;cases h1;exact hl (some i) h2
 | _=>cases e2
theorem Rep.there (r:Rep X P O L ρ σ H){b:Addr}(z:AvO O ρ σ b):∃o,H b=some o:=by
 rcases z with z|z
 ·obtain⟨⟨o,h0⟩,hl⟩:=r.amb b z;exact⟨o,r.same b o h0 hl⟩
 ·obtain⟨u,e,_⟩:=r.owMu z;exact⟨u,e⟩
theorem Rep.fresh (r:Rep X P O L ρ σ H){b:Addr}(n:H b=none):¬AvO O ρ σ b:=fun z=>by obtain⟨o,e⟩:=r.there z;rw[n] at e;cases e
theorem Rep.fresh0 (r:Rep X P O L ρ σ H){b:Addr}(n:H b=none):hz X L b=none:=by
 unfold hz
 split
 ·rfl
 ·rename_i hg;cases q:X.H₀ b with
  | none=>rfl
  | some o=>
   have:H b=some o:=r.same b o q fun i e=>by
    cases i with
    | none=>exact hg e
    | some i=>
     obtain⟨d,h1,h2⟩:=r.lnd i b e;obtain⟨a,h3,h4⟩:=r.obj h1 rfl;rw[h2] at h3;cases h3;obtain⟨u,e,_⟩:=D9 h4;rw[n] at e;cases e
   rw[n] at this;cases this
theorem G6 {K:PySem.W.Frag}{A A' M:Av}{H H':Hp}(g:Go A A' M H H'){w:W}{v:V}(hk:∀a d,w.own=some d->v= .ref a->H' a=H a)(h:SlotOk K A H w v):SlotOk K A' H' w v:=by
 cases w with
 | v d=>exact p0 g _ _ h
 | o d=>obtain⟨a,e,q⟩:=h;exact⟨a,e,w6 g (hk a d rfl e) q⟩
 | l d=>obtain⟨a,e,q⟩:=h;exact⟨a,e,w6 g (hk a d rfl e) q⟩
 | r i=>exact h
theorem Rep.grow (r:Rep X P O L ρ σ H)(s:Same H H'):Rep X P O L ρ σ H' where
 same:=fun b o e hl=>s b o (r.same b o e hl)
 amb:=r.amb
 len:=r.len
 slot:=fun i w e=>by
  obtain⟨v,h1,h2⟩:=r.slot i w e;refine⟨v,h1,G6 (a1Z s) (fun a d ew ev=>?_) h2⟩;subst ev;obtain⟨b,h3,h4⟩:=r.obj e ew;rw[h1] at h3;cases h3;obtain⟨u,eu,_⟩:=D9 h4;rw[eu,s _ _ eu]
 inj:=r.inj
 new:=r.new
 lnt:=r.lnt
 lnd:=r.lnd
 prot:=fun p hp=>S3 s (r.prot p hp)
 gvl:=r.gvl
theorem Rep.more {p:D×V}(r:Rep X P O L ρ σ H)(h:Den X.K (AvO O ρ σ) H p.1 p.2):Rep X (p::P) O L ρ σ H:=
 ⟨r.same,r.amb,r.len,r.slot,r.inj,r.new,r.lnt,r.lnd,fun q hq=>(zS.mp hq).elim (fun e=>by rw[e];exact h) (r.prot q),r.gvl⟩
theorem Rep.less {p:D×V}(r:Rep X (p::P) O L ρ σ H):Rep X P O L ρ σ H:=
 ⟨r.same,r.amb,r.len,r.slot,r.inj,r.new,r.lnt,r.lnd,fun q hq=>r.prot q (zL _ hq),r.gvl⟩
theorem Rep.head {p:D×V}(r:Rep X (p::P) O L ρ σ H):Den X.K (AvO O ρ σ) H p.1 p.2:=r.prot p zM
theorem p6 {α:Type}{l:List α}{i j:Nat}{x y:α}(e:(l.set i x)[j]? =some y):(j=i/\y=x/\i<l.length)\/(j≠i/\l[j]? =some y):=by
 by_cases q:i=j
 ·subst q;rw[List.getElem?_set,if_pos rfl] at e;split at e
  ·cases e;rename_i h;exact .inl ⟨rfl,rfl,h⟩
  ·cases e
 ·rw[zU q] at e;exact .inr ⟨jE q,e⟩
theorem A3 {α:Type}{l:List α}{i:Nat}{x:α}(h:i<l.length):(l.set i x)[i]? =some x:=by rw[List.getElem?_set,if_pos rfl,if_pos h]
def freeSlot (ρ:Ev) (i:Nat):Bool:=match ρ[i]? with
 | some (some (.l _))=>false
 | _=>true
theorem Rep.put (r:Rep X P O L ρ σ H){i:Nat}{d:D}{v:V}(hf:freeSlot ρ i=true)(h:Den X.K (AvO O ρ σ) H d v):Rep X P O L (ρ.set i (some (.v d))) (σ.set i (some v)) H:=by
 have sub:∀b,AvO O (ρ.set i (some (.v d))) (σ.set i (some v)) b->AvO O ρ σ b:=fun b z=>by
  rcases z with z|⟨j,w,c,e1,e2,e3⟩
  ·exact .inl z
  ·rcases p6 e1 with ⟨rfl,z,_⟩|⟨n,e1⟩
   ·cases z;cases e2
   ·rw[zU (jE n)] at e3;exact .inr ⟨j,w,c,e1,e2,e3⟩
 have g:=w4 (H:=H) sub;have st:∀{j:Nat} {w:W} {c:D},(ρ.set i (some (.v d)))[j]? =some (some w)->w.own=some c->j≠i/\ρ[j]? =some (some w):=fun{j w c} e1 e2=>by
  rcases p6 e1 with ⟨rfl,z,_⟩|z
  ·cases z;cases e2
  ·exact z
 refine⟨r.same,r.amb,by rw[length_set,length_set];exact r.len,fun j w e=>?_,fun j k w w' c c' b e1 e2 e3 e4 e5 e6=>?_,fun j c b e1 e2=>?_,fun j c e=>?_,fun j b e=>?_,fun p hp=>p0 g _ _ (r.prot p hp),r.gvl⟩
 ·rcases p6 e with ⟨rfl,z,hl⟩|⟨n,e⟩
  ·cases z;exact⟨v,A3 (by rw[<-r.len];exact hl),p0 g _ _ h⟩
  ·obtain⟨u,h1,h2⟩:=r.slot j w e;exact⟨u,by rw[zU (jE n)];exact h1,G6 g (fun _ _ _ _=>rfl) h2⟩
 ·obtain⟨n1,e1⟩:=st e1 e2;obtain⟨n2,e4⟩:=st e4 e5;rw[zU (jE n1)] at e3;rw[zU (jE n2)] at e6;exact r.inj j k w w' c c' b e1 e2 e3 e4 e5 e6
 ·obtain⟨n1,e1⟩:=st (c:=c) e1 rfl;rw[zU (jE n1)] at e2;exact r.new j c b e1 e2
 ·obtain⟨n1,e1⟩:=st (c:=c) e rfl;rw[zU (jE n1)];exact r.lnt j c e1
 ·obtain⟨c,h1,h2⟩:=r.lnd j b e;have n:i≠j:=fun z=>by subst z;unfold freeSlot at hf;rw[h1] at hf;cases hf
  exact⟨c,by rw[zU n];exact h1,by rw[zU n];exact h2⟩
theorem Rep.putO (r:Rep X P O L ρ σ H)(s:Same H H'){i:Nat}{d:D}{a:Addr}(hf:freeSlot ρ i=true)(hn:H a=none)(h:Obj X.K (fun b=>AvO O ρ σ b\/b=a) H' a d):Rep X P O L (ρ.set i (some (.o d))) (σ.set i (some (.ref a))) H':=by
 have nA:=r.fresh hn;have sub:∀b,AvO O (ρ.set i (some (.o d))) (σ.set i (some (.ref a))) b->AvO O ρ σ b\/b=a:=fun b z=>by
  rcases z with z|⟨j,w,c,e1,e2,e3⟩
  ·exact .inl (.inl z)
  ·rcases p6 e1 with ⟨rfl,z,hl⟩|⟨n,e1⟩
   ·rw[A3 (by rw[<-r.len];exact hl)] at e3;cases e3;exact .inr rfl
   ·rw[zU (jE n)] at e3;exact .inl (.inr ⟨j,w,c,e1,e2,e3⟩)
 have g:Go (AvO O ρ σ) (AvO O (ρ.set i (some (.o d))) (σ.set i (some (.ref a)))) (fun _=>False) H H':=⟨fun b o e _=>s b o e,fun _ z=>z.elim,fun b z=>(sub b z).imp id fun z=>by rw[z];exact hn⟩
 have old:∀{j:Nat} {w:W} {b:Addr},ρ[j]? =some (some w)->σ[j]? =some (some (.ref b))->w.own≠none->b≠a:=fun{j w b} e1 e2 e3 z=>by
  cases q:w.own with
  | none=>exact e3 q
  | some c=>exact nA (.inr ⟨j,w,c,e1,q,by rw[<-z];exact e2⟩)
 refine⟨fun b o e hl=>s b o (r.same b o e hl),r.amb,by rw[length_set,length_set];exact r.len,fun j w e=>?_,fun j k w w' c c' b e1 e2 e3 e4 e5 e6=>?_,fun j c b e1 e2=>?_,fun j c e=>?_,fun j b e=>?_,fun p hp=>p0 g _ _ (r.prot p hp),r.gvl⟩
 ·rcases p6 e with ⟨rfl,z,hl⟩|⟨n,e⟩
  ·cases z;exact⟨.ref a,A3 (by rw[<-r.len];exact hl),a,rfl,w6 (w4 sub) rfl h⟩
  ·obtain⟨u,h1,h2⟩:=r.slot j w e;refine⟨u,by rw[zU (jE n)];exact h1,G6 g (fun b c ec eb=>?_) h2⟩
   subst eb;obtain⟨o,eo,_⟩:=r.owMu ⟨j,w,c,e,ec,h1⟩;rw[eo,s _ _ eo]
 ·rcases p6 e1 with ⟨rfl,z,hl⟩|⟨n1,e1⟩
  ·rw[A3 (by rw[<-r.len];exact hl)] at e3;cases e3
   rcases p6 e4 with ⟨rfl,_,_⟩|⟨n2,e4⟩
   ·rfl
   ·rw[zU (jE n2)] at e6;exact absurd rfl (old e4 e6 (by rw[e5];exact nofun))
  ·rw[zU (jE n1)] at e3;have f1:=old e1 e3 (by rw[e2];exact nofun)
   rcases p6 e4 with ⟨rfl,_,hl⟩|⟨n2,e4⟩
   ·rw[A3 (by rw[<-r.len];exact hl)] at e6;cases e6
    exact absurd rfl f1
   ·rw[zU (jE n2)] at e6;exact r.inj j k w w' c c' b e1 e2 e3 e4 e5 e6
 ·rcases p6 e1 with ⟨rfl,z,hl⟩|⟨n1,e1⟩
  ·rw[A3 (by rw[<-r.len];exact hl)] at e2;cases e2;exact r.fresh0 hn
  ·rw[zU (jE n1)] at e2;exact r.new j c b e1 e2
 ·rcases p6 e with ⟨rfl,z,hl⟩|⟨n1,e⟩
  ·cases z
  ·rw[zU (jE n1)];exact r.lnt j c e
 ·obtain⟨c,h1,h2⟩:=r.lnd j b e;have n:i≠j:=fun z=>by subst z;unfold freeSlot at hf;rw[h1] at hf;cases hf
  exact⟨c,by rw[zU n];exact h1,by rw[zU n];exact h2⟩
def setOwn (ρ:Ev) (i:Nat) (d:D):Ev:=match ρ[i]? with
 | some (some (.l _))=>ρ.set i (some (.l d))
 | _=>ρ.set i (some (.o d))
def ownAt (ρ:Ev) (i:Nat):Option D:=match ρ[i]? with
 | some (some w)=>w.own
 | _=>none
theorem o9 {ρ:Ev}{i:Nat}{c:D}(e:ownAt ρ i=some c):∃w,ρ[i]? =some (some w)/\w.own=some c:=by
 unfold ownAt at e;split at e
 ·rename_i w q;exact⟨w,q,e⟩
 ·cases e
theorem Q1 {ρ:Ev}{i:Nat}{c d:D}(e:ownAt ρ i=some c):∃w,w.own=some d/\setOwn ρ i d=ρ.set i (some w)/\((∃x,w= .l x)↔∃x,ρ[i]? =some (some (.l x))):=by
 obtain⟨w,q,e⟩:=o9 e;unfold setOwn;cases w with
 | v d=>cases e
 | r d=>cases e
 | o x=>rw[q];exact⟨.o d,rfl,rfl,by simp⟩
 | l x=>rw[q];exact⟨.l d,rfl,rfl,by simp⟩
theorem N4 {ρ:Ev}{σ:L2.St}{i:Nat}{c d:D}(e:ownAt ρ i=some c)(b:Addr):Ow (setOwn ρ i d) σ b↔Ow ρ σ b:=by
 obtain⟨w,h1,h2,_⟩:=Q1 (d:=d) e;obtain⟨w0,q,e0⟩:=o9 e;rw[h2];constructor
 ·rintro⟨j,w',c',e1,e2,e3⟩;rcases p6 e1 with ⟨rfl,z,_⟩|⟨n,e1⟩
  ·exact⟨j,w0,c,q,e0,e3⟩
  ·exact⟨j,w',c',e1,e2,e3⟩
 ·rintro⟨j,w',c',e1,e2,e3⟩
  by_cases n:j=i
  ·subst n;exact⟨j,w,d,A3 (zO.mp q).1,h1,e3⟩
  ·exact⟨j,w',c',by rw[zU (jE n)];exact e1,e2,e3⟩
theorem Rep.mut (r:Rep X P O L ρ σ H){i:Nat}{a:Addr}{c d:D}(e:ownAt ρ i=some c)(ea:σ[i]? =some (some (.ref a)))(hk:∀b o,H b=some o->b≠a->H' b=some o)(h:Obj X.K (AvO O ρ σ) H' a d):
  Rep X P O L (setOwn ρ i d) σ H':=by
 obtain⟨w,h1,h2,h3⟩:=Q1 (d:=d) e;obtain⟨w0,q,e0⟩:=o9 e;have av:AvO O (setOwn ρ i d) σ=AvO O ρ σ:=funext fun b=>propext (or_congr Iff.rfl (N4 e b));have ma:Ow ρ σ a:=⟨i,w0,c,q,e0,ea⟩;have g:Go (AvO O ρ σ) (AvO O ρ σ) (fun b=>b=a) H H':=⟨hk,fun b z=>by rw[z];exact⟨.inr ma,r.owMu ma⟩,fun b z=>.inl z⟩
 have st:∀{j:Nat} {w':W} {c':D},(setOwn ρ i d)[j]? =some (some w')->w'.own=some c'->∃w'' c'',ρ[j]? =some (some w'')/\w''.own=some c'':=fun{j w' c'} e1 e2=>by
  rw[h2] at e1;rcases p6 e1 with ⟨rfl,_,_⟩|⟨_,e1⟩
  ·exact⟨w0,c,q,e0⟩
  ·exact⟨w',c',e1,e2⟩
 refine⟨fun b o eb hl=>hk b o (r.same b o eb hl) fun z=>?_,r.amb,by rw[h2,length_set];exact r.len,fun j w' e'=>?_,fun j k w1 w2 c1 c2 b e1 e2 e3 e4 e5 e6=>?_,fun j c' b e1 e2=>?_,fun j c' e'=>?_,fun j b e'=>?_,fun p hp=>by rw[av];exact p0 g _ _ (r.prot p hp),r.gvl⟩
 ·subst z;cases w0 with
  | o x=>have:=r.new i x b q ea;unfold hz at this;rw[if_neg (hl none),eb] at this;cases this
  | l x=>obtain⟨c',q1,q2⟩:=r.lnt i x q;rw[ea] at q1;cases q1;exact hl (some i) q2
  | _=>cases e0
 ·rw[av];rw[h2] at e';rcases p6 e' with ⟨rfl,z,_⟩|⟨n,e'⟩
  ·cases z;refine⟨.ref a,ea,?_⟩;cases w with
   | o x=>cases h1;exact⟨a,rfl,h⟩
   | l x=>cases h1;exact⟨a,rfl,h⟩
   | _=>cases h1
  ·obtain⟨u,q1,q2⟩:=r.slot j w' e';refine⟨u,q1,G6 g (fun b c' ec eb=>?_) q2⟩;subst eb;have nb:b≠a:=fun z=>n (r.inj j i w' w0 c' c a e' ec (by rw[<-z];exact q1) q e0 ea)
   obtain⟨o,eo,_⟩:=r.owMu ⟨j,w',c',e',ec,q1⟩;rw[eo,hk _ _ eo nb]
 ·obtain⟨u1,v1,q1,q2⟩:=st e1 e2;obtain⟨u2,v2,q3,q4⟩:=st e4 e5;exact r.inj j k u1 u2 v1 v2 b q1 q2 e3 q3 q4 e6
 ·rw[h2] at e1;rcases p6 e1 with ⟨rfl,z,_⟩|⟨n,e1⟩
  ·cases z;cases w0 with
   | o x=>exact r.new j x b q e2
   | l x=>exact absurd (h3.mpr ⟨x,q⟩) (by simp)
   | _=>cases e0
  ·exact r.new j c' b e1 e2
 ·rw[h2] at e';rcases p6 e' with ⟨rfl,z,_⟩|⟨n,e'⟩
  ·cases z;obtain⟨x,qx⟩:=h3.mp ⟨_,rfl⟩;exact r.lnt j x qx
  ·exact r.lnt j c' e'
 ·obtain⟨c',q1,q2⟩:=r.lnd j b e'
  by_cases n:j=i
  ·subst n;obtain⟨x,rfl⟩:=h3.mpr ⟨c',q1⟩;exact⟨x,by rw[h2];exact A3 (zO.mp q).1,q2⟩
  ·exact⟨c',by rw[h2,zU (jE n)];exact q1,q2⟩
def frzAt (ρ:Ev) (i:Nat):Option Ev:=match ρ[i]? with
 | some (some (.o d))=>some (ρ.set i (some (.v d)))
 | some (some (.v _))=>some ρ
 | _=>none
theorem Rep.frz (r:Rep X P O L ρ σ H){i:Nat}{ρ':Ev}(e:frzAt ρ i=some ρ'):Rep X P O L ρ' σ H/\∀(j:Nat) (w:W) (d:D),ρ'[j]? =some (some w)->w.own=some d->ρ[j]? =some (some w)/\j≠i:=by
 unfold frzAt at e;split at e
 ·rename_i d q;cases e;obtain⟨a,h1,h2⟩:=r.obj q rfl;have hl:i<σ.length:=by rw[<-r.len];exact(zO.mp q).1
  have es:σ.set i (some (.ref a))=σ:=by
   apply ext_getElem?;intro j
   by_cases z:i=j
   ·subst z;rw[A3 hl,h1]
   ·rw[zU z]
  have hw:¬AvO O (ρ.set i (some (.v d))) σ a:=fun z=>by
   rcases z with z|⟨j,w,c,e1,e2,e3⟩
   ·exact r.ambN z ⟨i,_,d,q,rfl,h1⟩
   ·rcases p6 e1 with ⟨rfl,z,_⟩|⟨n,e1⟩
    ·cases z;cases e2
    ·exact n (r.inj j i w (.o d) c d a e1 e2 e3 q rfl h1)
  have sub:∀b,AvO O (ρ.set i (some (.v d))) σ b->AvO O ρ σ b:=fun b z=>by
   rcases z with z|⟨j,w,c,e1,e2,e3⟩
   ·exact .inl z
   ·rcases p6 e1 with ⟨rfl,z,_⟩|⟨n,e1⟩
    ·cases z;cases e2
    ·exact .inr ⟨j,w,c,e1,e2,e3⟩
  have g:=w4 (H:=H) sub;refine⟨⟨r.same,r.amb,by rw[length_set];exact r.len,fun j w e=>?_,fun j k w w' c c' b e1 e2 e3 e4 e5 e6=>?_,fun j c b e1 e2=>?_,fun j c e=>?_,fun j b e=>?_,fun p hp=>p0 g _ _ (r.prot p hp),r.gvl⟩,fun j w c e1 e2=>?_⟩
  ·rcases p6 e with ⟨rfl,z,_⟩|⟨n,e⟩
   ·cases z;exact⟨.ref a,h1,T7 (w6 g rfl h2) hw⟩
   ·obtain⟨u,q1,q2⟩:=r.slot j w e;exact⟨u,q1,G6 g (fun _ _ _ _=>rfl) q2⟩
  ·rcases p6 e1 with ⟨rfl,z,_⟩|⟨n1,e1⟩
   ·cases z;cases e2
   ·rcases p6 e4 with ⟨rfl,z,_⟩|⟨n2,e4⟩
    ·cases z;cases e5
    ·exact r.inj j k w w' c c' b e1 e2 e3 e4 e5 e6
  ·rcases p6 e1 with ⟨rfl,z,_⟩|⟨n1,e1⟩
   ·cases z
   ·exact r.new j c b e1 e2
  ·rcases p6 e with ⟨rfl,z,_⟩|⟨n1,e⟩
   ·cases z
   ·exact r.lnt j c e
  ·obtain⟨c,q1,q2⟩:=r.lnd j b e;have n:i≠j:=fun z=>by subst z;rw[q] at q1;cases q1
   exact⟨c,by rw[zU n];exact q1,q2⟩
  ·rcases p6 e1 with ⟨rfl,z,_⟩|⟨n,e1⟩
   ·cases z;cases e2
   ·exact⟨e1,n⟩
 ·rename_i d q;cases e;exact⟨r,fun j w c e1 e2=>⟨e1,fun z=>by subst z;rw[q] at e1;cases e1;cases e2⟩⟩
 ·cases e
end
abbrev FX:=Ev->Option (W×Ev)
abbrev FT:=Ev->Option (Bool×Ev)
abbrev FA:=Ev->Option (List W×Ev)
def DenW (K:PySem.W.Frag) (A:Av) (σ:L2.St) (H1 H':Hp):W->V->Prop
 | .v d,v=>Den K A H' d v
 | .o d,v=>∃a,v= .ref a/\H1 a=none/\Obj K (fun b=>A b\/b=a) H' a d
 | .r i,v=>σ[i]? =some (some v)
 | .l _,_=>False
def DenP (K:PySem.W.Frag) (A:Av) (σ:L2.St) (H:Hp):W->V->Prop
 | .v d,v=>Den K A H d v
 | .r i,v=>σ[i]? =some (some v)
 | _,_=>False
def DenA (K:PySem.W.Frag) (A:Av) (σ:L2.St) (H:Hp):List W->List V->Prop
 | [],vs=>vs=[]
 | w::ws,vs=>∃v r,vs=v::r/\DenP K A σ H w v/\DenA K A σ H ws r
def W.fz:W->W
 | .o d=>.v d
 | w=>w
def tX (X:Cx) (f:FX):TE:=fun σ H Q=>∃P O L ρ w ρ',Rep X P O L ρ σ H/\f ρ=some (w,ρ')/\∀v H1 H',Rep X P O L ρ' σ H1->Same H1 H'->DenW X.K (AvO O ρ' σ) σ H1 H' w v->Q v H'
def tT (X:Cx) (f:FT):TT:=fun σ H Q=>∃P O L ρ b ρ',Rep X P O L ρ σ H/\f ρ=some (b,ρ')/\∀H',Rep X P O L ρ' σ H'->Q b H'
def tA (X:Cx) (f:FA):TA:=fun σ H Q=>∃P O L ρ ws ρ',Rep X P O L ρ σ H/\f ρ=some (ws,ρ')/\∀vs H',Rep X P O L ρ' σ H'->DenA X.K (AvO O ρ' σ) σ H' ws vs->Q vs H'
theorem tXe {X:Cx}{f:FX}{σ:L2.St}{H:Hp}{Q:VK}{C:Prop}(h:tX X f σ H Q)(k:∀P O L ρ w ρ',Rep X P O L ρ σ H->f ρ=some (w,ρ')->(∀v H1 H',Rep X P O L ρ' σ H1->Same H1 H'->DenW X.K (AvO O ρ' σ) σ H1 H' w v->Q v H')->C):C:=by
 obtain⟨P,O,L,ρ,w,ρ',r,e,q⟩:=h;exact k P O L ρ w ρ' r e q
theorem tTe {X:Cx}{f:FT}{σ:L2.St}{H:Hp}{Q:Bool->Hp->Prop}{C:Prop}(h:tT X f σ H Q)(k:∀P O L ρ b ρ',Rep X P O L ρ σ H->f ρ=some (b,ρ')->(∀H',Rep X P O L ρ' σ H'->Q b H')->C):C:=by
 obtain⟨P,O,L,ρ,w,ρ',r,e,q⟩:=h;exact k P O L ρ w ρ' r e q
theorem tAe {X:Cx}{f:FA}{σ:L2.St}{H:Hp}{Q:List V->Hp->Prop}{C:Prop}(h:tA X f σ H Q)(k:∀P O L ρ ws ρ',Rep X P O L ρ σ H->f ρ=some (ws,ρ')->(∀vs H',Rep X P O L ρ' σ H'->DenA X.K (AvO O ρ' σ) σ H' ws vs->Q vs H')->C):C:=by
 obtain⟨P,O,L,ρ,w,ρ',r,e,q⟩:=h;exact k P O L ρ w ρ' r e q
structure QX (X:Cx) (e:Expr) (f:FX):Prop where
 to:PE X e (tX X f)
structure QT (X:Cx) (e:Expr) (f:FT):Prop where
 to:PT X e (tT X f)
structure QW (X:Cx) (e:Expr) (f:FT):Prop where
 to:PW X e (tT X f)
structure QA (X:Cx) (e:List Expr) (f:FA):Prop where
 to:PA X e (tA X f)
theorem PE.weak {X:Cx}{e:Expr}{t u:TE}(h:PE X e t)(w:∀σ H Q,u σ H Q->t σ H Q):PE X e u:=fun pins s σ H Q I q=>h pins s σ H Q I (w σ H Q q)
theorem PT.weak {X:Cx}{e:Expr}{t u:TT}(h:PT X e t)(w:∀σ H Q,u σ H Q->t σ H Q):PT X e u:=fun pins s σ H Q I q=>h pins s σ H Q I (w σ H Q q)
theorem PW.weak {X:Cx}{e:Expr}{t u:TT}(h:PW X e t)(w:∀σ H Q,u σ H Q->t σ H Q):PW X e u:=fun wh pins s σ H Q I q=>h wh pins s σ H Q I (w σ H Q q)
theorem PA.weak {X:Cx}{e:List Expr}{t u:TA}(h:PA X e t)(w:∀σ H Q,u σ H Q->t σ H Q):PA X e u:=fun pos pins s σ H Q I q=>h pos pins s σ H Q I (w σ H Q q)
def dr (ρ:Ev):W->Option D
 | .v d=>some d
 | .r i=>match ρ[i]? with
  | some (some (.v d))=>some d
  | some (some w)=>w.own
  | _=>none
 | _=>none
def drs (ρ:Ev):List W->Option (List D)
 | []=>some []
 | w::ws=>(dr ρ w).bind fun d=>(drs ρ ws).map fun ds=>d::ds
section
variable {X:Cx}{P:List (D×V)}{O:Av}{L:List (Option Nat×Addr)}{ρ:Ev}{σ:L2.St}{H H1 H':Hp}{w:W}{d:D}{v:V}
theorem DenW.fz (r:Rep X P O L ρ σ H1)(s:Same H1 H')(h:DenW X.K (AvO O ρ σ) σ H1 H' w v):DenP X.K (AvO O ρ σ) σ H' w.fz v:=by
 cases w with
 | v d=>exact h
 | o d=>
  obtain⟨a,rfl,n,ob⟩:=h;exact T7 (w6 (w4 fun b z=>.inl z) rfl ob) (r.fresh n)
 | r i=>exact h
 | l d=>exact h.elim
theorem hold (r:Rep X P O L ρ σ H)(h:DenP X.K (AvO O ρ σ) σ H w v):∃P',Rep X P' O L ρ σ H/\∀ρ2 H2,Rep X P' O L ρ2 σ H2->Rep X P O L ρ2 σ H2/\DenP X.K (AvO O ρ2 σ) σ H2 w v:=by
 cases w with
 | v d=>exact⟨(d,v)::P,r.more h,fun ρ2 H2 r2=>⟨r2.less,r2.head⟩⟩
 | r i=>exact⟨P,r,fun ρ2 H2 r2=>⟨r2,h⟩⟩
 | _=>exact h.elim
theorem I0 (r:Rep X P O L ρ σ H)(e:dr ρ w=some d)(h:DenP X.K (AvO O ρ σ) σ H w v):DenR X.K (AvO O ρ σ) H d v:=by
 cases w with
 | v c=>cases e;exact D1 h
 | r i=>
  rw[dr] at e;have h:σ[i]? =some (some v):=h;cases q:ρ[i]? with
  | none=>rw[q] at e;cases e
  | some o=>
   rw[q] at e;cases o with
   | none=>cases e
   | some w'=>
    cases w' with
    | v c=>
     cases e;obtain⟨u,h1,h2⟩:=r.slot i _ q;rw[h1] at h;cases h;exact D1 h2
    | _=>
     obtain⟨a,h1,h2⟩:=r.obj q e;rw[h1] at h;cases h;exact obj_r h2
 | _=>cases e
def DenRL (K:PySem.W.Frag) (A:Av) (H:Hp):List D->List V->Prop
 | [],vs=>vs=[]
 | d::ds,vs=>∃v r,vs=v::r/\DenR K A H d v/\DenRL K A H ds r
theorem a4R (r:Rep X P O L ρ σ H):∀{ws:List W} {ds:List D} {vs:List V},drs ρ ws=some ds->DenA X.K (AvO O ρ σ) σ H ws vs->DenRL X.K (AvO O ρ σ) H ds vs
 | [],ds,vs,e,h=>by cases e;exact h
 | w::ws,ds,vs,e,h=>by
  obtain⟨v,rs,rfl,h1,h2⟩:=h;rw[drs] at e;cases e1:dr ρ w with
  | none=>rw[e1] at e;cases e
  | some d=>
   cases e2:drs ρ ws with
   | none=>rw[e1,e2] at e;cases e
   | some dd=>
    rw[e1,e2] at e;cases e;exact⟨v,rs,rfl,I0 r e1 h1,a4R r e2 h2⟩
end
section
variable {K:PySem.W.Frag}{A:Av}{σ:L2.St}{H H':Hp}
theorem A1 {i:Int}:DenW K A σ H H' (.v (.int i)) (.int i):=by show Den _ _ _ _ _;rw[Den]
theorem D4 {i:Bool}:DenW K A σ H H' (.v (.bl i)) (.bl i):=by show Den _ _ _ _ _;rw[Den]
theorem a59 {i:Str}:DenW K A σ H H' (.v (.str i)) (.str i):=by show Den _ _ _ _ _;rw[Den]
theorem K5:DenW K A σ H H' (.v .non) .non:=by show Den _ _ _ _ _;rw[Den]
end
def fVar (i:Nat):FX:=fun ρ=>match ρ[i]? with
 | some (some (.v d))=>some (.v d,ρ)
 | some (some (.r _))=>none
 | some (some _)=>some (.r i,ρ)
 | _=>none
def fC (d:D):FX:=fun ρ=>some (.v d,ρ)
section
variable {X:Cx}{a b e:Expr}{pos:Pos}{f g h:FX}{t u:FT}
theorem a8 (i:Nat){x:Str}(hN:X.N[i]? =some x:=by rfl)(hv:Vis X.env.scope x:=by first|exact Or.inl rfl|exact Or.inr (Or.inl rfl)|exact Or.inr (Or.inr rfl))(hd:(x==("__debug__":Str))=false:=by decide)(hcd:(x==("__classdict__":Str))=false:=by decide):QX X (.Name x pos) (fVar i):=by
 refine⟨PE.weak (a3G hN hv hd hcd) fun σ H Q h0=>tXe h0 fun P O L ρ w ρ' r e q=>?_⟩;unfold fVar at e;split at e
 ·rename_i d0 e0;cases e;obtain⟨v,h1,h2⟩:=r.slot i _ e0;exact⟨v,h1,q v H H r (Same.refl H) h2⟩
 ·cases e
 ·rename_i w' _ _ e0;cases e;obtain⟨v,h1,h2⟩:=r.slot i _ e0;exact⟨v,h1,q v H H r (Same.refl H) h1⟩
 ·cases e
theorem a9x {d:D}{v:V}(hd:∀A H,Den X.K A H d v):∀σ H Q,tX X (fC d) σ H Q->tC v σ H Q:=fun σ H Q h0=>tXe h0 fun P O L ρ w ρ' r e q=>by cases e;exact q v H H r (Same.refl H) (hd _ H)
theorem a9 {i:Int}{j:Nat}:QX X (.Constant (.int i) j pos) (fC (.int i)):=⟨PE.weak b0t (a9x fun A H=>w9.mpr rfl)⟩
theorem a4M {i:Bool}{j:Nat}:QX X (.Constant (.bool i) j pos) (fC (.bl i)):=⟨PE.weak pe_bl (a9x fun A H=>a1Y.mpr rfl)⟩
def fBin (op:D->D->Option W) (f g:FX):FX:=fun ρ=>(f ρ).bind fun p=>(g p.2).bind fun q=>(dr q.2 p.1.fz).bind fun x=>(dr q.2 q.1.fz).bind fun y=>(op x y).map fun w=>(w,q.2)
def Pr2 (X:Cx) (op:D->D->Option W) (r:R2):Prop:=∀(A:Av) (x y:D) (w:W) (v u:V) (H:Hp) (Q:VK),(∀b,A b->∃o,H b=some o)->op x y=some w->DenR X.K A H x v->DenR X.K A H y u->(∀z H',Same H H'->DenW X.K A [] H H' w z->Q z H')->r v u H Q
theorem DenW.st {K:PySem.W.Frag}{A:Av}{σ:L2.St}{H1 H':Hp}{w:W}{v:V}(h:DenW K A [] H1 H' w v):DenW K A σ H1 H' w v:=by
 cases w with
 | r i=>exact absurd h (by simp[DenW])
 | _=>exact h
theorem R7 {r:R2}{op:D->D->Option W}(k:Pr2 X op r):∀σ H Q,tX X (fBin op f g) σ H Q->tOp r (tX X f) (tX X g) σ H Q:=fun σ H Q h0=>tXe h0 fun P O L ρ w ρ' r e q=>by
 unfold fBin at e;obtain⟨⟨w1,ρ1⟩,e1,e⟩:=obs e;dsimp only at e;refine⟨P,O,L,ρ,w1,ρ1,r,e1,fun v H1 H1' r1 s1 d1=>?_⟩;obtain⟨P',r1',k1⟩:=hold (r1.grow s1) (d1.fz r1 s1);obtain⟨⟨w2,ρ2⟩,e2,e⟩:=obs e;dsimp only at e;refine⟨P',O,L,ρ1,w2,ρ2,r1',e2,fun u H2 H2' r2 s2 d2=>?_⟩;have d2':=d2.fz r2 s2;obtain⟨r3,d1'⟩:=k1 ρ2 H2' (r2.grow s2);cases e3:dr ρ2 w1.fz with
 | none=>rw[e3] at e;cases e
 | some x=>
  cases e4:dr ρ2 w2.fz with
  | none=>rw[e3,e4] at e;cases e
  | some y=>
   rw[e3,e4] at e;simp only[bind_some] at e;cases e5:op x y with
   | none=>rw[e5] at e;cases e
   | some w'=>
    rw[e5] at e;cases e;exact k _ x y w v u H2' Q (fun b z=>r3.there z) e5 (I0 r3 e3 d1') (I0 r3 e4 d2') fun z H' s d=>q z H2' H' r3 s d.st
theorem P6 {op:Operator}{r:R2}{o:D->D->Option W}(ho:OpR X (binaryOp op) r)(k:Pr2 X o r)(ha:QX X a f)(hb:QX X b g):QX X (.BinOp a op b pos) (fBin o f g):=⟨PE.weak (pe_op ho ha.to hb.to) (R7 k)⟩
theorem a6U {op:CmpOp}{r:R2}{o:D->D->Option W}(ho:OpR X (compareOp op) r)(k:Pr2 X o r)(ha:QX X a f)(hb:QX X b g)(hm:behindInMarks op b=false:=by first|exact nomark _|rfl):QX X (.Compare a [op] [b] pos) (fBin o f g):=⟨PE.weak (a8S ho ha.to hb.to hm) (R7 k)⟩
def fTest (f:FX):FT:=fun ρ=>(f ρ).bind fun p=>match p.1 with|.v (.bl k)=>some (k,p.2)|_=>none
theorem a0c {f:FX}{ρ ρ':Ev}{k:Bool}(e:fTest f ρ=some (k,ρ')):f ρ=some (.v (.bl k),ρ'):=by
 unfold fTest at e;cases q:f ρ with
 | none=>rw[q] at e;cases e
 | some p=>
  rw[q] at e;obtain⟨w,ρ1⟩:=p;simp only[bind_some] at e;split at e
  ·cases e;rfl
  ·cases e
theorem P9 {op:CmpOp}{r:R2}{o:D->D->Option W}(ho:OpR X (compareOp op) r)(k:Pr2 X o r)(ha:QX X a f)(hb:QX X b g)(hm:behindInMarks op b=false:=by first|exact nomark _|rfl):QT X (.Compare a [op] [b] pos) (fTest (fBin o f g)):=by
 refine⟨PT.weak (a8O ho ha.to hb.to hm) fun σ H Q h0=>tTe h0 fun P O L ρ t ρ' r e q=>?_⟩;refine R7 k σ H _ ⟨P,O,L,ρ,_,ρ',r,a0c e,fun v H1 H' r1 s1 d1=>⟨t,?_,q H' (r1.grow s1)⟩⟩;have d1':Den X.K (AvO O ρ' σ) H' (.bl t) v:=d1;exact a1Y.mp d1'
def big:Nat:=2^8000
def mOk (i j:Int):Prop:=i.natAbs<2^64\/j.natAbs<2^64\/(i.natAbs<big/\j.natAbs<big)
instance (i j:Int):Decidable (mOk i j):=by unfold mOk;infer_instance
theorem mOk.ok {i j:Int}(m:mOk i j):IntMulOk i j:=by
 rcases m with m|m|⟨m,n⟩
 ·exact .of_left (KE_bits m)
 ·exact .of_right (KE_bits m)
 ·exact .of_bits (zQ (KE_bits m) (by decide)) (zQ (KE_bits n) (by decide))
where KE_bits {x:Int} {m:Nat} (h:x.natAbs<2^m):Builtin.Int.intBits x<=m:=intBits_le_iff.mpr h
theorem a8e:OpR X (binaryOp .Mult) (rI mOk fun i j=>.int (i*j)):=opI fun _ _ _ _ _ _ _ hc q=>mul_int q hc.ok
def dOk (j:Int):Prop:=0<j/\j.natAbs<big
instance (j:Int):Decidable (dOk j):=by unfold dOk;infer_instance
theorem a8p:OpR X (binaryOp .FloorDiv) (rI (fun _ j=>dOk j) fun i j=>.int (i/j)):=opI fun i j _ _ _ _ _ hc q=>by
 have e:i.fdiv j=i/j:=Int.fdiv_eq_ediv_of_nonneg i (Int.le_of_lt hc.1);refine floordiv_int (Int.ne_of_gt hc.1) (by rw[e];exact q) (.inl (PyProof.noPylong_of_log2 ?_))
 by_cases z:j.natAbs=0
 ·rw[z];decide
 ·exact zJ ((Nat.log2_lt z).mpr (show j.natAbs<2^8000 from hc.2)) (by decide)
def oI (C:Int->Int->Prop) [∀i j,Decidable (C i j)] (g:Int->Int->D):D->D->Option W
 | .int i,.int j=>if C i j then some (.v (g i j)) else none
 | _,_=>none
def oI0 (g:Int->Int->D):D->D->Option W
 | .int i,.int j=>some (.v (g i j))
 | _,_=>none
theorem k8 {K:PySem.W.Frag}{A:Av}{H:Hp}{i:Int}{v:V}(h:DenR K A H (.int i) v):v= .int i:=by
 have h:Den K A H (.int i) v:=h;exact w9.mp h
theorem kI {C:Int->Int->Prop} [∀i j,Decidable (C i j)] {g:Int->Int->Int}:Pr2 X (oI C fun i j=>.int (g i j)) (rI C fun i j=>.int (g i j)):=by
 intro A x y w v u H Q _ e hx hy q;cases x<;>cases y<;>simp only[oI] at e<;>try cases e
 rename_i i j;split at e
 ·rename_i hc;cases e;exact⟨i,j,k8 hx,k8 hy,hc,q _ H (Same.refl H) A1⟩
 ·cases e
theorem kI0 {g:Int->Int->Int}:Pr2 X (oI0 fun i j=>.int (g i j)) (rI0 fun i j=>.int (g i j)):=by
 intro A x y w v u H Q _ e hx hy q;cases x<;>cases y<;>simp only[oI0] at e<;>cases e
 rename_i i j;exact⟨i,j,k8 hx,k8 hy,q _ H (Same.refl H) A1⟩
theorem kB0 {g:Int->Int->Bool}:Pr2 X (oI0 fun i j=>.bl (g i j)) (rI0 fun i j=>.bl (g i j)):=by
 intro A x y w v u H Q _ e hx hy q;cases x<;>cases y<;>simp only[oI0] at e<;>cases e
 rename_i i j;exact⟨i,j,k8 hx,k8 hy,q _ H (Same.refl H) D4⟩
abbrev fSub:=fBin (oI0 fun i j=>.int (i-j))
abbrev fMul:=fBin (oI mOk fun i j=>.int (i*j))
abbrev fDiv:=fBin (oI (fun _ j=>dOk j) fun i j=>.int (i/j))
abbrev fMod:=fBin (oI (fun _ j=>0<j) fun i j=>.int (i%j))
instance (i j:Int):Decidable (CPow i j):=by unfold CPow;infer_instance
abbrev fPow:=fBin (oI CPow fun i j=>.int (i^j.toNat))
theorem a0d (ha:QX X a f)(hb:QX X b g):QX X (.BinOp a .Sub b pos) (fSub f g):=P6 b0Y kI0 ha hb
theorem E4 (ha:QX X a f)(hb:QX X b g):QX X (.BinOp a .Mult b pos) (fMul f g):=P6 a8e kI ha hb
theorem b1I (ha:QX X a f)(hb:QX X b g):QX X (.BinOp a .FloorDiv b pos) (fDiv f g):=P6 a8p kI ha hb
theorem Q7 (ha:QX X a f)(hb:QX X b g):QX X (.BinOp a .Mod b pos) (fMod f g):=P6 b03 kI ha hb
theorem M3 (ha:QX X a f)(hb:QX X b g):QX X (.BinOp a .Pow b pos) (fPow f g):=P6 b1l kI ha hb
abbrev oGt:=oI0 fun i j=>.bl (decide (j<i))
abbrev oGe:=oI0 fun i j=>.bl (decide (j<=i))
theorem qx_gt (ha:QX X a f)(hb:QX X b g):QX X (.Compare a [.Gt] [b] pos) (fBin oGt f g):=a6U b0g kB0 ha hb
theorem qt_gt (ha:QX X a f)(hb:QX X b g):QT X (.Compare a [.Gt] [b] pos) (fTest (fBin oGt f g)):=P9 b0g kB0 ha hb
theorem qt_ge (ha:QX X a f)(hb:QX X b g):QT X (.Compare a [.GtE] [b] pos) (fTest (fBin oGe f g)):=P9 op_ge kB0 ha hb
def lim:Nat:=1000000
theorem u5:lim<=sizeLine:=by unfold lim;rw[xD];decide
theorem j7 {H:Hp}{p:Addr}(h:H p=none)(o:HO):Same H (upd H p o):=fun b u q=>by rw[g9 (m9 q h)];exact q
theorem A5 {K:PySem.W.Frag}{A:Av}{σ:L2.St}{H:Hp}{p:Addr}{xs:List D}{vs:List V}(hp:H p=none)(l:DenL K A H xs vs):DenW K A σ H (upd H p (.lst vs)) (.o (.lst xs)) (.ref p):=
 ⟨p,rfl,hp,vs,m6,q9 (M:=fun _=>False) ⟨fun b o q _=>j7 hp _ b o q,fun _ z=>z.elim,fun b z=>z.imp id fun z=>by rw[z];exact hp⟩ _ _ l⟩
theorem M0 {K:PySem.W.Frag}{A:Av}{σ:L2.St}{H H0:Hp}{p:Addr}{xs:List D}{vs:List V}(hp:H p=none)(l:DenL K A H xs vs):DenW K A σ H0 (upd H p (.tup vs)) (.v (.tup xs)) (.ref p):=by
 show Den _ _ _ _ _;rw[Den];exact⟨p,vs,rfl,.inl (.inl m6),a5k (j7 hp _) l⟩
theorem a8n:OpR X (binaryOp .Add) (fun x y H Q=>∃l b xs zs,x= .ref l/\y= .ref b/\SqL X.K H l xs/\SqL X.K H b zs/\xs.length+zs.length<=sizeLine/\∀p,H p=none->Q (.ref p) (upd H p (.lst (xs++zs)))):=by
 intro pins s σ H x y v u Q I rx ry h;obtain⟨l,b,xs,zs,rfl,rfl,hH,hB,hz,q⟩:=h;cases rx;cases ry;obtain⟨its,r,⟨⟨c1,d1,e1,s1⟩,n1,g1,k1,_,w1⟩,_⟩:=I.list hH;obtain⟨its2,r2,⟨⟨c2,d2,e2,s2⟩,n2,g2,k2,_,w2⟩,_⟩:=I.list hB;simp only at k1 w1 k2 w2;subst k1 w1 k2 w2;have l1:=r.length;have l2:=r2.length;refine concat_meets ⟨_,g1,rfl⟩ ⟨_,g2,rfl⟩ noFill_list_add seq_list_add PySem.F.slot_list_add PySem.F.entry_list_add (PySem.F.args_list_add_2 _ _) (list_addW l b its.toArray its2.toArray n1 n2 d1 d2 s1 s2 (by rw[zT,zT];walk_at "o")) ⟨g1,g2,?_⟩
 have ea:its.toArray++its2.toArray=(its++its2).toArray:=by simp
 rw[ea];exact⟨.ref _,_,I.lnew (t':=s.toks) (r.append r2) (by rw[zH];walk_at "o"),rfl,q _ I.fresh⟩
def oCat (xs ys:List D):Option W:=if xs.length+ys.length<=lim then some (.o (.lst (xs++ys))) else none
def oAdd:D->D->Option W
 | .int i,.int j=>some (.v (.int (i+j)))
 | .lst xs,.lst ys=>oCat xs ys
 | .tup xs,.tup ys=>if xs≠[]/\xs.length+ys.length<=lim then some (.v (.tup (xs++ys))) else none
 | _,_=>none
instance (xs:List D):Decidable (xs≠[]):=match xs with
 | []=>.isFalse fun h=>h rfl
 | _::_=>.isTrue nofun
theorem p7 (ha:QX X a f)(hb:QX X b g):QX X (.BinOp a .Add b pos) (fBin oAdd f g):=P6 (b0X.or (a8n.or a3M)) (by
 intro A x y w v u H Q _ e hx hy q;cases x<;>cases y<;>simp only[oAdd] at e<;>try cases e
 ·rename_i i j;exact .inl ⟨i,j,k8 hx,k8 hy,q _ H (Same.refl H) A1⟩
 ·rename_i xs ys;split at e
  ·rename_i hl;cases e;have hx:Den X.K A H (.tup xs) v:=hx;have hy:Den X.K A H (.tup ys) u:=hy;rw[Den] at hx hy;obtain⟨a,vs,ev,ha,la⟩:=hx;obtain⟨b,us,eu,hb,lb⟩:=hy;refine .inr (.inr ⟨a,b,vs,us,ev,eu,ha,hb,fun z=>?_,?_,fun z=>?_,fun _ p hp=>q _ _ (j7 hp _) (M0 hp (v3 la lb))⟩)
   rotate_left 2
   ·subst z;have z:ys=[]:=yA.mp (b9 lb);subst z;refine q _ H (Same.refl H) ?_;show Den _ _ _ _ _;rw[jZ,Den];exact⟨a,vs,rfl,ha,la⟩
   ·subst z;exact hl.1 (yA.mp (b9 la))
   ·rw[<-b9 la,<-b9 lb];exact zQ hl.2 u5
  ·cases e
 ·rename_i xs ys;unfold oCat at e;split at e
  ·rename_i hl;cases e;obtain⟨a,vs,ev,ha,la⟩:=hx;obtain⟨b,us,eu,hb,lb⟩:=hy;refine .inr (.inl ⟨a,b,vs,us,ev,eu,ha,hb,?_,fun p hp=>q _ _ (j7 hp _) (A5 hp (v3 la lb))⟩);rw[<-b9 la,<-b9 lb];exact zQ hl u5
  ·cases e) ha hb
def fUn (op:D->Option W) (f:FX):FX:=fun ρ=>(f ρ).bind fun p=>(dr p.2 p.1.fz).bind fun x=>(op x).map fun w=>(w,p.2)
def Pr1 (X:Cx) (op:D->Option W) (r:V->Hp->VK->Prop):Prop:=∀(A:Av) (x:D) (w:W) (v:V) (H:Hp) (Q:VK),(∀b,A b->∃o,H b=some o)->op x=some w->DenR X.K A H x v->(∀z H',Same H H'->DenW X.K A [] H H' w z->Q z H')->r v H Q
theorem a35 {r:V->Hp->VK->Prop}{op:D->Option W}(k:Pr1 X op r):∀σ H Q,tX X (fUn op f) σ H Q->tUn r (tX X f) σ H Q:=fun σ H Q h0=>tXe h0 fun P O L ρ w ρ' r e q=>by
 unfold fUn at e;obtain⟨⟨w1,ρ1⟩,e1,e⟩:=obs e;dsimp only at e;refine⟨P,O,L,ρ,w1,ρ1,r,e1,fun v H1 H1' r1 s1 d1=>?_⟩;have r3:=r1.grow s1;cases e3:dr ρ1 w1.fz with
 | none=>rw[e3] at e;cases e
 | some x=>
  rw[e3] at e;simp only[bind_some] at e;cases e5:op x with
  | none=>rw[e5] at e;cases e
  | some w'=>
   rw[e5] at e;cases e;exact k _ x w v H1' Q (fun b z=>r3.there z) e5 (I0 r3 e3 (d1.fz r1 s1)) fun z H' s d=>q z H1' H' r3 s d.st
def oNeg:D->Option W
 | .int i=>some (.v (.int (-i)))
 | _=>none
theorem b0S (ha:QX X a f):QX X (.UnaryOp .USub a pos) (fUn oNeg f):=⟨PE.weak (pe_un b0v ha.to) (a35 fun A x w v H Q _ e hx q=>by
 cases x<;>simp only[oNeg] at e<;>cases e
 rename_i i
 exact⟨i,k8 hx,q _ H (Same.refl H) A1⟩)⟩
end
section
variable {X:Cx}{a b c e:Expr}{pos:Pos}{f g h:FX}{t u:FT}{fa:FA}{es rest:List Expr}
def truth:D->Option Bool
 | .non=>some false
 | .bl b=>some b
 | .int i=>some (!decide (i=0))
 | .tup xs=>some (!xs.isEmpty)
 | .lst xs=>some (!xs.isEmpty)
 | .dK ks _=>some (!ks.isEmpty)
 | _=>none
def fTru (f:FX):FT:=fun ρ=>(f ρ).bind fun p=>(dr p.2 p.1.fz).bind fun d=>(truth d).map fun k=>(k,p.2)
theorem a0l {K:PySem.W.Frag}{A:Av}{H:Hp}{xs:List D}{vs:List V}(l:DenL K A H xs vs):(!xs.isEmpty)= !vs.isEmpty:=by
 have:=b9 l
 cases xs<;>cases vs<;>simp_all
theorem a8x {K:PySem.W.Frag}{A:Av}{H:Hp}{d:D}{v:V}{k:Bool}(e:truth d=some k)(h:DenR K A H d v):TruV K v H k:=by
 cases d with
 | non=>cases e;have h:Den K A H .non v:=h;rw[Den] at h;subst h;rfl
 | bl b=>cases e;have h:Den K A H (.bl k) v:=h;rw[Den] at h;subst h;rfl
 | int i=>cases e;have h:Den K A H (.int i) v:=h;rw[Den] at h;subst h;rfl
 | tup xs=>cases e;have h:Den K A H (.tup xs) v:=h;rw[Den] at h;obtain⟨a,vs,rfl,hq,l⟩:=h;exact .inr (.inl ⟨vs,hq,a0l l⟩)
 | lst xs=>cases e;obtain⟨a,vs,rfl,hq,l⟩:=h;exact .inl ⟨vs,hq,a0l l⟩
 | dK ks xs=>
  cases e;obtain⟨a,vs,rfl,hq,hl,l⟩:=h;refine .inr (.inr ⟨_,hq,?_⟩)
  have:=b9 l
  cases ks<;>cases vs<;>cases xs<;>simp_all
 | _=>cases e
theorem a7k (ha:QX X a f)(he:∀whole,isTrue a X.env whole=(do let v <-whole;standAt a.pos;holding [v] (truthy v)):=by intro _;rfl):QT X a (fTru f):=⟨PT.weak (a7s ha.to he) fun σ H Q h0=>tTe h0 fun P O L ρ k ρ' r e q=>by
 unfold fTru at e;obtain⟨⟨w,ρ1⟩,e1,e⟩:=obs e;dsimp only at e;cases e2:dr ρ1 w.fz with
 | none=>rw[e2] at e;cases e
 | some d=>
  rw[e2] at e;simp only[bind_some] at e;cases e3:truth d with
  | none=>rw[e3] at e;cases e
  | some k'=>
   rw[e3] at e;cases e
   exact⟨P,O,L,ρ,w,_,r,e1,fun v H1 H' r1 s1 d1=>⟨k,a8x e3 (I0 (r1.grow s1) e2 (d1.fz r1 s1)),q H' (r1.grow s1)⟩⟩⟩
def fNot (t:FT):FT:=fun ρ=>(t ρ).map fun p=>(!p.1,p.2)
theorem a7j (ha:QT X a t):QT X (.UnaryOp .Not a pos) (fNot t):=⟨PT.weak (L2.b0J ha.to) fun σ H Q h0=>tTe h0 fun P O L ρ k ρ' r e q=>by
 unfold fNot at e;cases e1:t ρ with
 | none=>rw[e1] at e;cases e
 | some p=>rw[e1] at e;obtain⟨k1,ρ1⟩:=p;cases e;exact⟨P,O,L,ρ,k1,_,r,e1,q⟩⟩
def fAnd (t u:FT):FT:=fun ρ=>(t ρ).bind fun p=>if p.1=true then u p.2 else some (false,p.2)
def fOr (t u:FT):FT:=fun ρ=>(t ρ).bind fun p=>if p.1=true then some (true,p.2) else u p.2
theorem a19 (ha:QT X a t):QW X (.BoolOp .And [a] pos) t:=⟨pw_and1 ha.to⟩
theorem b1d (ha:QT X a t):QW X (.BoolOp .Or [a] pos) t:=⟨pw_or1 ha.to⟩
theorem a3p (ha:QT X a t)(hb:QW X (.BoolOp .And (b::rest) pos) u):QW X (.BoolOp .And (a::b::rest) pos) (fAnd t u):=⟨PW.weak (pw_and ha.to hb.to) fun σ H Q h0=>tTe h0 fun P O L ρ k ρ' r e q=>by
 unfold fAnd at e;obtain⟨⟨k1,ρ1⟩,e1,e⟩:=obs e;dsimp only at e;refine⟨P,O,L,ρ,k1,ρ1,r,e1,fun H' r'=>?_⟩;cases k1 with
 | true=>rw[if_pos rfl] at e ⊢;exact⟨P,O,L,ρ1,k,ρ',r',e,q⟩
 | false=>rw[if_neg qD] at e ⊢;cases e;exact q H' r'⟩
theorem qw_or (ha:QT X a t)(hb:QW X (.BoolOp .Or (b::rest) pos) u):QW X (.BoolOp .Or (a::b::rest) pos) (fOr t u):=⟨PW.weak (pw_or ha.to hb.to) fun σ H Q h0=>tTe h0 fun P O L ρ k ρ' r e q=>by
 unfold fOr at e;obtain⟨⟨k1,ρ1⟩,e1,e⟩:=obs e;dsimp only at e;refine⟨P,O,L,ρ,k1,ρ1,r,e1,fun H' r'=>?_⟩;cases k1 with
 | true=>rw[if_pos rfl] at e ⊢;cases e;exact q H' r'
 | false=>rw[if_neg qD] at e ⊢;exact⟨P,O,L,ρ1,k,ρ',r',e,q⟩⟩
theorem a30 (ha:QW X a t):QT X a t:=⟨PW.pt ha.to⟩
theorem b1c {op}(ha:QX X a f):QX X (.BoolOp op [a] pos) f:=⟨b1u ha.to⟩
def fAndV (f g:FX):FX:=fun ρ=>(fTest f ρ).bind fun p=>if p.1=true then g p.2 else some (.v (.bl false),p.2)
def fOrV (f g:FX):FX:=fun ρ=>(fTest f ρ).bind fun p=>if p.1=true then some (.v (.bl true),p.2) else g p.2
def fNotV (f:FX):FX:=fun ρ=>(fTest f ρ).map fun p=>(.v (.bl (!p.1)),p.2)
theorem a0w {K:PySem.W.Frag}{A:Av}{σ:L2.St}{H H':Hp}{k:Bool}{v:V}(h:DenW K A σ H H' (.v (.bl k)) v):v= .bl k:=by
 have h:Den K A H' (.bl k) v:=h;exact a1Y.mp h
theorem b0z (ha:QX X a f)(hb:QX X (.BoolOp .And (b::rest) pos) g):QX X (.BoolOp .And (a::b::rest) pos) (fAndV f g):=⟨PE.weak (b0U ha.to hb.to) fun σ H Q h0=>tXe h0 fun P O L ρ w ρ' r e q=>by
 unfold fAndV at e;obtain⟨⟨k,ρ1⟩,e1,e⟩:=obs e;dsimp only at e;refine⟨P,O,L,ρ,_,ρ1,r,a0c e1,fun v H1 H' r1 s1 d1=>⟨k,a0w d1,?_⟩⟩;cases k with
 | true=>rw[if_pos rfl] at e ⊢;exact⟨P,O,L,ρ1,w,ρ',r1.grow s1,e,q⟩
 | false=>rw[if_neg qD] at e ⊢;cases e;exact q _ H' H' (r1.grow s1) (Same.refl _) D4⟩
def fIf (t:FT) (f g:FX):FX:=fun ρ=>(t ρ).bind fun p=>if p.1=true then f p.2 else g p.2
def fNil:FA:=fun ρ=>some ([],ρ)
def fCons (f:FX) (fa:FA):FA:=fun ρ=>(f ρ).bind fun p=>(fa p.2).map fun q=>(p.1.fz::q.1,q.2)
theorem b8:QA X [] fNil:=⟨PA.weak a6t fun σ H Q h0=>tAe h0 fun P O L ρ ws ρ' r e q=>by cases e;exact q [] H r rfl⟩
theorem a7 (ha:QX X e f)(hr:QA X es fa)(hs:starEach (e::es) X.env=(false,eval e X.env)::starEach es X.env:=by rfl):QA X (e::es) (fCons f fa):=⟨PA.weak (a12 ha.to hr.to hs) fun σ H Q h0=>tAe h0 fun P O L ρ ws ρ' r e q=>by
 unfold fCons at e;obtain⟨⟨w,ρ1⟩,e1,e⟩:=obs e;dsimp only at e;obtain⟨⟨ws2,ρ2⟩,e2,e⟩:=oms e;cases e;refine⟨P,O,L,ρ,w,ρ1,r,e1,fun v H1 H' r1 s1 d1=>?_⟩;obtain⟨P',r1',k1⟩:=hold (r1.grow s1) (d1.fz r1 s1);refine⟨P',O,L,ρ1,ws2,_,r1',e2,fun vs H2 r2 l2=>?_⟩;obtain⟨r3,d3⟩:=k1 _ H2 r2
 exact q _ H2 r3 ⟨v,vs,rfl,d3,l2⟩⟩
def takeAll:Ev->List W->Option (List D×Ev)
 | ρ,[]=>some ([],ρ)
 | ρ,.v d::ws=>(takeAll ρ ws).map fun p=>(d::p.1,p.2)
 | ρ,.r i::ws=>(frzAt ρ i).bind fun ρ1=>match ρ1[i]? with
  | some (some (.v d))=>(takeAll ρ1 ws).map fun p=>(d::p.1,p.2)
  | _=>none
 | _,_=>none
theorem a3f {ρ ρ':Ev}{σ:L2.St}{O:Av}(h:∀(j:Nat) (w:W) (d:D),ρ'[j]? =some (some w)->w.own=some d->ρ[j]? =some (some w)):∀b,AvO O ρ' σ b->AvO O ρ σ b:=fun b z=>z.imp id fun⟨j,w,d,e1,e2,e3⟩=>⟨j,w,d,h j w d e1 e2,e2,e3⟩
theorem o4 {P:List (D×V)}{O:Av}{L:List (Option Nat×Addr)}{σ:L2.St}{H:Hp}:∀{ws:List W} {ds:List D} {vs:List V} {ρ ρ':Ev},Rep X P O L ρ σ H->takeAll ρ ws=some (ds,ρ')->DenA X.K (AvO O ρ σ) σ H ws vs->
  Rep X P O L ρ' σ H/\DenL X.K (AvO O ρ' σ) H ds vs/\∀(j:Nat) (w:W) (d:D),ρ'[j]? =some (some w)->w.own=some d->ρ[j]? =some (some w)
 | [],ds,vs,ρ,ρ',r,e,h=>by cases e;have h:vs=[]:=h;subst h;exact⟨r,j6,fun j w d e _=>e⟩
 | .v d::ws,ds,vs,ρ,ρ',r,e,h=>by
  obtain⟨v,rs,rfl,h1,h2⟩:=h;rw[takeAll] at e;obtain⟨⟨ds1,ρ1⟩,e1,e⟩:=oms e;cases e;obtain⟨r1,l1,k1⟩:=o4 r e1 h2;exact⟨r1,j4 (p0 (w4 (a3f k1)) _ _ h1) l1,k1⟩
 | .r i::ws,ds,vs,ρ,ρ',r,e,h=>by
  obtain⟨v,rs,rfl,h1,h2⟩:=h;have h1:σ[i]? =some (some v):=h1;rw[takeAll] at e;cases e0:frzAt ρ i with
  | none=>rw[e0] at e;cases e
  | some ρ1=>
   rw[e0] at e;simp only[bind_some] at e;obtain⟨r1,k1⟩:=r.frz e0;split at e
   ·rename_i d q;obtain⟨⟨ds1,ρ2⟩,e1,e⟩:=oms e;cases e;have go1:∀{ws:List W} {vs:List V},DenA X.K (AvO O ρ σ) σ H ws vs->DenA X.K (AvO O ρ1 σ) σ H ws vs:=fun{ws}=>by
     induction ws with
     | nil=>exact fun h=>h
     | cons w ws ih=>
      intro vs h;obtain⟨v,rs,rfl,h1,h2⟩:=h;refine⟨v,rs,rfl,?_,ih h2⟩;cases w with
      | v d=>exact p0 (w4 (a3f fun j w d e1 e2=>(k1 j w d e1 e2).1)) _ _ h1
      | _=>exact h1
    obtain⟨r2,l2,k2⟩:=o4 r1 e1 (go1 h2);obtain⟨u,q1,q2⟩:=r1.slot i _ q;rw[h1] at q1;cases q1;have q2:Den X.K (AvO O ρ1 σ) H d v:=q2;exact⟨r2,j4 (p0 (w4 (a3f k2)) _ _ q2) l2,fun j w d e1 e2=>(k1 j w d (k2 j w d e1 e2) e2).1⟩
   ·cases e
 | .o _::ws,ds,vs,ρ,ρ',r,e,h=>by rw[takeAll] at e<;>first|cases e|(intros;nofun)
 | .l _::ws,ds,vs,ρ,ρ',r,e,h=>by rw[takeAll] at e<;>first|cases e|(intros;nofun)
def fTup (fa:FA):FX:=fun ρ=>(fa ρ).bind fun p=>(takeAll p.2 p.1).bind fun q=>if q.1.length<=lim then some (.v (.tup q.1),q.2) else none
def fLst (fa:FA):FX:=fun ρ=>(fa ρ).bind fun p=>(takeAll p.2 p.1).bind fun q=>if q.1.length<=lim then some (.o (.lst q.1),q.2) else none
theorem a0Q {mk:List D->W}{σ:L2.St}{H:Hp}{Q:VK}{R:List V->Hp->Prop}(hq:∀(A:Av) (ds:List D) (vs:List V) (H:Hp),(∀v H',Same H H'->DenW X.K A σ H H' (mk ds) v->Q v H')->vs.length<=sizeLine->DenL X.K A H ds vs->R vs H)
  (h:tX X (fun ρ=>(fa ρ).bind fun p=>(takeAll p.2 p.1).bind fun q=>if q.1.length<=lim then some (mk q.1,q.2) else none) σ H Q):tA X fa σ H R:=by
 obtain⟨P,O,L,ρ,w,ρ',r,e,q⟩:=h;dsimp only at e;obtain⟨⟨ws,ρ1⟩,e1,e⟩:=obs e;dsimp only at e;obtain⟨⟨ds,ρ2⟩,e2,e⟩:=obs e;dsimp only at e;split at e
 ·rename_i hl;cases e;refine⟨P,O,L,ρ,ws,ρ1,r,e1,fun vs H1 r1 l1=>?_⟩;obtain⟨r2,l2,_⟩:=o4 r1 e2 l1;exact hq _ ds vs H1 (fun v H' s d=>q v H1 H' r2 s d) (by rw[<-b9 l2];exact zQ hl u5) l2
 ·cases e
theorem w8 {k:Nat}(ha:QA X es fa):QX X (.Tuple es k pos) (fTup fa):=⟨PE.weak (a3D ha.to) fun σ H Q h=>a0Q (mk:=fun ds=>.v (.tup ds)) (fun A ds vs H q hl l=>⟨hl,fun p hp=>q _ _ (j7 hp _) (M0 hp l)⟩) h⟩
theorem A9 (ha:QA X es fa):QX X (.List es pos) (fLst fa):=⟨PE.weak (b1J ha.to) fun σ H Q h=>a0Q (mk:=fun ds=>.o (.lst ds)) (fun A ds vs H q hl l=>⟨hl,fun p hp=>q _ _ (j7 hp _) (A5 hp l)⟩) h⟩
def items:D->Option (List D)
 | .tup xs=>some xs
 | .lst xs=>some xs
 | _=>none
theorem D7 {K:PySem.W.Frag}{A:Av}{H:Hp}{d:D}{xs:List D}{v:V}(e:items d=some xs)(h:DenR K A H d v):∃a vs,v= .ref a/\(SqL K H a vs\/SqT K H a vs)/\DenL K A H xs vs:=by
 cases d<;>simp only[items] at e<;>cases e
 ·have h:Den K A H (.tup xs) v:=h;rw[Den] at h;obtain⟨a,vs,e,hq,l⟩:=h;exact⟨a,vs,e,.inr hq,l⟩
 ·obtain⟨a,vs,e,hq,l⟩:=h;exact⟨a,vs,e,.inl hq,l⟩
def strAt (x:Str) (i:Int):Option W:=if x.length<=lim then(atI x.cps.toList i).map fun c=>.v (.str ⟨#[c]⟩) else none
def oIx (x y:D):Option W:=match x,y with
 | .str x,.int i=>strAt x i
 | x,.int i=>(items x).bind fun xs=>(atI xs i).map .v
 | _,_=>none
theorem a8B {K:PySem.W.Frag}{A:Av}{H:Hp}{xs:List D}{vs:List V}{i:Int}{d:D}(l:DenL K A H xs vs)(e:atI xs i=some d):∃v,atI vs i=some v/\Den K A H d v:=by
 unfold atI at e ⊢;rw[<-b9 l];cases q:ixN xs.length i with
 | none=>rw[q] at e;cases e
 | some j=>rw[q] at e;exact z6 l e
theorem k_ix:Pr2 X oIx (rIx X.K):=by
 intro A x y w v u H Q _ e hx hy q;unfold oIx at e;split at e
 ·rename_i z i;unfold strAt at e;split at e
  ·rename_i hl;obtain⟨ch,e1,e⟩:=oms e;cases e;have hx:Den X.K A H (.str z) v:=hx;exact .inr (.inr ⟨z,i,ch,a1v.mp hx,k8 hy,zQ hl u5,e1,q _ H (Same.refl H) a59⟩)
  ·cases e
 ·rename_i i _;cases e1:items x with
  | none=>rw[e1] at e;cases e
  | some xs=>
   rw[e1] at e;simp only[bind_some] at e;obtain⟨d,e2,e⟩:=oms e;cases e;obtain⟨a,vs,rfl,hq,l⟩:=D7 e1 hx;obtain⟨v',h1,h2⟩:=a8B l e2;rcases hq with hq|hq
   ·exact .inl ⟨a,vs,i,v',rfl,k8 hy,hq,h1,q _ H (Same.refl H) h2⟩
   ·exact .inr (.inl ⟨a,vs,i,v',rfl,k8 hy,hq,h1,q _ H (Same.refl H) h2⟩)
 ·cases e
def fCall (k:List D->Option W) (fa:FA):FX:=fun ρ=>(fa ρ).bind fun p=>(drs p.2 p.1).bind fun ds=>(k ds).map fun w=>(w,p.2)
def PrA (X:Cx) (k:List D->Option W) (r:List V->Hp->VK->Prop):Prop:=∀(A:Av) (ds:List D) (w:W) (vs:List V) (H:Hp) (Q:VK),(∀b,A b->∃o,H b=some o)->k ds=some w->DenRL X.K A H ds vs->(∀z H',Same H H'->DenW X.K A [] H H' w z->Q z H')->r vs H Q
theorem a0Y {r:List V->Hp->VK->Prop}{k:List D->Option W}(hk:PrA X k r):∀σ H Q,tX X (fCall k fa) σ H Q->tCB r (tA X fa) σ H Q:=fun σ H Q h0=>tXe h0 fun P O L ρ w ρ' r e q=>by
 unfold fCall at e;obtain⟨⟨ws,ρ1⟩,e1,e⟩:=obs e;dsimp only at e;cases e2:drs ρ1 ws with
 | none=>rw[e2] at e;cases e
 | some ds=>
  rw[e2] at e;simp only[bind_some] at e;cases e3:k ds with
  | none=>rw[e3] at e;cases e
  | some w'=>
   rw[e3] at e;cases e;exact⟨P,O,L,ρ,ws,ρ',r,e1,fun vs H1 r1 l1=>hk _ ds w vs H1 Q (fun b z=>r1.there z) e3 (a4R r1 e2 l1) fun z H2 s2 d2=>q z H1 H2 r1 s2 d2.st⟩
theorem a0v {x:Str}{p:Pos}{id:String}{r:List V->Hp->VK->Prop}{k:List D->Option W}(hc:CallR X (.builtin id) r)(hk:PrA X k r)(hv:bootBuiltins x=some (.builtin id))(hm:X.mg x=none)(ha:QA X (e::es) fa)(hg:Gl X x)(hn:x≠"__name__")(hdb:(x==("__debug__":Str))=false)
  (he:starEach (e::es) X.env=(false,eval e X.env)::starEach es X.env) (hpl:(backTo pos (starEach es X.env)).any (·.1)=false):QX X (.Call (.Name x p) (e::es) [] pos) (fCall k fa):=⟨PE.weak (a2U hc hg hm hv ha.to hn hdb he hpl) (a0Y hk)⟩
theorem a2n {x:Str}{p:Pos}{T:String}{r:List V->Hp->VK->Prop}{k:List D->Option W}(hc:CallR X (.type T) r)(hk:PrA X k r)(hv:bootBuiltins x=some (.type T))(hm:X.mg x=none)(ha:QA X (e::es) fa)(hg:Gl X x)(hn:x≠"__name__")(hdb:(x==("__debug__":Str))=false)
  (he:starEach (e::es) X.env=(false,eval e X.env)::starEach es X.env) (hpl:(backTo pos (starEach es X.env)).any (·.1)=false):QX X (.Call (.Name x p) (e::es) [] pos) (fCall k fa):=⟨PE.weak (a5G hc hg hm hv ha.to hn hdb he hpl) (a0Y hk)⟩
theorem denRL1 {K:PySem.W.Frag}{A:Av}{H:Hp}{d:D}{vs:List V}(l:DenRL K A H [d] vs):∃v,vs=[v]/\DenR K A H d v:=by
 obtain⟨v,r,rfl,h,l⟩:=l;have l:r=[]:=l;subst l;exact⟨v,rfl,h⟩
theorem denRL2 {K:PySem.W.Frag}{A:Av}{H:Hp}{d d':D}{vs:List V}(l:DenRL K A H [d,d'] vs):∃v v',vs=[v,v']/\DenR K A H d v/\DenR K A H d' v':=by
 obtain⟨v,r,rfl,h,l⟩:=l;obtain⟨v',rfl,h'⟩:=denRL1 l;exact⟨v,v',rfl,h,h'⟩
end
inductive R where
 | nx (ρ:Ev)|bk (ρ:Ev)|ct (ρ:Ev)|rt (w:W) (ρ:Ev)
abbrev FS:=Ev->Option R
abbrev A0 (O:Av) (L:List (Option Nat×Addr)):Av:=fun b=>O b\/∃i:Nat,(some i,b)∈L
def EndsOk (X:Cx) (P:List (D×V)) (O:Av) (L:List (Option Nat×Addr)) (E:Ends):R->Prop
 | .nx ρ=>∀σ H,Rep X P O L ρ σ H->E.nx σ H
 | .bk ρ=>∀σ H,Rep X P O L ρ σ H->E.bk σ H
 | .ct ρ=>∀σ H,Rep X P O L ρ σ H->E.ct σ H
 | .rt w ρ=>∀v H,(∀b o,X.H₀ b=some o->(∀i,(i,b)∉L)->H b=some o)->(∀(i:Nat) b,(some i,b)∈L->∃c,ownAt ρ i=some c/\Obj X.K (A0 O L) H b c)->DenW X.K (A0 O L) [] (hz X L) H w v->E.rt v H
def tS (X:Cx) (F:FS):TS:=fun E σ H=>∃P O L ρ r,Rep X P O L ρ σ H/\F ρ=some r/\EndsOk X P O L E r
theorem tSe {X:Cx}{F:FS}{E:Ends}{σ:L2.St}{H:Hp}{C:Prop}(h:tS X F E σ H)(k:∀P O L ρ r,Rep X P O L ρ σ H->F ρ=some r->EndsOk X P O L E r->C):C:=by
 obtain⟨P,O,L,ρ,r,rp,e,q⟩:=h;exact k P O L ρ r rp e q
structure QS (X:Cx) (st:Stmt) (F:FS):Prop where
 to:PS X st (tS X F)
structure QSs (X:Cx) (st:List Stmt) (F:FS):Prop where
 to:PSs X st (tS X F)
theorem PS.weak {X:Cx}{e:Stmt}{t u:TS}(h:PS X e t)(w:∀E σ H,u E σ H->t E σ H):PS X e u:=fun pins s σ H E I q=>h pins s σ H E I (w E σ H q)
theorem PSs.weak {X:Cx}{e:List Stmt}{t u:TS}(h:PSs X e t)(w:∀E σ H,u E σ H->t E σ H):PSs X e u:=fun pins s σ H E I q=>h pins s σ H E I (w E σ H q)
def fThen (F G:FS):FS:=fun ρ=>(F ρ).bind fun r=>match r with
 | .nx ρ'=>G ρ'
 | r=>some r
section
variable {X:Cx}{P:List (D×V)}{O:Av}{L:List (Option Nat×Addr)}{ρ ρ':Ev}{σ:L2.St}{H H1 H':Hp}{w:W}{d:D}{v:V}
theorem Rep.a0 (r:Rep X P O L ρ σ H){b:Addr}(z:A0 O L b):AvO O ρ σ b:=z.imp id fun⟨i,z⟩=>by
 obtain⟨d,h1,h2⟩:=r.lnd i b z;exact⟨i,_,d,h1,rfl,h2⟩
theorem Rep.lents (r:Rep X P O L ρ σ H):∀(i:Nat) b,(some i,b)∈L->∃c,ownAt ρ i=some c/\Obj X.K (A0 O L) H b c:=fun i b z=>by
 obtain⟨d,h1,h2⟩:=r.lnd i b z;obtain⟨a,h3,h4⟩:=r.obj h1 rfl;rw[h2] at h3;cases h3;exact⟨d,by unfold ownAt;rw[h1];rfl,w6 (w4 fun b z=>r.a0 z) rfl h4⟩
def bindW (ρ:Ev) (i:Nat):W->Option Ev
 | .v d=>if freeSlot ρ i=true then some (ρ.set i (some (.v d))) else none
 | .o d=>if freeSlot ρ i=true then some (ρ.set i (some (.o d))) else none
 | .r j=>(frzAt ρ j).bind fun ρ1=>match ρ1[j]? with
  | some (some (.v d))=>if freeSlot ρ1 i=true then some (ρ1.set i (some (.v d))) else none
  | _=>none
 | .l _=>none
theorem a3N {i:Nat}(r:Rep X P O L ρ σ H1)(s:Same H1 H')(h:DenW X.K (AvO O ρ σ) σ H1 H' w v)(e:bindW ρ i w=some ρ'):Rep X P O L ρ' (σ.set i (some v)) H':=by
 cases w with
 | v d=>
  rw[bindW] at e;split at e
  ·rename_i hf;cases e;exact(r.grow s).put hf h
  ·cases e
 | o d=>
  rw[bindW] at e;split at e
  ·rename_i hf;cases e;obtain⟨a,rfl,hn,ob⟩:=h;exact r.putO s hf hn ob
  ·cases e
 | r j=>
  rw[bindW] at e;cases e1:frzAt ρ j with
  | none=>rw[e1] at e;cases e
  | some ρ1=>
   rw[e1] at e;simp only[bind_some] at e;obtain⟨r1,_⟩:=(r.grow s).frz e1;split at e
   ·rename_i d q;split at e
    ·rename_i hf;cases e;obtain⟨u,q1,q2⟩:=r1.slot j _ q;have h:σ[j]? =some (some v):=h;rw[h] at q1;cases q1;exact r1.put hf q2
    ·cases e
   ·cases e
 | l d=>cases e
def retW (ρ:Ev):W->Option R
 | .v d=>some (.rt (.v d) ρ)
 | .o d=>some (.rt (.o d) ρ)
 | .r i=>match ρ[i]? with
  | some (some (.o d))=>some (.rt (.o d) ρ)
  | some (some (.v d))=>some (.rt (.v d) ρ)
  | _=>none
 | .l _=>none
theorem b0Q {E:Ends}{q:R}(r:Rep X P O L ρ σ H1)(s:Same H1 H')(h:DenW X.K (AvO O ρ σ) σ H1 H' w v)(e:retW ρ w=some q)(hq:EndsOk X P O L E q):E.rt v H':=by
 have r':=r.grow s;cases w with
 | v d=>cases e;exact hq v H' r'.same r'.lents (p0 (w4 fun b z=>r.a0 z) _ _ h)
 | o d=>
  cases e;obtain⟨a,rfl,hn,ob⟩:=h;exact hq _ H' r'.same r'.lents ⟨a,rfl,r.fresh0 hn,w6 (w4 fun b z=>z.imp (fun z=>r.a0 z) id) rfl ob⟩
 | r i=>
  rw[retW] at e;have h:σ[i]? =some (some v):=h;split at e
  ·rename_i d q;cases e;obtain⟨a,h1,h2⟩:=r'.obj q rfl;rw[h] at h1;cases h1;refine hq _ H' r'.same r'.lents ⟨a,rfl,r'.new i d a q h,w6 (w4 fun b z=>?_) rfl h2⟩;rcases z with z|z
   ·exact r.a0 z
   ·rw[z];exact .inr ⟨i,_,d,q,rfl,h⟩
  ·rename_i d q;cases e;obtain⟨u,q1,q2⟩:=r'.slot i _ q;rw[h] at q1;cases q1;exact hq v H' r'.same r'.lents (p0 (w4 fun b z=>r.a0 z) _ _ q2)
  ·cases e
 | l d=>cases e
end
section
variable {X:Cx}{a b c e:Expr}{st:Stmt}{rest bd els:List Stmt}{pos:Pos}{f g:FX}{t:FT}{fa:FA}{F G:FS}
theorem v4:QSs X [] (fun ρ=>some (.nx ρ)):=⟨PSs.weak a83 fun E σ H h0=>tSe h0 fun P O L ρ r rp e q=>by cases e;exact q σ H rp⟩
theorem g5 (h1:QS X st F)(h2:QSs X rest G):QSs X (st::rest) (fThen F G):=⟨PSs.weak (a6y h1.to h2.to) fun E σ H h0=>tSe h0 fun P O L ρ r rp e q=>by
 unfold fThen at e;obtain⟨r1,e1,e⟩:=obs e;refine⟨P,O,L,ρ,r1,rp,e1,?_⟩;cases r1 with
 | nx ρ'=>exact fun σ' H' rp'=>⟨P,O,L,ρ',r,rp',e,q⟩
 | bk ρ'=>cases e;exact q
 | ct ρ'=>cases e;exact q
 | rt d ρ'=>cases e;exact q⟩
theorem i0 (h1:QS X st F):QSs X [st] F:=⟨a86 h1.to⟩
def fRet (f:FX):FS:=fun ρ=>(f ρ).bind fun p=>retW p.2 p.1
theorem o8 (ha:QX X e f):QS X (.Return (some e) pos) (fRet f):=⟨PS.weak (b1t ha.to) fun E σ H h0=>tSe h0 fun P O L ρ r rp e q=>by
 unfold fRet at e;obtain⟨⟨w,ρ1⟩,e1,e⟩:=obs e
 exact⟨P,O,L,ρ,w,ρ1,rp,e1,fun v H1 H' r1 s1 d1=>b0Q r1 s1 d1 e q⟩⟩
def fIfS (t:FT) (F G:FS):FS:=fun ρ=>(t ρ).bind fun p=>if p.1=true then F p.2 else G p.2
theorem E7 (hc:QT X c t)(ha:QSs X bd F)(hb:QSs X els G):QS X (.If c bd els pos) (fIfS t F G):=⟨PS.weak (ps_if hc.to ha.to hb.to) fun E σ H h0=>tSe h0 fun P O L ρ r rp e q=>by
 unfold fIfS at e;obtain⟨⟨k,ρ1⟩,e1,e⟩:=obs e;dsimp only at e;refine⟨P,O,L,ρ,k,ρ1,rp,e1,fun H1 r1=>?_⟩;cases k with
 | true=>rw[if_pos rfl] at e ⊢;exact⟨P,O,L,ρ1,r,r1,e,q⟩
 | false=>rw[if_neg qD] at e ⊢;exact⟨P,O,L,ρ1,r,r1,e,q⟩⟩
def fAsg (i:Nat) (f:FX):FS:=fun ρ=>(f ρ).bind fun p=>(bindW p.2 i p.1).map .nx
theorem j9 (i:Nat){x:Str}{pos':Pos}(hN:X.N.Nodup)(ha:QX X e f)(hi:X.N[i]? =some x:=by rfl)(hx:Loc X.env.scope x:=by first|exact Or.inl rfl|exact Or.inr rfl)(hs:swapsWith e (some (.Name x pos')) pos.line X.env=pure false:=by rfl)(hf:X.fn x=true\/X.env.scope.names.lookup x=some .local:=by first|exact .inl rfl|exact .inr rfl):
  QS X (.Assign [.Name x pos'] e pos) (fAsg i f):=⟨PS.weak (b0x hN hi hx ha.to hs hf) fun E σ H h0=>tSe h0 fun P O L ρ r rp e q=>by
 unfold fAsg at e;obtain⟨⟨w,ρ1⟩,e1,e⟩:=obs e;dsimp only at e;obtain⟨ρ2,e2,e⟩:=oms e;cases e
 exact⟨P,O,L,ρ,w,ρ1,rp,e1,fun v H1 H' r1 s1 d1=>q _ H' (a3N r1 s1 d1 e2)⟩⟩
abbrev FG:=D->Ev->Option Ev
def GOk (X:Cx) (g:TG) (gf:FG):Prop:=∀(P:List (D×V)) (O:Av) (L:List (Option Nat×Addr)) (d:D) (v:V) (ρ ρ':Ev) (σ:L2.St) (H:Hp) (Q:L2.St->Hp->Prop),Rep X P O L ρ σ H->Den X.K (AvO O ρ σ) H d v->gf d ρ=some ρ'->(∀σ' H',Rep X P O L ρ' σ' H'->Q σ' H')->g v σ H Q
structure QG (X:Cx) (tg:Expr) (gf:FG):Prop where
 to:∃g,PG X tg g/\GOk X g gf
abbrev FGs:=List D->Ev->Option Ev
structure QGs (X:Cx) (tgs:List Expr) (n:Nat) (gf:FGs):Prop where
 to:∃g,PGs X tgs g/\∀(P:List (D×V)) (O:Av) (L:List (Option Nat×Addr)) (ds:List D) (vs:List V) (ρ ρ':Ev) (σ:L2.St) (H:Hp) (Q:L2.St->Hp->Prop),Rep X P O L ρ σ H->DenL X.K (AvO O ρ σ) H ds vs->gf ds ρ=some ρ'->(∀σ' H',Rep X P O L ρ' σ' H'->Q σ' H')->g vs σ H Q
 len:∀ds ρ ρ',gf ds ρ=some ρ'->ds.length=n
def gfName (i:Nat):FG:=fun d ρ=>if freeSlot ρ i=true then some (ρ.set i (some (.v d))) else none
theorem j0 (i:Nat){x:Str}(hN:X.N.Nodup)(hi:X.N[i]? =some x:=by rfl)(hx:Loc X.env.scope x:=by first|exact Or.inl rfl|exact Or.inr rfl)(hf:X.fn x=true\/X.env.scope.names.lookup x=some .local:=by first|exact .inl rfl|exact .inr rfl):QG X (.Name x pos) (gfName i):=
 ⟨gName i,a5b hN hi hx hf,fun P O L d v ρ ρ' σ H Q r h e q=>by
  unfold gfName at e;split at e
  ·rename_i hf;cases e;exact q _ H (r.put hf h)
  ·cases e⟩
def gfNil:FGs:=fun ds ρ=>match ds with
 | []=>some ρ
 | _=>none
def gfCons (gf:FG) (gs:FGs):FGs:=fun ds ρ=>match ds with
 | d::ds=>(gf d ρ).bind (gs ds)
 | _=>none
def gfTup (gs:FGs):FG:=fun d ρ=>match d with
 | .tup ds=>gs ds ρ
 | _=>none
theorem N2:QGs X [] 0 gfNil:=⟨⟨gNil,a8w,fun P O L ds vs ρ ρ' σ H Q r l e q=>by
 cases ds with
 | nil=>cases e;rw[DenL] at l;exact⟨l,q σ H r⟩
 | cons d ds=>cases e⟩,fun ds ρ ρ' e=>by cases ds with|nil=>rfl|cons d ds=>cases e⟩
theorem holdL {P:List (D×V)}{O:Av}{L:List (Option Nat×Addr)}{σ:L2.St}:∀{ds:List D} {vs:List V} {ρ:Ev} {H:Hp},Rep X P O L ρ σ H->DenL X.K (AvO O ρ σ) H ds vs->∃P',Rep X P' O L ρ σ H/\∀ρ2 σ2 H2,Rep X P' O L ρ2 σ2 H2->Rep X P O L ρ2 σ2 H2/\DenL X.K (AvO O ρ2 σ2) H2 ds vs
 | [],vs,ρ,H,r,l=>⟨P,r,fun ρ2 σ2 H2 r2=>⟨r2,by rw[DenL] at l ⊢;exact l⟩⟩
 | d::ds,vs,ρ,H,r,l=>by
  rw[DenL] at l;obtain⟨v,rs,rfl,h,l⟩:=l;obtain⟨P',r1,k1⟩:=holdL r l
  exact⟨(d,v)::P',r1.more h,fun ρ2 σ2 H2 r2=>by
   obtain⟨r3,l3⟩:=k1 ρ2 σ2 H2 r2.less
   exact⟨r3,j4 r2.head l3⟩⟩
theorem u4 {n:Nat}{tgs:List Expr}{tg:Expr}{gf:FG}{gs:FGs}(h:QG X tg gf)(t:QGs X tgs n gs)(hs:(assignEach (tg::tgs) X.env).map (·.2)=assign tg X.env::(assignEach tgs X.env).map (·.2):=by rfl):QGs X (tg::tgs) (n+1) (gfCons gf gs):=by
 obtain⟨g,p,k⟩:=h.to;obtain⟨gg,pp,kk⟩:=t.to;refine⟨⟨gCons g gg,a7X p pp hs,fun P O L ds vs ρ ρ' σ H Q r l e q=>?_⟩,fun ds ρ ρ' e=>?_⟩
 ·cases ds with
  | nil=>cases e
  | cons d ds=>
   rw[DenL] at l;obtain⟨v,rs,rfl,hd,l⟩:=l;simp only[gfCons] at e;obtain⟨ρ1,e1,e⟩:=obs e;obtain⟨P',r1,k1⟩:=holdL r l;refine⟨v,rs,rfl,k P' O L d v ρ ρ1 σ H _ r1 hd e1 fun σ' H' r2=>?_⟩;obtain⟨r3,l3⟩:=k1 _ _ _ r2;exact kk P O L ds rs ρ1 ρ' σ' H' Q r3 l3 e q
 ·cases ds with
  | nil=>cases e
  | cons d ds=>
   simp only[gfCons] at e;cases e1:gf d ρ with
   | none=>rw[e1] at e;cases e
   | some ρ1=>rw[e1] at e;rw[qB,t.len ds ρ1 ρ' e]
theorem V8 {tgs:List Expr}{n k:Nat}{gs:FGs}(hc:X.calm=true)(h:QGs X tgs n gs)(hn:(assignEach tgs X.env).length=n:=by rfl)(hst:(assignEach tgs X.env).findIdx? (·.1)=none:=by rfl):QG X (.Tuple tgs k pos) (gfTup gs):=by
 obtain⟨gg,pp,kk⟩:=h.to;refine⟨gTup X.K n gg,b1f hc pp hn hst,fun P O L d v ρ ρ' σ H Q r hd e q=>?_⟩;cases d with
 | tup ds=>
  rw[Den] at hd;obtain⟨a,vs,ev,hq,l⟩:=hd;exact⟨a,vs,ev,hq,by rw[<-b9 l];exact h.len ds ρ ρ' e,kk P O L ds vs ρ ρ' σ H Q r l e q⟩
 | _=>cases e
def gfSub (f g:FX):FG:=fun d ρ=>(f ρ).bind fun p=>match p.1 with
 | .r j=>(g p.2).bind fun q=>(dr q.2 q.1.fz).bind fun k=>match k,ownAt q.2 j with
  | .int k,some (.lst xs)=>(ixN xs.length k).map fun n=>setOwn q.2 j (.lst (xs.set n d))
  | _,_=>none
 | _=>none
theorem b0N (ha:QX X a f)(hb:QX X b g)(hs:∀v,assign (.Subscript a b pos) X.env v=(do
   let ov <-holding [v] (eval a X.env)
   let iv <-holding [v,ov] (eval b X.env)
   standAt pos
   holding [v,ov,iv] (setItem ov iv v)
   release [v,ov,iv] []):=by intro _;rfl):QG X (.Subscript a b pos) (gfSub f g):=by
 refine⟨_,b0F ha.to hb.to a7g hs,fun P O L d v ρ ρ' σ H Q r hd e q=>?_⟩;unfold gfSub at e;obtain⟨⟨w1,ρ1⟩,e1,e⟩:=obs e;dsimp only at e;split at e
 ·rename_i w1 j;obtain⟨⟨w2,ρ2⟩,e2,e⟩:=obs e;dsimp only at e;cases e3:dr ρ2 w2.fz with
  | none=>rw[e3] at e;cases e
  | some k=>
   rw[e3] at e;simp only[bind_some] at e;split at e
   ·rename_i _ _ i xs e4;obtain⟨n,e5,e⟩:=oms e;cases e;have r0:Rep X ((d,v)::P) O L ρ σ H:=r.more hd;refine⟨(d,v)::P,O,L,ρ,_,ρ1,r0,e1,fun o H1 H1' r1 s1 d1=>?_⟩;have d1:σ[j]? =some (some o):=d1;refine⟨(d,v)::P,O,L,ρ1,w2,ρ2,r1.grow s1,e2,fun u H2 H2' r2 s2 d2=>?_⟩;have r3:=r2.grow s2;have ki:=k8 (I0 r3 e3 (d2.fz r2 s2));obtain⟨w0,q0,ow⟩:=o9 e4;obtain⟨pa,h1,vs,h2,l⟩:=r3.obj q0 ow;rw[d1] at h1;cases h1;have av:∀b,AvO O (setOwn ρ2 j (.lst (xs.set n d))) σ b->AvO O ρ2 σ b:=fun b z=>z.imp id fun z=>(N4 e4 b).mp z;refine⟨pa,vs,i,n,rfl,ki,h2,by rw[<-b9 l];exact e5,q σ _ ((r3.less).mut e4 d1 (fun b o eb nb=>by rw[g9 nb];exact eb) ⟨_,m6,?_⟩)⟩
    have g0:Go (AvO O ρ2 σ) (AvO O ρ2 σ) (fun b=>b=pa) H2' (upd H2' pa (.lst (vs.set n v))):=⟨fun b o eb nb=>by rw[g9 nb];exact eb,fun b z=>by rw[z];exact⟨.inr ⟨j,w0,_,q0,ow,d1⟩,_,h2,trivial⟩,fun b z=>.inl z⟩
    exact q9 g0 _ _ (a2S r3.head n l)
   ·cases e
 ·cases e
def fAsgG (f:FX) (gf:FG):FS:=fun ρ=>(f ρ).bind fun p=>(takeAll p.2 [p.1.fz]).bind fun q=>match q.1 with
 | [d]=>(gf d q.2).map .nx
 | _=>none
theorem a7h {tg:Expr}{gf:FG}(ha:QX X e f)(hg:QG X tg gf)(hs:swapsWithSole [tg] e pos.line X.env=pure false:=by rfl)(hw:swappedStores [tg] e X.env=pure none:=by rfl)(h1:(assignEach [tg] X.env).map (·.2)=[assign tg X.env]:=by rfl):QS X (.Assign [tg] e pos) (fAsgG f gf):=by
 obtain⟨g,p,k⟩:=hg.to;refine⟨PS.weak (b1B ha.to p hs hw h1) fun E σ H h0=>tSe h0 fun P O L ρ r rp e q=>?_⟩;unfold fAsgG at e;obtain⟨⟨w,ρ1⟩,e1,e⟩:=obs e;dsimp only at e;obtain⟨⟨ds,ρ2⟩,e2,e⟩:=obs e;dsimp only at e;split at e
 ·rename_i d;obtain⟨ρ3,e3,e⟩:=oms e;cases e;refine⟨P,O,L,ρ,w,ρ1,rp,e1,fun v H1 H' r1 s1 d1=>?_⟩;obtain⟨r2,l2,_⟩:=o4 (vs:=[v]) (r1.grow s1) e2 ⟨v,[],rfl,d1.fz r1 s1,rfl⟩;obtain⟨v',ev,h'⟩:=denL1 l2;cases ev;exact k P O L d v ρ2 ρ3 σ H' _ r2 h' e3 fun σ' H' r'=>q σ' H' r'
 ·cases e
def fDrop (f:FX):FS:=fun ρ=>(f ρ).map fun p=>.nx p.2
theorem O0 (ha:QX X e f)(hs:swapsWith e none pos.line X.env=pure false:=by rfl):QS X (.Expr e pos) (fDrop f):=⟨PS.weak (a8A ha.to hs) fun E σ H h0=>tSe h0 fun P O L ρ r rp e q=>by
 unfold fDrop at e;obtain⟨p,e1,e⟩:=oms e;cases e
 exact⟨P,O,L,ρ,p.1,p.2,rp,e1,fun v H1 H' r1 s1 d1=>q σ H' (r1.grow s1)⟩⟩
def fPar (i j:Nat) (fa:FA):FS:=fun ρ=>(fa ρ).bind fun p=>(takeAll p.2 p.1).bind fun q=>match q.1 with
 | [d,d']=>if freeSlot q.2 i=true/\freeSlot (q.2.set i (some (.v d))) j=true then some (.nx ((q.2.set i (some (.v d))).set j (some (.v d')))) else none
 | _=>none
end
open Classical in
section
variable {X:Cx}{a b e:Expr}{body:List Stmt}{pos:Pos}{f g:FX}{t:FT}{fa:FA}{F:FS}
abbrev FI:=Ev->Option (List D×Ev)
def Wks (K:PySem.W.Frag) (P:List (D×V)) (xs:List D) (J:It):Prop:=∀(Y:Cx) (O:Av) (L:List (Option Nat×Addr)) (ρ:Ev) (σ:L2.St) (H:Hp),Y.K=K->Rep Y P O L ρ σ H->
 (∀(i:Nat) (x:D),xs[i]? =some x->J.go i H/\∀v H',J.yld i H v H'->Same H H'/\Den K (AvO O ρ σ) H' x v)/\J.stop xs.length H
def Holds (P P':List (D×V)):Prop:=∀p∈P',p∈P
theorem Rep.holds {P P':List (D×V)}{O:Av}{L:List (Option Nat×Addr)}{ρ:Ev}{σ:L2.St}{H:Hp}(r:Rep X P O L ρ σ H)(h:Holds P P'):Rep X P' O L ρ σ H:=⟨r.same,r.amb,r.len,r.slot,r.inj,r.new,r.lnt,r.lnd,fun p hp=>r.prot p (h p hp),r.gvl⟩
def tI (X:Cx) (fi:FI):TI:=fun σ H R=>∃P O L ρ xs ρ',Rep X P O L ρ σ H/\fi ρ=some (xs,ρ')/\∀J H1 P',Rep X P' O L ρ' σ H1->Holds P' P->Wks X.K P' xs J->R J H1
theorem tIe {X:Cx}{fi:FI}{σ:L2.St}{H:Hp}{R:It->Hp->Prop}{C:Prop}(h:tI X fi σ H R)(k:∀P O L ρ xs ρ',Rep X P O L ρ σ H->fi ρ=some (xs,ρ')->(∀J H1 P',Rep X P' O L ρ' σ H1->Holds P' P->Wks X.K P' xs J->R J H1)->C):C:=by
 obtain⟨P,O,L,ρ,w,ρ',r,e,q⟩:=h;exact k P O L ρ w ρ' r e q
structure QI (X:Cx) (tg iter:Expr) (fi:FI):Prop where
 to:PI X tg iter (tI X fi)
theorem PI.weak {tg e:Expr}{t u:TI}(h:PI X tg e t)(w:∀σ H Q,u σ H Q->t σ H Q):PI X tg e u:=fun pins s σ H Q I q=>h pins s σ H Q I (w σ H Q q)
def iSeq (K:PySem.W.Frag) (tl:TE):TI:=fun σ H R=>tl σ H fun x H1=>(∃a,x= .ref a/\(∃xs,SqL K H1 a xs)/\R (Itl K a) H1)\/∃a,x= .ref a/\(∃xs,SqT K H1 a xs)/\R (Itt K a) H1
theorem a7H {tg l:Expr}{tl:TE}(hl:PE X l tl):PI X tg l (iSeq X.K tl):=by
 intro pins s σ H R I h;refine thn (hl pins s σ H _ I h) fun v s1 ⟨x,H1,I1,r1,q1⟩=>?_;rcases q1 with ⟨a,e,⟨xs,hq⟩,q⟩|⟨a,e,⟨xs,hq⟩,q⟩
 ·subst e;cases r1;obtain⟨its,rv,p,hz⟩:=I1.list hq;refine wpAny_pyIter_list p.isList ?_;refine⟨s1.heap.objs.size,[s1.heap.objs.size],_,_,H1,rfl,I1.kept (t':=s1.toks) fun b o e=>zE _ e,a5e a _,⟨_,qA _ rfl,rfl,rfl⟩,fun b hb=>?_,q⟩;have e:b=s1.heap.objs.size:=by simpa using hb
  subst e;exact I1.fpOk (zD _) (I1.hok.fresh (zD _))
 ·subst e;cases r1;obtain⟨its,rv,p,hz⟩:=I1.tuple hq;refine wpAny_pyIter_tuple (show s1.heap.IsTuple a its.toArray from p) ?_;refine⟨s1.heap.objs.size,[s1.heap.objs.size],_,_,H1,rfl,I1.kept (t':=s1.toks) fun b o e=>zE _ e,a3h a _,⟨_,qA _ rfl,rfl,rfl⟩,fun b hb=>?_,q⟩;have e:b=s1.heap.objs.size:=by simpa using hb
  subst e;exact I1.fpOk (zD _) (I1.hok.fresh (zD _))
def fiSeq (f:FX):FI:=fun ρ=>(f ρ).bind fun p=>(takeAll p.2 [p.1.fz]).bind fun q=>match q.1 with
 | [d]=>(items d).map fun xs=>(xs,q.2)
 | _=>none
theorem D8 {tg l:Expr}(hl:QX X l f):QI X tg l (fiSeq f):=⟨PI.weak (a7H hl.to) fun σ H R h0=>tIe h0 fun P O L ρ xs ρ' r e q=>by
 unfold fiSeq at e;obtain⟨⟨w,ρ1⟩,e1,e⟩:=obs e;dsimp only at e;obtain⟨⟨ds,ρ2⟩,e2,e⟩:=obs e;dsimp only at e;split at e
 ·rename_i d;obtain⟨ys,e3,e⟩:=oms e;cases e;refine⟨P,O,L,ρ,w,ρ1,r,e1,fun v H1 H' r1 s1 d1=>?_⟩;obtain⟨r2,l2,_⟩:=o4 (vs:=[v]) (r1.grow s1) e2 ⟨v,[],rfl,d1.fz r1 s1,rfl⟩;obtain⟨v',ev,h'⟩:=denL1 l2;cases ev;have r3:=r2.more (p:=(d,v)) h';have hh:Holds ((d,v)::P) P:=fun p hp=>zL _ hp;cases d with
  | tup zs=>
   cases e3;have z:=h';rw[Den] at z;obtain⟨a,vs,rfl,hq,l⟩:=z;refine .inr ⟨a,rfl,⟨vs,hq⟩,q _ H' _ r3 hh fun Y O' L' ρ' σ' Hh hY rr=>?_⟩;have z:=rr.head;rw[hY] at z;rw[Den] at z;obtain⟨a',vs,ea,hq,l⟩:=z;cases ea;refine⟨fun i x ex=>?_,vs,hq,by rw[<-b9 l];exact zD _⟩
   obtain⟨v0,hv,dv⟩:=z6 l ex;exact⟨⟨vs,v0,hq,hv⟩,fun w H' ⟨y1,y2⟩=>by subst y1;have:=y2 vs hq;rw[hv] at this;cases this;exact⟨Same.refl _,dv⟩⟩
  | lst zs=>
   cases e3;obtain⟨a,vs,rfl,hq,l⟩:=D1 h';refine .inl ⟨a,rfl,⟨vs,hq⟩,q _ H' _ r3 hh fun Y O' L' ρ' σ' Hh hY rr=>?_⟩;have z:=rr.head;rw[hY] at z;obtain⟨a',vs,ea,hq,l⟩:=D1 z;cases ea;refine⟨fun i x ex=>?_,vs,hq,by rw[<-b9 l];exact zD _⟩
   obtain⟨v0,hv,dv⟩:=z6 l ex;exact⟨⟨vs,v0,hq,hv⟩,fun w H' ⟨y1,y2⟩=>by subst y1;have:=y2 vs hq;rw[hv] at this;cases this;exact⟨Same.refl _,dv⟩⟩
  | _=>cases e3
 ·cases e⟩
def rngD (lo:Int) (n:Nat):List D:=(List.range n).map fun(i:Nat)=>D.int (lo+i)
theorem a1r {K:PySem.W.Frag}{P:List (D×V)}(lo:Int)(n:Nat):Wks K P (rngD lo n) (Itr lo n):=fun Y O L ρ σ H _ _=>by
 unfold rngD;refine⟨fun i x ex=>?_,by show(List.length _)≥n;simp⟩
 rw[qH] at ex
 by_cases hi:i<n
 ·rw[vD hi] at ex;cases ex;exact⟨hi,fun v H' ⟨y1,y2⟩=>by subst y1;exact⟨Same.refl _,w9.mpr y2⟩⟩
 ·rw[xB (by simpa using hi)] at ex;cases ex
def fiR1 (fa:FA):FI:=fun ρ=>(fa ρ).bind fun p=>match p.1 with
 | [.v (.int n)]=>if -(2^62)<=n/\n<2^62 then some (rngD 0 n.toNat,p.2) else none
 | _=>none
theorem X6 {tg:Expr}{p:Pos}(hm:X.mg "range"=none)(ha:QA X [a] fa)(hg:Gl X "range":=by rfl)(hs:starEach [a] X.env=[(false,eval a X.env)]:=by rfl):QI X tg (.Call (.Name "range" p) [a] [] pos) (fiR1 fa):=⟨PI.weak (a5f hg hm ha.to hs) fun σ H R h0=>tIe h0 fun P O L ρ xs ρ' r e q=>by
 unfold fiR1 at e;obtain⟨⟨ws,ρ1⟩,e1,e⟩:=obs e;dsimp only at e;split at e
 ·rename_i n;split at e
  ·rename_i hn;cases e;refine⟨P,O,L,ρ,_,_,r,e1,fun vs H1 r1 l1=>?_⟩;obtain⟨v,rs,rfl,h1,l1⟩:=l1;have l1:rs=[]:=l1;have h1:Den X.K (AvO O ρ' σ) H1 (.int n) v:=h1;subst l1;exact⟨n,by rw[w9.mp h1],hn.1,hn.2,q _ H1 P r1 (fun p hp=>hp) (a1r 0 _)⟩
  ·cases e
 ·cases e⟩
def fiR2 (fa:FA):FI:=fun ρ=>(fa ρ).bind fun p=>match p.1 with
 | [.v (.int m),.v (.int n)]=>if(-(2^62)<=m/\m<2^62)/\-(2^62)<=n/\n<2^62 then some (rngD m (n-m).toNat,p.2) else none
 | _=>none
theorem b0k {tg:Expr}{p:Pos}(hm:X.mg "range"=none)(ha:QA X [a,b] fa)(hg:Gl X "range":=by rfl)(hs:starEach [a,b] X.env=[(false,eval a X.env),(false,eval b X.env)]:=by rfl)(hs2:starEach [b] X.env=[(false,eval b X.env)]:=by rfl):QI X tg (.Call (.Name "range" p) [a,b] [] pos) (fiR2 fa):=⟨PI.weak (a5r hg hm ha.to hs hs2) fun σ H R h0=>tIe h0 fun P O L ρ xs ρ' r e q=>by
 unfold fiR2 at e;obtain⟨⟨ws,ρ1⟩,e1,e⟩:=obs e;dsimp only at e;split at e
 ·rename_i m n;split at e
  ·rename_i hn;cases e;refine⟨P,O,L,ρ,_,_,r,e1,fun vs H1 r1 l1=>?_⟩;obtain⟨v,rs,rfl,h1,u,rs',rfl,h2,l1⟩:=l1;have l1:rs'=[]:=l1;have h1:Den X.K (AvO O ρ' σ) H1 (.int m) v:=h1;have h2:Den X.K (AvO O ρ' σ) H1 (.int n) u:=h2;subst l1;exact⟨m,n,by rw[w9.mp h1,w9.mp h2],⟨hn.1.1,hn.1.2,hn.2.1,hn.2.2⟩,q _ H1 P r1 (fun p hp=>hp) (a1r m _)⟩
  ·cases e
 ·cases e⟩
def loopF (b:D->FS):List D->Ev->Option R
 | [],ρ=>some (.nx ρ)
 | x::xs,ρ=>(b x ρ).bind fun r=>match r with
  | .nx ρ'=>loopF b xs ρ'
  | .ct ρ'=>loopF b xs ρ'
  | .bk ρ'=>some (.nx ρ')
  | .rt d ρ'=>some (.rt d ρ')
def turnF (gf:FG) (b:FS):D->FS:=fun x ρ=>(gf x ρ).bind b
def fFor (fi:FI) (gf:FG) (b:FS):FS:=fun ρ=>(fi ρ).bind fun p=>loopF (turnF gf b) p.1 p.2
theorem D0 {tg iter:Expr}{fi:FI}{gf:FG}(hp:PassesOwn (model X.prog X.w) X.A X.env X.xe)(hc:X.calm=true)(hi:QI X tg iter fi)(hg:QG X tg gf)(hb:QSs X body F)(hs:∀x,foldedSetIterable iter X.env x=pure x:=by intro _;rfl):
  QS X (.For tg iter body [] pos) (fFor fi gf F):=by
 obtain⟨g,pg,kg⟩:=hg.to;refine⟨PS.weak (b0M hp hc hi.to pg hb.to hs) fun E σ H h0=>tSe h0 fun P O L ρ r rp e q=>?_⟩;unfold fFor at e;obtain⟨⟨xs,ρ1⟩,e1,e⟩:=obs e;dsimp only at e;refine⟨P,O,L,ρ,xs,ρ1,rp,e1,fun J H1 P' r1 hh wk=>?_⟩;refine⟨fun i m σ H=>m=xs.length-i/\i<=xs.length/\∃ρ,Rep X P' O L ρ σ H/\loopF (turnF gf F) (xs.drop i) ρ=some r,⟨xs.length,by simp,qL _,ρ1,r1,by simpa using e⟩,?_⟩
 rintro i m σ H ⟨rfl,hi,ρ,rp,e⟩;obtain⟨wi,ws⟩:=wk X O L ρ σ H rfl rp
 by_cases hlt:i<xs.length
 ·obtain⟨go,yl⟩:=wi i xs[i] (by simp[hlt])
  refine .inr ⟨go,fun σ' H'=>∃ρ,Rep X P' O L ρ σ' H'/\loopF (turnF gf F) (xs.drop (i+1)) ρ=some r,fun σ' H' h=>⟨xs.length-(i+1),by omega,rfl,hlt,h⟩,fun v H' y=>?_⟩
  obtain⟨sm,dv⟩:=yl v H' y;rw[List.drop_eq_getElem_cons hlt,loopF] at e;cases e1:turnF gf F xs[i] ρ with
  | none=>rw[e1] at e;cases e
  | some r1=>
   rw[e1] at e;simp only[bind_some] at e;unfold turnF at e1;obtain⟨ρ1,e2,e1⟩:=obs e1;refine kg P' O L xs[i] v ρ ρ1 σ _ _ (rp.grow sm) dv e2 fun σ' H2 rp'=>⟨P',O,L,ρ1,r1,rp',e1,?_⟩;cases r1 with
   | nx ρ2=>exact fun σ2 H2 rp2=>⟨ρ2,rp2,e⟩
   | ct ρ2=>exact fun σ2 H2 rp2=>⟨ρ2,rp2,e⟩
   | bk ρ2=>cases e;exact fun σ2 H2 rp2=>q σ2 H2 (rp2.holds hh)
   | rt d ρ2=>cases e;exact q
 ·have ei:i=xs.length:=by omega
  subst ei;rw[List.drop_length,loopF] at e;cases e;exact .inl ⟨ws,q σ H (rp.holds hh)⟩
end
def spF (K:PySem.W.Frag) (g:List D->Option W):Sp:=fun vs H Q _=>∃(A:Av) (ds:List D) (w:W),(∀b,A b->∃o,H b=some o)/\DenL K A H ds vs/\g ds=some w/\∀v H',Same H H'->DenW K A [] H H' w v->Q v H'
def spL (K:PySem.W.Frag) (g:D->List D->Option (W×D)):Sp:=fun vs H Q _=>∃(A:Av) (a:Addr) (c:D) (ds:List D) (us:List V) (w:W) (c':D),vs= .ref a::us/\(∀b,A b->∃o,H b=some o)/\¬A a/\Obj K (fun b=>A b\/b=a) H a c/\DenL K (fun b=>A b\/b=a) H ds us/\g c ds=some (w,c')/\
 ∀v H',(∀b o,H b=some o->b≠a->H' b=some o)->Obj K (fun b=>A b\/b=a) H' a c'->DenW K (fun b=>A b\/b=a) [] H H' w v->Q v H'
structure FnS (P:Program) (w:World) (K:PySem.W.Frag) (mg:Str->Option Value) (base:Heap) (x:Str) (k:Nat) (sp:Sp):Prop where
 ex:∃(f:Addr) (fd:FuncData) (ps:List Str),FnOk P w K mg base CX0 k f fd ps sp/\Binds K fd ps []/\PySem.W.keepIn K (.ref f)=true/\mg x=some (.ref f)
abbrev Fn (P:Program) (w:World) (K:PySem.W.Frag) (mg:Str->Option Value) (base:Heap) (x:Str) (k:Nat) (g:List D->Option W):Prop:=FnS P w K mg base x k (spF K g)
abbrev FnL (P:Program) (w:World) (K:PySem.W.Frag) (mg:Str->Option Value) (base:Heap) (x:Str) (k:Nat) (g:D->List D->Option (W×D)):Prop:=FnS P w K mg base x k (spL K g)
section
variable {P:Program}{w:World}{K:PySem.W.Frag}{mg:Str->Option Value}{base:Heap}{x:Str}{j k:Nat}
theorem FnS.mono {sp:Sp}(F:FnS P w K mg base x j sp)(h:j<=k):FnS P w K mg base x k sp:=by
 obtain⟨f,fd,ps,a,b,c,d⟩:=F.ex;exact⟨f,fd,ps,a.mono h,b,c,d⟩
end
def lfC:D->Bool
 | .lst xs=>lfL xs
 | .dT _ xs=>lfL xs
 | .dK _ xs=>lfL xs
 | _=>false
def lfW:W->Bool
 | .v d=>lf d
 | .o d=>lfC d
 | _=>false
def frzL:List W->Ev->Option Ev
 | [],ρ=>some ρ
 | .r i::ws,ρ=>(frzAt ρ i).bind (frzL ws)
 | _::ws,ρ=>frzL ws ρ
def fDef (g:List D->Option W) (fa:FA):FX:=fun ρ=>(fa ρ).bind fun p=>(drs p.2 p.1).bind fun ds=>(g ds).bind fun w=>if lfW w=true then some (w,p.2) else(frzL p.1 p.2).map fun ρ2=>(w,ρ2)
def noR (i:Nat):List W->Bool
 | []=>true
 | .r j::ws=>i != j&&noR i ws
 | _::ws=>noR i ws
def fDefL (g:D->List D->Option (W×D)) (fa:FA):FX:=fun ρ=>(fa ρ).bind fun p=>match p.1 with
 | .r i::ws=>(ownAt p.2 i).bind fun c=>(drs p.2 ws).bind fun ds=>(g c ds).bind fun z=>if noR i ws=true/\lfC z.2=true then(if lfW z.1=true then some (z.1,setOwn p.2 i z.2) else(frzL ws (setOwn p.2 i z.2)).map fun ρ2=>(z.1,ρ2)) else none
 | _=>none
section
variable {K:PySem.W.Frag}{A A':Av}{H H':Hp}
theorem Q8 (g:∀b o,H b=some o->¬Mu o->H' b=some o){a:Addr}{d:D}(f:lfC d=true)(hk:H' a=H a)(h:Obj K A H a d):Obj K A' H' a d:=by
 cases d with
 | lst xs=>obtain⟨vs,e,l⟩:=h;exact⟨vs,hk.trans e,S5 g _ _ f l⟩
 | dT ks xs=>obtain⟨vs,e,hl,l⟩:=h;exact⟨vs,hk.trans e,hl,S5 g _ _ f l⟩
 | dK ks xs=>obtain⟨vs,e,hl,l⟩:=h;exact⟨vs,hk.trans e,hl,S5 g _ _ f l⟩
 | _=>exact h.elim
end
section
variable {X:Cx}{P:List (D×V)}{O:Av}{L:List (Option Nat×Addr)}{ρ ρ':Ev}{σ:L2.St}{H:Hp}
theorem G9:∀{ws:List W} {ρ ρ':Ev},Rep X P O L ρ σ H->frzL ws ρ=some ρ'->Rep X P O L ρ' σ H/\∀(j:Nat) (w:W) (d:D),ρ'[j]? =some (some w)->w.own=some d->ρ[j]? =some (some w)/\W.r j∉ws
 | [],ρ,ρ',r,e=>by cases e;exact⟨r,fun j w d e1 _=>⟨e1,by simp⟩⟩
 | .r i::ws,ρ,ρ',r,e=>by
  rw[frzL] at e;obtain⟨ρ1,e1,e⟩:=obs e;obtain⟨r1,k1⟩:=r.frz e1;obtain⟨r2,k2⟩:=G9 r1 e;refine⟨r2,fun j w d e1 e2=>?_⟩;obtain⟨a1,a2⟩:=k2 j w d e1 e2;obtain⟨b1,b2⟩:=k1 j w d a1 e2;exact⟨b1,fun z=>(zS.mp z).elim (fun z=>by cases z;exact b2 rfl) a2⟩
 | .v _::ws,ρ,ρ',r,e=>by
  obtain⟨r2,k2⟩:=G9 (ws:=ws) r e;exact⟨r2,fun j w d e1 e2=>⟨(k2 j w d e1 e2).1,fun z=>(zS.mp z).elim (fun z=>by cases z) (k2 j w d e1 e2).2⟩⟩
 | .o _::ws,ρ,ρ',r,e=>by
  obtain⟨r2,k2⟩:=G9 (ws:=ws) r e;exact⟨r2,fun j w d e1 e2=>⟨(k2 j w d e1 e2).1,fun z=>(zS.mp z).elim (fun z=>by cases z) (k2 j w d e1 e2).2⟩⟩
 | .l _::ws,ρ,ρ',r,e=>by
  obtain⟨r2,k2⟩:=G9 (ws:=ws) r e;exact⟨r2,fun j w d e1 e2=>⟨(k2 j w d e1 e2).1,fun z=>(zS.mp z).elim (fun z=>by cases z) (k2 j w d e1 e2).2⟩⟩
def Handed (ρ:Ev) (σ:L2.St) (ws:List W) (b:Addr):Prop:=∃(i:Nat) (w:W) (d:D),W.r i∈ws/\ρ[i]? =some (some w)/\w.own=some d/\σ[i]? =some (some (V.ref b))
theorem W0 {B:Av}(r:Rep X P O L ρ σ H)(hB:∀b,B b->AvO O ρ σ b):∀{ws:List W} {ds:List D} {vs:List V},(∀b,B b->¬Handed ρ σ ws b)->drs ρ ws=some ds->DenA X.K (AvO O ρ σ) σ H ws vs->DenL X.K B H ds vs
 | [],ds,vs,n,e,h=>by cases e;have h:vs=[]:=h;subst h;exact j6
 | w::ws,ds,vs,n,e,h=>by
  obtain⟨v,rs,rfl,h1,h2⟩:=h;rw[drs] at e;cases e1:dr ρ w with
  | none=>rw[e1] at e;cases e
  | some d=>
   cases e2:drs ρ ws with
   | none=>rw[e1,e2] at e;cases e
   | some dd=>
    rw[e1,e2] at e;cases e;refine j4 ?_ (W0 r hB (fun b z y=>n b z (let ⟨i,w,d,m,q⟩:=y;⟨i,w,d,zL _ m,q⟩)) e2 h2);cases w with
    | v c=>cases e1;exact p0 (w4 hB) _ _ h1
    | r i=>
     have h1:σ[i]? =some (some v):=h1;rw[dr] at e1;cases q:ρ[i]? with
     | none=>rw[q] at e1;cases e1
     | some o=>
      rw[q] at e1;cases o with
      | none=>cases e1
      | some w'=>
       cases w' with
       | v c=>
        cases e1;obtain⟨u,q1,q2⟩:=r.slot i _ q;rw[h1] at q1;cases q1;exact p0 (w4 hB) _ _ q2
       | _=>
        obtain⟨a,q1,q2⟩:=r.obj q e1;rw[h1] at q1;cases q1;exact T7 (w6 (w4 hB) rfl q2) fun z=>n a z ⟨i,_,d,zM,q,e1,h1⟩
    | _=>cases e1
theorem O9 {ws:List W}(r:Rep X P O L ρ σ H)(k:∀(j:Nat) (w:W) (d:D),ρ'[j]? =some (some w)->w.own=some d->ρ[j]? =some (some w)/\W.r j∉ws){b:Addr}(z:AvO O ρ' σ b):AvO O ρ σ b/\¬Handed ρ σ ws b:=by
 refine⟨z.imp id fun⟨j,w,d,e1,e2,e3⟩=>⟨j,w,d,(k j w d e1 e2).1,e2,e3⟩,fun⟨i,w,d,m,q1,q2,q3⟩=>?_⟩;rcases z with z|⟨j,w',d',e1,e2,e3⟩
 ·exact r.ambN z ⟨i,w,d,q1,q2,q3⟩
 ·obtain⟨a1,a2⟩:=k j w' d' e1 e2
  have:=r.inj i j w w' d d' b q1 q2 q3 a1 e2 e3
  subst this;exact a2 m
end
section
variable {X:Cx}{e:Expr}{es:List Expr}{pos p:Pos}{fa:FA}{x:Str}{k:Nat}
theorem a7f {g:List D->Option W}:∀σ H Q,tX X (fDef g fa) σ H Q->tCall (spF X.K g) [] E0 (tA X fa) σ H Q:=fun σ H Q h0=>tXe h0 fun P O L ρ w ρ' r e q=>by
 unfold fDef at e;obtain⟨⟨ws,ρ1⟩,e1,e⟩:=obs e;dsimp only at e;cases e2:drs ρ1 ws with
 | none=>rw[e2] at e;cases e
 | some ds=>
  rw[e2] at e;simp only[bind_some] at e;cases e3:g ds with
  | none=>rw[e3] at e;cases e
  | some w1=>
   rw[e3] at e;simp only[bind_some] at e;refine⟨P,O,L,ρ,ws,ρ1,r,e1,fun vs H1 r1 l1=>?_⟩;refine⟨fun b=>AvO O ρ1 σ b/\¬Handed ρ1 σ ws b,ds,w1,fun b z=>r1.there z.1,by rw[jZ];exact W0 r1 (fun b z=>z.1) (fun b z=>z.2) e2 l1,e3,fun v H2 s2 d2=>?_⟩
   split at e
   ·rename_i hl;cases e;refine q v H1 H2 r1 s2 ?_;cases w with
    | v d=>exact a3J (fun _ _ e _=>e) _ _ hl d2
    | o d=>obtain⟨a,ev,hn,ob⟩:=d2;exact⟨a,ev,hn,Q8 (fun _ _ e _=>e) hl rfl ob⟩
    | _=>cases hl
   ·obtain⟨ρ2,e4,e⟩:=oms e;cases e;obtain⟨r2,k2⟩:=G9 r1 e4;refine q v H1 H2 r2 s2 ?_;have sub:=fun b (z:AvO O ρ' σ b)=>O9 r1 k2 z;cases w with
    | v d=>exact p0 (w4 sub) _ _ d2
    | o d=>obtain⟨a,ev,hn,ob⟩:=d2;exact⟨a,ev,hn,w6 (w4 fun b z=>z.imp (sub b) id) rfl ob⟩
    | r i=>exact absurd d2 (by simp[DenW])
    | l d=>exact d2.elim
theorem C3 {g:List D->Option W}(F:Fn X.prog X.w X.K X.mg X.base x k g)(hr:Room k X.A)(ha:QA X (e::es) fa)(hg:Gl X x:=by rfl)(hdb:(x==("__debug__":Str))=false:=by decide)
  (he:starEach (e::es) X.env=(false,eval e X.env)::starEach es X.env:=by rfl) (hpl:(backTo pos (starEach es X.env)).any (·.1)=false:=by rfl):QX X (.Call (.Name x p) (e::es) [] pos) (fDef g fa):=by
 obtain⟨f,fd,ps,F,b,kp,hm⟩:=F.ex;exact⟨PE.weak (a4W F hr hg hm kp b .nil pass0 ha.to hdb he hpl) a7f⟩
theorem N5 {i:Nat}:∀{ws:List W},noR i ws=true->W.r i∉ws
 | [],_=>by simp
 | .r j::ws,h=>by
  rw[noR,qR] at h;exact fun z=>(zS.mp z).elim (fun z=>by cases z;simp at h) (N5 h.2)
 | .v _::ws,h=>fun z=>(zS.mp z).elim (fun z=>by cases z) (N5 (ws:=ws) h)
 | .o _::ws,h=>fun z=>(zS.mp z).elim (fun z=>by cases z) (N5 (ws:=ws) h)
 | .l _::ws,h=>fun z=>(zS.mp z).elim (fun z=>by cases z) (N5 (ws:=ws) h)
theorem k6 {g:D->List D->Option (W×D)}(F:FnL X.prog X.w X.K X.mg X.base x k g)(hr:Room k X.A)(ha:QA X (e::es) fa)(hg:Gl X x:=by rfl)(hdb:(x==("__debug__":Str))=false:=by decide)
  (he:starEach (e::es) X.env=(false,eval e X.env)::starEach es X.env:=by rfl) (hpl:(backTo pos (starEach es X.env)).any (·.1)=false:=by rfl):QX X (.Call (.Name x p) (e::es) [] pos) (fDefL g fa):=by
 obtain⟨f,fd,ps,F,b,kp,hm⟩:=F.ex;refine⟨PE.weak (a4W F hr hg hm kp b .nil pass0 ha.to hdb he hpl) fun σ H Q h0=>tXe h0 fun P O L ρ w ρ' r e q=>?_⟩;unfold fDefL at e;obtain⟨⟨ws0,ρ1⟩,e1,e⟩:=obs e;dsimp only at e;split at e
 ·rename_i i ws;cases e0:ownAt ρ1 i with
  | none=>rw[e0] at e;cases e
  | some c=>
   rw[e0] at e;simp only[bind_some] at e;cases e2:drs ρ1 ws with
   | none=>rw[e2] at e;cases e
   | some ds=>
    rw[e2] at e;simp only[bind_some] at e;obtain⟨⟨w1,c'⟩,e3,e⟩:=obs e;dsimp only at e;split at e
    ·rename_i hc;refine⟨P,O,L,ρ,_,ρ1,r,e1,fun vs H1 r1 l1=>?_⟩;obtain⟨v0,us,rfl,h0,l1⟩:=l1;have h0:σ[i]? =some (some v0):=h0;obtain⟨w0,q0,ow⟩:=o9 e0;obtain⟨a,h1,ob⟩:=r1.obj q0 ow;rw[h0] at h1;cases h1;have ia:Ow ρ1 σ a:=⟨i,w0,c,q0,ow,h0⟩;have nh:¬Handed ρ1 σ ws a:=fun⟨j,w',d',m,q1,q2,q3⟩=>by
      have:=r1.inj i j w0 w' c d' a q0 ow h0 q1 q2 q3
      subst this;exact N5 hc.1 m
     have sub:∀b,((AvO O ρ1 σ b/\b≠a/\¬Handed ρ1 σ ws b)\/b=a)->AvO O ρ1 σ b:=fun b z=>z.elim (·.1) fun z=>by rw[z];exact .inr ia
     refine⟨fun b=>AvO O ρ1 σ b/\b≠a/\¬Handed ρ1 σ ws b,a,c,ds,us,w1,c',by rw[jZ],fun b z=>r1.there z.1,fun z=>z.2.1 rfl,w6 (w4 sub) rfl ob,
      W0 r1 sub (fun b z=>z.elim (·.2.2) fun z=>by rw[z];exact nh) e2 l1,e3,fun v H2 k2 o2 d2=>?_⟩
     have main:∃Hx,Same Hx H2/\Rep X P O L (setOwn ρ1 i c') σ Hx/\∀A':Av,((∀b,A' b->((AvO O ρ1 σ b/\b≠a/\¬Handed ρ1 σ ws b)\/b=a))\/lfW w1=true)->DenW X.K A' σ Hx H2 w1 v:=by
      cases w1 with
      | v d=>
       refine⟨H2,Same.refl _,r1.mut e0 h0 k2 (Q8 (fun _ _ e _=>e) hc.2 rfl o2),fun A' h=>?_⟩;rcases h with h|h
       ·exact p0 (w4 h) _ _ d2
       ·exact a3J (fun _ _ e _=>e) _ _ h d2
      | o d=>
       obtain⟨ar,ev,hn,obr⟩:=d2;obtain⟨u0,eu0,_⟩:=D9 ob;obtain⟨ur,eur,mur⟩:=D9 obr;have na:a≠ar:=fun z=>by rw[z,hn] at eu0;cases eu0
       refine⟨fun b=>if b=ar then none else H2 b,fun b o eb=>?_,r1.mut e0 h0 (fun b o eb nb=>?_) (Q8 (fun b o eb nm=>?_) hc.2 (if_neg na) o2),fun A' h=>⟨ar,ev,if_pos rfl,?_⟩⟩
       ·dsimp only at eb;split at eb
        ·cases eb
        ·exact eb
       ·have:b≠ar:=fun z=>by rw[z,hn] at eb;cases eb
        show(if b=ar then none else H2 b)=some o;rw[if_neg this];exact k2 b o eb nb
       ·have:b≠ar:=fun z=>by rw[z,eur] at eb;cases eb;exact nm mur
        show(if b=ar then none else H2 b)=some o;rw[if_neg this];exact eb
       ·rcases h with h|h
        ·exact w6 (w4 fun b z=>z.imp (h b) id) rfl obr
        ·exact Q8 (fun _ _ e _=>e) h rfl obr
      | r i=>exact absurd d2 (by simp[DenW])
      | l d=>exact d2.elim
     obtain⟨Hx,sx,rx,dx⟩:=main;split at e
     ·rename_i hl;cases e;exact q v Hx H2 rx sx (dx _ (.inr hl))
     ·obtain⟨ρ2,e4,e⟩:=oms e;cases e;obtain⟨r2,k3⟩:=G9 rx e4;refine q v Hx H2 r2 sx (dx _ (.inl fun b z=>?_));obtain⟨z1,z2⟩:=O9 rx k3 z
      by_cases hb:b=a
      ·exact .inr hb
      ·refine .inl ⟨z1.imp id fun z=>(N4 e0 b).mp z,hb,fun⟨j,w',d',m,q1,q2,q3⟩=>z2 ?_⟩;have hj:i≠j:=fun z=>by subst z;exact N5 hc.1 m
       obtain⟨w2,_,es,_⟩:=Q1 (d:=c') e0;exact⟨j,w',d',m,by rw[es,zU hj];exact q1,q2,q3⟩
    ·cases e
 ·cases e
end
def start0 (n:Nat) (ds:List D):Ev:=ds.map (fun d=>some (.v d))++List.replicate (n-ds.length) none
def runD (np n:Nat) (G:FS):List D->Option W:=fun ds=>if ds.length=np then match G (start0 n ds) with
 | some (.rt w _)=>some w
 | some (.nx _)=>some (.v .non)
 | _=>none else none
def runL (np n:Nat) (G:FS):D->List D->Option (W×D):=fun c ds=>if ds.length+1=np then match G (some (.l c)::start0 (n-1) ds) with
 | some (.rt w ρ)=>(ownAt ρ 0).map fun c'=>(w,c')
 | some (.nx ρ)=>(ownAt ρ 0).map fun c'=>(.v .non,c')
 | _=>none else none
section
variable {P:Program}{w:World}{K:PySem.W.Frag}{mg:Str->Option Value}{base:Heap}
theorem z7 {n i:Nat}{ds:List D}{w:W}(e:(start0 n ds)[i]? =some (some w)):∃d,ds[i]? =some d/\w= .v d:=by
 unfold start0 at e
 by_cases hi:i<ds.length
 ·rw[qG (by simpa using hi),qH] at e
  cases q:ds[i]? with
  | none=>rw[q] at e;cases e
  | some d0=>rw[q] at e;cases e;exact⟨d0,rfl,rfl⟩
 ·rw[qI (by simpa using hi),List.getElem?_replicate] at e
  split at e<;>cases e
theorem a1g {X:Cx}{ds:List D}{vs:List V}{n:Nat}{N:List Str}{H:Hp}{A:Av}(hH:X.H₀=H)(hN:N.length=n)(hA:∀b,A b->∃o,H b=some o)(l:DenL X.K A H ds vs):Rep X [] A [] (start0 n ds) (start N vs) H where
 same:=fun b o e _=>by rw[<-hH];exact e
 amb:=fun b z=>by rw[hH];exact⟨hA b z,fun i=>by simp⟩
 len:=by unfold start0 L2.start;simp[b9 l,hN]
 slot:=fun i w e=>by
  obtain⟨d,q,rfl⟩:=z7 e;obtain⟨v,h1,h2⟩:=z6 l q;refine⟨v,?_,p0 (w4 fun b z=>?_) _ _ h2⟩
  ·unfold L2.start;rw[qG (by have:=(zO.mp h1).1;simpa using this),qH,h1];rfl
  ·rcases z with z|⟨j,w,c,e1,e2,e3⟩
   ·exact z
   ·obtain⟨d',q',rfl⟩:=z7 e1;cases e2
 inj:=fun i j w w' d d' b e1 e2=>by obtain⟨_,_,rfl⟩:=z7 e1;cases e2
 new:=fun i d b e=>by obtain⟨_,_,z⟩:=z7 e;cases z
 lnt:=fun i d e=>by obtain⟨_,_,z⟩:=z7 e;cases z
 lnd:=fun i b e=>by simp at e
 prot:=fun p hp=>by cases hp
 gvl:=fun b e=>by simp at e
theorem a3A {X:Cx}{c:D}{a:Addr}{ds:List D}{vs:List V}{n:Nat}{N:List Str}{H:Hp}{A:Av}(hH:X.H₀=H)(hN:N.length=n+1)(hA:∀b,A b->∃o,H b=some o)(hn:¬A a)(ob:Obj X.K (fun b=>A b\/b=a) H a c)(l:DenL X.K (fun b=>A b\/b=a) H ds vs):
  Rep X [] A [(some 0,a)] (some (.l c)::start0 n ds) (start N (.ref a::vs)) H:=by
 have es:start N (.ref a::vs)=some (.ref a)::(vs.map some++List.replicate (n-vs.length) none):=by unfold L2.start;simp[hN]
 have own:∀{i:Nat} {w:W} {d:D},(some (.l c)::start0 n ds)[i]? =some (some w)->w.own=some d->i=0:=fun{i w d} e1 e2=>by
  cases i with
  | zero=>rfl
  | succ i=>rw[jK] at e1;obtain⟨_,_,rfl⟩:=z7 e1;cases e2
 have av:∀b,AvO A (some (.l c)::start0 n ds) (start N (.ref a::vs)) b->A b\/b=a:=fun b z=>z.imp id fun⟨i,w,d,e1,e2,e3⟩=>by
  have:=own e1 e2
  subst this;rw[es] at e3;cases e3;rfl
 refine⟨fun b o e _=>by rw[<-hH];exact e,fun b z=>⟨by rw[hH];exact hA b z,fun i m=>?_⟩,by rw[es];unfold start0;simp[b9 l],fun i w e=>?_,fun i j w w' d d' b e1 e2 _ e3 e4 _=>(own e1 e2).trans (own e3 e4).symm,fun i d b e=>?_,fun i d e=>?_,fun i b e=>?_,(fun p hp=>by cases hp),fun b _=>⟨0,a,zN.mpr rfl⟩⟩
 ·rw[zN] at m;cases m;exact hn z
 ·cases i with
  | zero=>cases e;exact⟨.ref a,by rw[es];rfl,a,rfl,w6 (w4 av) rfl ob⟩
  | succ i=>
   rw[jK] at e;obtain⟨d,q,rfl⟩:=z7 e;obtain⟨v,h1,h2⟩:=z6 l q;refine⟨v,?_,p0 (w4 av) _ _ h2⟩;rw[es,jK,qG (by have:=(zO.mp h1).1;simpa using this),qH,h1];rfl
 ·cases i with
  | zero=>cases e
  | succ i=>rw[jK] at e;obtain⟨_,_,z⟩:=z7 e;cases z
 ·have:=own e rfl
  subst this;exact⟨a,by rw[es];rfl,by simp⟩
 ·rw[zN] at e;cases e;exact⟨c,rfl,by rw[es];rfl⟩
theorem O7 {x:Str}{st:Stmt}{f:Addr}{fd:FuncData}{N ps:List Str}{k np n:Nat}{G:FS}(F:Fun K x x st f fd)(S:FnScope N ps (defScope st))(B:Binds K fd ps [])(hm:mg x=some (.ref f))(hp:ps.length=np)(hn:N.length=n)
  (body:∀(cdv:Value) (A:Around) (outer:List Env) (s:Shared) (H:Hp) (E:XK),Room k (A.deeper (envOfC x (defScope st) s.heap.objs.size f cdv))->
   QSs (cxOf CX0 P w K mg base N x (defScope st) f cdv A outer s H E).nox (defBody st) G):Fn P w K mg base x (k+1) (runD np n G):=by
 refine⟨f,fd,ps,F.ok S (fun vs H Q E h0=>?_) (fun cdv A outer s H vs Q E hr h0=>⟨_,(body cdv A outer s H E hr).to,?_⟩),B,F.kp,hm⟩
 ·obtain⟨A,ds,d,hA,l,e,q⟩:=h0;unfold runD at e;split at e
  ·rename_i hl;rw[<-b9 l,hl,hp]
  ·cases e
 ·obtain⟨A',ds,d,hA,l,e,q⟩:=h0;unfold runD at e;split at e
  ·rename_i hl;cases e1:G (start0 n ds) with
   | none=>rw[e1] at e;cases e
   | some r=>
    rw[e1] at e;refine⟨[],A',[],_,r,a1g rfl hn hA l,e1,?_⟩;have hz:∀{w:W} {v:V} {H':Hp},DenW K (A0 A' []) [] H H' w v->DenW K A' [] H H' w v:=fun{w v H'} h=>by
     have e0:A0 A' []=A':=funext fun b=>propext ⟨fun z=>z.elim id fun⟨i,z⟩=>by simp at z,.inl⟩
     rw[e0] at h;exact h
    cases r with
    | rt w ρ'=>cases e;exact fun v H' s' _ d1=>q v H' (fun b o eb=>s' b o eb fun i=>by simp) (hz d1)
    | nx ρ'=>cases e;exact fun σ' H' rp'=>q .non H' (fun b o eb=>rp'.same b o eb fun i=>by simp) K5
    | bk ρ'=>cases e
    | ct ρ'=>cases e
  ·cases e
theorem Z8 {x:Str}{st:Stmt}{f:Addr}{fd:FuncData}{N ps:List Str}{k np n:Nat}{G:FS}(F:Fun K x x st f fd)(S:FnScope N ps (defScope st))(B:Binds K fd ps [])(hm:mg x=some (.ref f))(hp:ps.length=np)(hn:N.length=n+1)
  (body:∀(cdv:Value) (A:Around) (outer:List Env) (s:Shared) (H:Hp) (E:XK),Room k (A.deeper (envOfC x (defScope st) s.heap.objs.size f cdv))->
   QSs (cxOf CX0 P w K mg base N x (defScope st) f cdv A outer s H E).nox (defBody st) G):FnL P w K mg base x (k+1) (runL np (n+1) G):=by
 refine⟨f,fd,ps,F.ok S (fun vs H Q E h0=>?_) (fun cdv A outer s H vs Q E hr h0=>⟨_,(body cdv A outer s H E hr).to,?_⟩),B,F.kp,hm⟩
 ·obtain⟨A,a,c,ds,us,w,c',e0,hA,hna,ob,l,e,q⟩:=h0;unfold runL at e;split at e
  ·rename_i hl;rw[e0,qB,<-b9 l,hl,hp]
  ·cases e
 ·obtain⟨A',a,c,ds,us,w,c',e0,hA,hna,ob,l,e,q⟩:=h0;subst e0;unfold runL at e;split at e
  ·rename_i hl;rw[Nat.add_sub_cancel] at e;cases e1:G (some (.l c)::start0 n ds) with
   | none=>rw[e1] at e;cases e
   | some r=>
    rw[e1] at e;refine⟨[],A',[(some 0,a)],_,r,a3A rfl hn hA hna ob l,e1,?_⟩;have ea:A0 A' [(some 0,a)]=fun b=>A' b\/b=a:=funext fun b=>propext (or_congr Iff.rfl ⟨fun⟨i,z⟩=>by rw[zN] at z;cases z;rfl,fun z=>⟨0,by rw[z];exact zN.mpr rfl⟩⟩)
    have nl:∀{b:Addr},b≠a->∀i,(i,b)∉[(some 0,a)]:=fun n i z=>by rw[zN] at z;cases z;exact n rfl
    cases r with
    | rt w0 ρ'=>
     refine fun v H' s' ln d1=>?_;obtain⟨c0,h1,h2⟩:=ln 0 a (zN.mpr rfl);simp only[h1,jS] at e;cases e;rw[ea] at h2 d1;exact q v H' (fun b o eb n=>s' b o eb (nl n)) h2 d1
    | nx ρ'=>
     refine fun σ' H' rp'=>?_;obtain⟨c0,h1,h2⟩:=rp'.lents 0 a (zN.mpr rfl);simp only[h1,jS] at e;cases e;rw[ea] at h2;exact q .non H' (fun b o eb n=>rp'.same b o eb (nl n)) h2 K5
    | bk ρ'=>cases e
    | ct ρ'=>cases e
  ·cases e
end
@[elab_as_elim] theorem us1 {α:Type} {C:List α->Prop} {us:List α} (h:us.length=1) (k:∀a,C [a]):C us:=by
 match us,h with
 | [a],_=>exact k a
@[elab_as_elim] theorem us2 {α:Type} {C:List α->Prop} {us:List α} (h:us.length=2) (k:∀a b,C [a,b]):C us:=by
 match us,h with
 | [a,b],_=>exact k a b
@[elab_as_elim] theorem us3 {α:Type} {C:List α->Prop} {us:List α} (h:us.length=3) (k:∀a b c,C [a,b,c]):C us:=by
 match us,h with
 | [a,b,c],_=>exact k a b c
section
variable {X:Cx}{a b e:Expr}{es:List Expr}{pos:Pos}{f g h:FX}{t u:FT}
theorem a4A {K:PySem.W.Frag}{A:Av}{H:Hp}{i:Bool}{v:V}(h:DenR K A H (.bl i) v):v= .bl i:=by
 have h:Den K A H (.bl i) v:=h;exact a1Y.mp h
theorem a2J {K:PySem.W.Frag}{A:Av}{H:Hp}{i:Str}{v:V}(h:DenR K A H (.str i) v):v= .str i:=by
 have h:Den K A H (.str i) v:=h;exact a1v.mp h
theorem a7M {K:PySem.W.Frag}{A:Av}{H:Hp}{v:V}(h:DenR K A H .non v):v= .non:=by
 have h:Den K A H .non v:=h;exact a8M.mp h
def tyD:D->String
 | .non=>"NoneType"
 | .bl _=>"bool"
 | .int _=>"int"
 | .str _=>"str"
 | .tup _=>"tuple"
 | .dT _ _=>"dict"
 | .dK _ _=>"dict"
 | _=>"list"
def isX:D->Bool
 | .exn _=>true
 | .fn _=>true
 | _=>false
def isiB (T:String) (d:D):Bool:=tyD d==T||(tyD d == "bool" && T == "int")
def Kit (K:PySem.W.Frag) (T:String):Prop:=∀d:D,PySem.W.kitOne K (.type (tyD d)) (.type T)=some (isiB T d)
theorem b1x {K:PySem.W.Frag}{T:String}(h:T="int"\/T="bool"\/T="str"\/T="tuple"\/T="list"):Kit K T:=by
 rcases h with h|h|h|h|h<;>subst h<;>intro d<;>cases d<;>rfl
theorem a7m {T:String}(hk:Kit X.K T):CallR X (.builtin "isinstance") (fun xs H Q=>∃x A d,xs=[x,.ty T]/\isX d=false/\DenR X.K A H d x/\Q (.bl (isiB T d)) H):=by
 intro pins s σ H xs us Q I r h;obtain⟨x,A,d,rfl,nx,hd,q⟩:=h;obtain⟨u,w,rfl,ru,rw'⟩:=vals2 r;cases(show w=Value.type T from rw');have e:=hk d;have fin:∀tk,EP X pins σ Q (.bool (isiB T d)) {s with toks:=tk}:=fun tk=>⟨.bl _,H,I.tok _,rfl,q⟩
 cases d with
 | non=>have hd:=a7M hd;subst hd;cases(show u=Value.none from ru);exact xH PySem.W.kitx_none I.kIn True.intro e (fun z=>nomatch z) fin
 | bl y=>have hd:=a4A hd;subst hd;cases(show u=Value.bool y from ru);exact xH PySem.W.kitx_bool I.kIn True.intro e (fun z=>nomatch z) fin
 | int i=>have hd:=k8 hd;subst hd;obtain⟨t,z⟩:=(show ∃t,u=Value.int i t from ru);cases z;exact xH PySem.W.kitx_int I.kIn True.intro e (fun z=>nomatch z) fin
 | str y=>have hd:=a2J hd;subst hd;obtain⟨t,z⟩:=(show ∃t,u=Value.str y t from ru);cases z;exact xH PySem.W.kitx_str I.kIn True.intro e (fun z=>nomatch z) fin
 | tup ys=>
  have hd:Den X.K A H (.tup ys) x:=hd;rw[Den] at hd;obtain⟨a,vs,rfl,hq,_⟩:=hd;cases(show u=Value.ref a from ru);obtain⟨its,_,p,_⟩:=I.tuple hq;obtain⟨o,h1,h2,_⟩:=p;exact xH PySem.W.kitx_tuple I.kIn ⟨o,h1,h2⟩ e (fun z=>nomatch z) fin
 | lst ys=>
  obtain⟨a,vs,rfl,hq,_⟩:=hd;cases(show u=Value.ref a from ru);obtain⟨its,_,p,_⟩:=I.list hq;obtain⟨o,n,h1,h2,_⟩:=p;exact xH PySem.W.kitx_list I.kIn ⟨o,h1,h2⟩ e (fun z=>nomatch z) fin
 | dK ks ys=>
  obtain⟨a,vs,rfl,hq,_⟩:=hd;cases(show u=Value.ref a from ru);obtain⟨_,_,vs,_,p⟩:=(show ObjOk X.prog X.w H s.heap a (.dK _) from I.hok a _ hq);obtain⟨o,es,h1,h2,_⟩:=p;exact xH PySem.W.kitx_dict I.kIn ⟨o,h1,h2.1⟩ e (fun z=>nomatch z) fin
 | dT ks ys=>
  obtain⟨a,vs,rfl,hq,_⟩:=hd;cases(show u=Value.ref a from ru);obtain⟨_,_,xs,_,o,es,h1,h2,_⟩:=(show ObjOk X.prog X.w H s.heap a (.dT _) from I.hok a _ hq);exact xH PySem.W.kitx_dict I.kIn ⟨o,h1,h2.1⟩ e (fun z=>nomatch z) fin
 | exn C=>cases nx
 | fn f=>cases nx
def oIsi (T:String) (d:D):Option W:=if isX d=true then none else some (.v (.bl (isiB T d)))
theorem b0K {T:String}{x:Str}{p p2:Pos}(hk:Kit X.K T)(hm:X.mg "isinstance"=none)(hmT:X.mg x=none)(ha:QX X e f)(hT:bootBuiltins x=some (.type T):=by rfl)(hb:bootBuiltins "isinstance"=some (.builtin "isinstance"):=by rfl)(hg:Gl X "isinstance":=by rfl)(hgT:Gl X x:=by rfl)(hn:x≠"__name__":=by decide)(hdb:(x==("__debug__":Str))=false:=by decide)
  (he:starEach [e,.Name x p2] X.env=(false,eval e X.env)::starEach [.Name x p2] X.env:=by rfl) (hpl:(backTo pos (starEach [.Name x p2] X.env)).any (·.1)=false:=by rfl) (hs:starEach [.Name x p2] X.env=(false,eval (.Name x p2) X.env)::starEach [] X.env:=by rfl):QX X (.Call (.Name "isinstance" p) [e,.Name x p2] [] pos) (fUn (oIsi T) f):=
 ⟨PE.weak (a2U (a7m hk) hg hm hb (a12 ha.to (a12 (a8s (v:=.ty T) hgT hmT hT rfl hn hdb) a6t hs) he) (by decide) (by decide) he hpl) fun σ H Q h=>
  a35 (r:=fun v H Q=>∃x A d,[v,V.ty T]=[x,.ty T]/\isX d=false/\DenR X.K A H d x/\Q (.bl (isiB T d)) H) (fun A x w v H Q _ e hx q=>by
   unfold oIsi at e;split at e
   ·cases e
   ·rename_i nx;cases e;exact⟨v,A,x,rfl,by simpa using nx,hx,q _ H (Same.refl H) D4⟩) σ H Q h⟩
def isD:D->D->Option Bool
 | .non,.non=>some true
 | d,.non=>some false
 | .bl a,.bl b=>some (a==b)
 | _,.bl _=>some false
 | _,_=>none
def rD2 (K:PySem.W.Frag) (t:D->D->Option Bool) (neg:Bool):R2:=fun v u H Q=>∃A x y k,t x y=some k/\DenR K A H x v/\DenR K A H y u/\Q (.bl (if neg then !k else k)) H
def oD2 (t:D->D->Option Bool) (neg:Bool) (x y:D):Option W:=(t x y).map fun k=>.v (.bl (if neg then !k else k))
theorem kD2 {t:D->D->Option Bool}{neg:Bool}:Pr2 X (oD2 t neg) (rD2 X.K t neg):=by
 intro A x y w v u H Q _ e hx hy q;unfold oD2 at e;cases e1:t x y with
 | none=>rw[e1] at e;cases e
 | some k=>rw[e1] at e;cases e;exact⟨A,x,y,k,e1,hx,hy,q _ H (Same.refl H) D4⟩
def flatE:D->D->Option Bool
 | .non,.non=>some true
 | .non,.int _=>some false
 | .int _,.non=>some false
 | .bl a,.bl b=>some (a==b)
 | .bl a,.int b=>some ((if a then 1 else 0)==b)
 | .int a,.bl b=>some (a==(if b then 1 else 0))
 | .int a,.int b=>some (a==b)
 | .str a,.str b=>some (a==b)
 | _,_=>none
def deqL (eq:D->D->Option Bool):List D->List D->Option Bool
 | [],[]=>some true
 | [],_::_=>some false
 | _::_,[]=>some false
 | x::xs,y::ys=>(eq x y).bind fun p=>(deqL eq xs ys).map fun q=>p&&q
def deq:Nat->D->D->Option Bool
 | 0,x,y=>flatE x y
 | n+1,.tup xs,.tup ys=>deqL (deq n) xs ys
 | n+1,.lst xs,.lst ys=>deqL (deq n) xs ys
 | _+1,x,y=>flatE x y
theorem a4C {K:PySem.W.Frag}{A:Av}{H:Hp}{x y:D}{v u:V}{k:Bool}(e:flatE x y=some k)(hx:DenR K A H x v)(hy:DenR K A H y u):Den K A H x v/\Den K A H y u:=by
 cases x<;>cases y<;>simp only[flatE] at e<;>cases e<;>exact⟨hx,hy⟩
theorem a0P {K:PySem.W.Frag}{O:Av}{H:Hp}{A:Around}{s:Shared}{x y:D}{v u:V}{vv uu:Value}{k:Bool}(e:flatE x y=some k)(hx:DenR K O H x v)(hy:DenR K O H y u)(rx:RelV v vv)(ry:RelV u uu):SeqAt.EqAt A s vv uu k/\SeqAt.RcAt A s vv uu k/\SeqAt.RcNeAt A s vv uu (!k):=by
 obtain⟨hx,hy⟩:=a4C e hx hy;cases x<;>cases y<;>simp only[flatE] at e<;>cases e<;>rw[Den] at hx<;>rw[Den] at hy<;>subst hx<;>subst hy
 ·cases(show vv=Value.none from rx);cases(show uu=Value.none from ry);exact⟨.same _,.none_none,.none_none⟩
 ·cases(show vv=Value.none from rx);obtain⟨t,z⟩:=(show ∃t,uu=Value.int _ t from ry);cases z;exact⟨.none_int _ _,.none_int _ _,.none_int _ _⟩
 ·cases(show vv=Value.bool _ from rx);cases(show uu=Value.bool _ from ry);exact⟨.bool_bool _ _,.bool_bool _ _,.bool_bool _ _⟩
 ·cases(show vv=Value.bool _ from rx);obtain⟨t,z⟩:=(show ∃t,uu=Value.int _ t from ry);cases z;exact⟨.bool_int _ _ _,.bool_int _ _ _,.bool_int _ _ _⟩
 ·cases(show uu=Value.none from ry);obtain⟨t,z⟩:=(show ∃t,vv=Value.int _ t from rx);cases z;exact⟨.int_none _ _,.int_none _ _,.int_none _ _⟩
 ·cases(show uu=Value.bool _ from ry);obtain⟨t,z⟩:=(show ∃t,vv=Value.int _ t from rx);cases z;exact⟨.int_bool _ _ _,.int_bool _ _ _,.int_bool _ _ _⟩
 ·obtain⟨t,z⟩:=(show ∃t,vv=Value.int _ t from rx);cases z;obtain⟨t,z⟩:=(show ∃t,uu=Value.int _ t from ry);cases z;exact⟨.int_int _ _ _ _,.int_int _ _ _ _,.int_int _ _ _ _⟩
 ·obtain⟨t,z⟩:=(show ∃t,vv=Value.str _ t from rx);cases z;obtain⟨t,z⟩:=(show ∃t,uu=Value.str _ t from ry);cases z;exact⟨.str_str _ _ _ _,.str_str _ _ _ _,.str_str _ _ _ _⟩
theorem a0M {K:PySem.W.Frag}{O:Av}{H:Hp}{x y:D}{v:V}{k:Bool}(e:flatE x y=some k)(hx:DenR K O H x v)(hy:DenR K O H y v):k=true:=by
 obtain⟨hx,hy⟩:=a4C e hx hy;cases x<;>cases y<;>simp only[flatE] at e<;>cases e<;>rw[Den] at hx<;>rw[Den] at hy
 all_goals first
  | rfl
  | (rw[hx] at hy;cases hy;simp)
  | (rw[hx] at hy;cases hy)
theorem a1D {K:PySem.W.Frag}{O:Av}{H:Hp}{A:Around}{s:Shared}{eq:D->D->Option Bool}(hq:∀x y v u vv uu k,eq x y=some k->Den K O H x v->Den K O H y u->RelV v vv->RelV u uu->SeqAt.EqAt A s vv uu k):
  ∀{xs ys:List D} {vs us:List V} {its jts:List Value} {k:Bool},deqL eq xs ys=some k->DenL K O H xs vs->DenL K O H ys us->Vals vs its->Vals us jts->
   ∃e:Nat->Bool,(∀j (h1:j<its.toArray.size) (h2:j<jts.toArray.size),SeqAt.EqAt A s its.toArray[j] jts.toArray[j] (e j))/\k=((List.range (min its.toArray.size jts.toArray.size)).all e&&its.toArray.size==jts.toArray.size)
 | [],[],vs,us,its,jts,k,e,hx,hy,rx,ry=>by
  rw[DenL] at hx hy;subst hx;subst hy;cases rx;cases ry;cases e;exact⟨fun _=>true,fun j h1 h2=>absurd h1 (by simp),rfl⟩
 | [],y::ys,vs,us,its,jts,k,e,hx,hy,rx,ry=>by
  rw[DenL] at hx;rw[DenL] at hy;subst hx;obtain⟨u,r,rfl,_,_⟩:=hy;cases rx;cases ry;cases e;exact⟨fun _=>true,fun j h1 h2=>absurd h1 (by simp),by simp⟩
 | x::xs,[],vs,us,its,jts,k,e,hx,hy,rx,ry=>by
  rw[DenL] at hx;rw[DenL] at hy;subst hy;obtain⟨u,r,rfl,_,_⟩:=hx;cases rx;cases ry;cases e;exact⟨fun _=>true,fun j h1 h2=>absurd h2 (by simp),by simp⟩
 | x::xs,y::ys,vs,us,its,jts,k,e,hx,hy,rx,ry=>by
  rw[DenL] at hx hy;obtain⟨v,r,rfl,dx,lx⟩:=hx;obtain⟨u,q,rfl,dy,ly⟩:=hy;cases rx with
  | cons r1 rs1=>
   cases ry with
   | cons r2 rs2=>
    rw[deqL] at e;cases e1:eq x y with
    | none=>rw[e1] at e;cases e
    | some p=>
     cases e2:deqL eq xs ys with
     | none=>rw[e1,e2] at e;cases e
     | some q2=>
      rw[e1,e2] at e;cases e;obtain⟨w,h1,h2⟩:=a1D hq e2 lx ly rs1 rs2;refine⟨fun j=>if j=0 then p else w (j-1),fun j g1 g2=>?_,?_⟩
      ·cases j with
       | zero=>simpa using hq x y v u _ _ p e1 dx dy r1 r2
       | succ j=>
        have z:=h1 j (by simpa using g1) (by simpa using g2)
        simp only[List.getElem_toArray] at z ⊢;simpa using z
      ·rw[h2];simp only[zT,qB];rw[show min (_+1) (_+1)=min _ _+1 from Nat.succ_min_succ _ _,List.range_succ_eq_map,all_cons,List.all_map];simp[Function.comp_def,Bool.and_assoc]
theorem X0 {K:PySem.W.Frag}{O:Av}{H:Hp}{eq:D->D->Option Bool}(hq:∀x y v k,eq x y=some k->Den K O H x v->Den K O H y v->k=true):
  ∀{xs ys:List D} {vs:List V} {k:Bool},deqL eq xs ys=some k->DenL K O H xs vs->DenL K O H ys vs->k=true
 | [],[],vs,k,e,hx,hy=>by cases e;rfl
 | [],y::ys,vs,k,e,hx,hy=>by have:=b9 hx;have:=b9 hy;simp at *;walk_at "o"
 | x::xs,[],vs,k,e,hx,hy=>by have:=b9 hx;have:=b9 hy;simp at *;walk_at "o"
 | x::xs,y::ys,vs,k,e,hx,hy=>by
  rw[DenL] at hx hy;obtain⟨v,r,rfl,dx,lx⟩:=hx;obtain⟨u,q,e0,dy,ly⟩:=hy;cases e0;rw[deqL] at e;cases e1:eq x y with
  | none=>rw[e1] at e;cases e
  | some p=>
   cases e2:deqL eq xs ys with
   | none=>rw[e1,e2] at e;cases e
   | some q2=>
    rw[e1,e2] at e;cases e;rw[hq x y v p e1 dx dy,X0 hq e2 lx ly];rfl
theorem a0K {n:Nat}{x y:D}{k:Bool}(e:deq (n+1) x y=some k):flatE x y=some k\/(∃xs ys,x= .tup xs/\y= .tup ys/\deqL (deq n) xs ys=some k)\/∃xs ys,x= .lst xs/\y= .lst ys/\deqL (deq n) xs ys=some k:=by
 cases x<;>cases y<;>first
  | exact .inl e
  | exact .inr (.inl ⟨_,_,rfl,rfl,e⟩)
  | exact .inr (.inr ⟨_,_,rfl,rfl,e⟩)
theorem B6 {K:PySem.W.Frag}{O:Av}{H:Hp}{xs:List D}{v:V}(h:DenR K O H (.tup xs) v):∃a vs,v= .ref a/\SqT K H a vs/\DenL K O H xs vs:=by
 have h:Den K O H (.tup xs) v:=h;rw[Den] at h;exact h
theorem a25 {O:Av}{pins:List (Addr×PySem.Obj)}{σ:L2.St}{H:Hp}{s:Shared}(I:Inv X pins σ H s):∀(n:Nat) (x y:D) (v:V) (k:Bool),deq n x y=some k->DenR X.K O H x v->DenR X.K O H y v->k=true
 | 0,x,y,v,k,e,hx,hy=>a0M e hx hy
 | n+1,x,y,v,k,e,hx,hy=>by
  have hs:∀x y v k,deq n x y=some k->Den X.K O H x v->Den X.K O H y v->k=true:=fun x y v k e hx hy=>a25 I n x y v k e (D1 hx) (D1 hy);rcases a0K e with e|⟨xs,ys,rfl,rfl,e⟩|⟨xs,ys,rfl,rfl,e⟩
  ·exact a0M e hx hy
  ·obtain⟨a,vs,rfl,q1,l1⟩:=B6 hx;obtain⟨b,us,z,q2,l2⟩:=B6 hy;cases z;rw[I.tuple_inj q2 q1] at l2;exact X0 hs e l1 l2
  ·obtain⟨a,vs,rfl,q1,l1⟩:=hx;obtain⟨b,us,z,q2,l2⟩:=hy;cases z;rw[I.list_inj q2 q1] at l2;exact X0 hs e l1 l2
theorem a1T {O:Av}{pins:List (Addr×PySem.Obj)}{σ:L2.St}{H:Hp}{s:Shared}(I:Inv X pins σ H s):∀(n:Nat) (A:Around),A.units+n+1<cLine->∀(x y:D) (v u:V) (vv uu:Value) (k:Bool),deq n x y=some k->DenR X.K O H x v->DenR X.K O H y u->RelV v vv->RelV u uu->
  SeqAt.EqAt A s vv uu k/\SeqAt.RcAt A s vv uu k/\SeqAt.RcNeAt A s vv uu (!k)
 | 0,A,hA,x,y,v,u,vv,uu,k,e,hx,hy,rx,ry=>a0P e hx hy rx ry
 | n+1,A,hA,x,y,v,u,vv,uu,k,e,hx,hy,rx,ry=>by
  have hin:∀x y v u vv uu k,deq n x y=some k->Den X.K O H x v->Den X.K O H y u->RelV v vv->RelV u uu->SeqAt.EqAt A.in1 s vv uu k:=fun x y v u vv uu k e hx hy rx ry=>(a1T I n A.in1 (by show A.units+1+n+1<_;walk_at "o") x y v u vv uu k e (D1 hx) (D1 hy) rx ry).1
  have hu:A.units<cLine:=by walk_at "o"
  have done:∀(p q:Addr),v= .ref p->u= .ref q->SeqAt.RcAt A s (.ref p) (.ref q) k->SeqAt.RcNeAt A s (.ref p) (.ref q) (!k)->SeqAt.EqAt A s vv uu k/\SeqAt.RcAt A s vv uu k/\SeqAt.RcNeAt A s vv uu (!k):=fun p q ev eu rc rn=>by
   subst ev;subst eu;cases(show vv=Value.ref p from rx);cases(show uu=Value.ref q from ry);refine⟨?_,rc,rn⟩
   by_cases pq:p=q
   ·subst pq;rw[a25 I (n+1) x y _ k e hx hy];exact .same _
   ·exact .of_refs pq rc
  rcases a0K e with e|⟨xs,ys,rfl,rfl,e⟩|⟨xs,ys,rfl,rfl,e⟩
  ·exact a0P e hx hy rx ry
  ·obtain⟨p,vs,ev,q1,l1⟩:=B6 hx;obtain⟨q,us,eu,q2,l2⟩:=B6 hy;obtain⟨its,r1,t1,_⟩:=I.tuple q1;obtain⟨jts,r2,t2,_⟩:=I.tuple q2;obtain⟨w,h1,h2⟩:=a1D hin e l1 l2 r1 r2;refine done p q ev eu ?_ ?_
   ·rw[h2];exact SeqAt.RcAt.tuples t1 t2 hu h1
   ·rw[h2];exact SeqAt.RcNeAt.tuples t1 t2 hu h1
  ·obtain⟨p,vs,ev,q1,l1⟩:=id hx;obtain⟨q,us,eu,q2,l2⟩:=id hy;obtain⟨its,r1,t1,_⟩:=I.list q1;obtain⟨jts,r2,t2,_⟩:=I.list q2;obtain⟨w,h1,h2⟩:=a1D hin e l1 l2 r1 r2
   by_cases sz:its.toArray.size=jts.toArray.size
   ·have r1:=SeqAt.RcAt.lists t1.isList t2.isList sz hu h1;have r2:=SeqAt.RcNeAt.lists t1.isList t2.isList sz hu h1;rw[sz,Nat.min_self,show(jts.toArray.size==jts.toArray.size)=true by simp,Bool.and_true] at h2
    rw[sz,<-h2] at r1 r2;exact done p q ev eu r1 r2
   ·have r1:=SeqAt.RcAt.lists_lengths (A:=A) t1.isList t2.isList (by simpa using sz) hu
    have r2:=SeqAt.RcNeAt.lists_lengths (A:=A) t1.isList t2.isList (by simpa using sz) hu
    rw[show(its.toArray.size==jts.toArray.size)=false by simpa using sz,Bool.and_false] at h2
    subst h2;exact done p q ev eu r1 r2
theorem a7q {k:Nat}(hr:Room k X.A):OpR X (compareOp .Eq) (rD2 X.K (deq 20) false):=by
 intro pins s σ H x y v u Q I rx ry ⟨A,dx,dy,k,e,hx,hy,q⟩
 have:=(a1T I 20 X.A (by have:=hr.units;walk_at "o") dx dy x y v u k e hx hy rx ry).2.1
 exact this X.prog X.w X.xe _ ⟨.bl k,H,I,rfl,q⟩
theorem b1s {k:Nat}(hr:Room k X.A):OpR X (compareOp .NotEq) (rD2 X.K (deq 20) true):=by
 intro pins s σ H x y v u Q I rx ry ⟨A,dx,dy,k,e,hx,hy,q⟩
 have:=(a1T I 20 X.A (by have:=hr.units;walk_at "o") dx dy x y v u k e hx hy rx ry).2.2
 exact this X.prog X.w X.xe _ ⟨.bl (!k),H,I,rfl,q⟩
theorem qx_eq {k:Nat}(hr:Room k X.A)(ha:QX X a f)(hb:QX X b g):QX X (.Compare a [.Eq] [b] pos) (fBin (oD2 (deq 20) false) f g):=a6U (a7q hr) kD2 ha hb
theorem M8 {k:Nat}(hr:Room k X.A)(ha:QX X a f)(hb:QX X b g):QT X (.Compare a [.Eq] [b] pos) (fTest (fBin (oD2 (deq 20) false) f g)):=P9 (a7q hr) kD2 ha hb
theorem a6J {k:Nat}(hr:Room k X.A)(ha:QX X a f)(hb:QX X b g):QT X (.Compare a [.NotEq] [b] pos) (fTest (fBin (oD2 (deq 20) true) f g)):=P9 (b1s hr) kD2 ha hb
end
section
variable {prog:Program}{w:World}{A:Around}{R:Result->Shared->Prop}{s:Shared}
abbrev Fa:Value->Shared->Prop:=fun _ _=>False
theorem a5l {elt tg iter:Expr}{ifs:List Expr}{scope:Scope}{pos:Pos}{it acc:Value}{env:Env}(I:Nat->Shared->Prop)
  (turn:∀n s,I n s->wpAny (model prog w) A (pyNext it) (fun r s1=>match r with
   | none=>R (.ok .next) s1
   | some v=>wpAny (model prog w) A (letOwnedTupleGo tg it v) (fun _ s2=>wpAny (model prog w) A (assign tg env v) (fun _ s3=>
     wpAny (model prog w) A (forIn ifs true fun c r=>if r=true then do let ok <-isTrue c env (eval c env);pure (ForInStep.yield ok) else pure (ForInStep.yield r)) (fun ok s4=>
      if ok=true then wpAny (model prog w) A (eval elt env) (fun x s5=>wpAny (model prog w) A (call (.builtin "list.append") [acc,x]) (fun _ s6=>∃m,m<n/\I m s6) Fa s5) Fa s4
      else ∃m,m<n/\I m s4) Fa s3) Fa s2) Fa s1) Fa s)
  (n:Nat) (h:I n s):codeAny (model prog w) A (.compLoop (.ListComp elt [⟨tg,iter,ifs,0⟩] scope pos) 0 it acc env) R s:=by
 refine codeAny_loop rfl I (fun n s hI=>?_) n h;show wpAny _ A ((compTurn (.ListComp elt [⟨tg,iter,ifs,0⟩] scope pos) 0 it acc env).onRaise (fun x=>do noteFrame x env;theTreesLotGoes x)) _ _ s
 refine wpAny_noted ?_;rw[compTurn_list];refine zA (wpAny_standAt (zA (zZ (turn n s hI) (fun r s1 h1=>?_) fun _ _ z=>z.elim)));cases r with
 | none=>exact zC h1
 | some v=>
  refine zA (zZ h1 (fun _ s2 h2=>zA (zZ h2 (fun _ s3 h3=>zA (zZ h3 (fun ok s4 h4=>?_) fun _ _ z=>z.elim)) fun _ _ z=>z.elim)) fun _ _ z=>z.elim);cases ok with
  | true=>
   rw[if_pos rfl] at h4 ⊢;exact zA (zA (zZ h4 (fun x s5 h5=>zA (zZ h5 (fun _ s6 h6=>zC (zC ⟨rfl,h6⟩)) fun _ _ z=>z.elim)) fun _ _ z=>z.elim))
  | false=>
   rw[if_neg qD] at h4 ⊢;exact zA (zC (zC ⟨rfl,h4⟩))
end
def blk (X:Cx) (scope:Scope) (cl:List (Str×Addr)) (s2:Shared) (H2:Hp) (fp:List Addr) (C:Addr) (N:List Str):Cx where
 prog:=X.prog
 w:=X.w
 K:=X.K
 mg:=X.mg
 base:=X.base
 A:=X.A
 N:=N
 s₀:=s2
 H₀:=H2
 env:=compEnvC scope cl C X.env
 outer:=X.stack
 stack:=X.stack
 ex:=fp
 fn:=fun _=>false
 calm:=X.calm
 pn:=[]
 xe:=fun _ _=>False
abbrev accN:Str:=" acc"
inductive Cap (X:Cx) (sc:Scope) (cl:List (Str×Addr)):List Str->List (Option Nat)->Prop where
 | nil:Cap X sc cl [] []
 | own {n:Str} {N:List Str} {js:List (Option Nat)} (t:Cap X sc cl N js):Cap X sc cl (n::N) (none::js)
 | cap {n:Str} {N:List Str} {j:Nat} {js:List (Option Nat)} (hj:X.N[j]? =some n) (hk:X.env.scope.names.lookup n=some .cell) (hl:sc.names.lookup n=some .cell) (hc:cl.lookup n=X.env.cells.lookup n) (t:Cap X sc cl N js):Cap X sc cl (n::N) (some j::js)
theorem Cap.len {X:Cx}{sc:Scope}{cl:List (Str×Addr)}{N:List Str}{js:List (Option Nat)}(h:Cap X sc cl N js):js.length=N.length:=by
 induction h with
 | nil=>rfl
 | own t ih=>simp[ih]
 | cap _ _ _ _ t ih=>simp[ih]
theorem Cap.get {X:Cx}{sc:Scope}{cl:List (Str×Addr)}{N:List Str}{js:List (Option Nat)}(h:Cap X sc cl N js):∀{i j:Nat} {n:Str},N[i]? =some n->js[i]? =some (some j)->X.N[j]? =some n/\X.env.scope.names.lookup n=some .cell/\sc.names.lookup n=some .cell/\cl.lookup n=X.env.cells.lookup n:=by
 induction h with
 | nil=>intro i j n e1 _;simp at e1
 | own t ih=>
  intro i j n e1 e2;cases i with
  | zero=>simp at e2
  | succ i=>exact ih (by simpa using e1) (by simpa using e2)
 | cap hj hk hl hc t ih=>
  intro i j n e1 e2;cases i with
  | zero=>simp at e1 e2;subst e1;subst e2;exact⟨hj,hk,hl,hc⟩
  | succ i=>exact ih (by simpa using e1) (by simpa using e2)
def capS (js:List (Option Nat)) (σ:L2.St):L2.St:=js.map fun o=>o.bind fun j=>(σ[j]?).join
structure Blk (X:Cx) (scope:Scope) (cl:List (Str×Addr)) (N:List Str) (js:List (Option Nat)):Prop where
 clos:closureFor scope X.env=pure cl
 kind:scope.kind= .function
 cell:∀y∈scope.names,y.2≠.cell
 nms:∀y∈scope.names,y.2= .local->scope.names.lookup y.1=some .local
 cap:Cap X (relabel scope X.env) cl N js
 sub:∀y c,cl.lookup y=some c->X.env.cells.lookup y=some c
 has:∀y,((relabel scope X.env).names.lookup y=some .cell\/(relabel scope X.env).names.lookup y=some .free)->∃c,cl.lookup y=some c
 acc:∀k,(relabel scope X.env).names.lookup accN≠some k
section
variable {X:Cx}{pins:List (Addr×PySem.Obj)}{σ:L2.St}{H2:Hp}{s2 s4:Shared}{scope:Scope}{cl:List (Str×Addr)}{N:List Str}{js:List (Option Nat)}{fp:List Addr}{Dd C:Addr}{m:Str->Option Value}
theorem b1h (I:Inv X pins σ H2 s2)(b:Blk X scope cl N js)(f2:∀y∈fp,FpOk X pins H2 y)(fl:∀y∈fp,y<s2.heap.objs.size)(hC:s2.heap.objs.size<=C):(blk X scope cl s2 H2 fp C (N++[accN])).Ok where
 mod:=I.ok.mod
 kind:=b.kind
 glob:=I.ok.glob
 blt:=I.ok.blt
 above:=hC
 inj:=fun x y c e1 e2=>I.ok.inj x y c (b.sub x c e1) (b.sub y c e2)
 has:=fun x h=>b.has x h
 cab:=fun x c h=>nomatch h
 hd:=I.ok.hd
 frames:=I.ok.frames
 stk:=.inl rfl
 exf:=fun y hy=>⟨zV (zJ (fl y hy) hC),fun x c e=>(f2 y hy).2.2.2.2.1 x c (b.sub x c e)⟩
 bs:=I.bs
 bsz:=zQ I.ok.bsz I.sz
 noex:=fun y o e hy=>by
  rcases(f2 y hy).2.2.2.1 with z|z
  ·exact I.ok.noex y o e z
  ·exact absurd (zJ (zW e) (zQ I.ok.bsz z)) (jU _)
 exfs:=fun y hy z=>(zS.mp (I.stkSub y z)).elim (f2 y hy).2.1 (f2 y hy).2.2.1
 funs:=I.stack
 frf:=I.stkFree
theorem a8Q {o0:HO}(I:Inv X pins σ H2 s2)(b:Blk X scope cl N js)(f2:∀y∈fp,FpOk X pins H2 y)(fl:∀y∈fp,y<s2.heap.objs.size)(hC:s2.heap.objs.size<=C)(hD:s2.heap.objs.size<=Dd)(ne:Dd≠C)
  (ho:s4.os=s2.os) (hg:AllBare s4.gens) (kp:∀y o,s2.heap.get? y=some o->s4.heap.get? y=some o) (hn:s4.heap.Ns C m) (hk:HOk X.prog X.w (upd H2 Dd o0) s4.heap):
  Inv (blk X scope cl s2 H2 fp C (N++[accN])) [] (capS js σ++[some (.ref Dd)]) (upd H2 Dd o0) s4:=by
 have nD:∀y o,s2.heap.get? y=some o->y≠Dd:=fun y o e=>zV (zJ (zW e) hD);have nH:∀y u,H2 y=some u->y≠Dd:=fun y u e=>zV (zJ (I.hok.lt e) hD);have cD:∀x c,X.env.cells.lookup x=some c->c≠Dd:=fun x c e=>by
  obtain⟨v,o,e1,_⟩:=I.cell x c e;exact nD c o e1
 refine⟨b1h I b f2 fl hC,ho,hg,⟨fun y o e _ _ _=>kp y o e,fun y o e _ _ _=>⟨o.slots,kp y o e⟩,fun y o e n _=>?_,fun y o e _=>⟨o,kp y o e⟩,fun y xs e=>?_,fun y o u e=>?_,fun y ps e=>?_⟩,⟨m,hn,fun i x v e1 e2 e3=>?_⟩,fun x c e=>?_,?_,fun x c e=>?_,fun p hp=>absurd (show p∈([]:List (Addr×PySem.Obj)) from hp) (by simp),hk,?_⟩
 ·rw[g9 (nD y o e)];exact n
 ·rw[g9 (nH _ _ e)];exact e
 ·rw[g9 (nH _ _ e)];exact e
 ·have e':H2 y=some (.tbl ps):=e;exact⟨#[],by rw[g9 (nH _ _ e'),e'];simp⟩
 ·have hl:js.length=N.length:=b.cap.len
  by_cases hi:i<N.length
  ·have e1':N[i]? =some x:=by
    have z:(N++[accN])[i]? =some x:=e1;rw[qG hi] at z;exact z
   rw[qG (by unfold capS;simp;walk_at "o")] at e2
   unfold capS at e2;rw[qH] at e2;cases ej:js[i]? with
   | none=>rw[ej] at e2;cases e2
   | some o=>
    rw[ej] at e2;cases o with
    | none=>cases e2
    | some j=>
     obtain⟨c1,c2,c3,c4⟩:=b.cap.get e1' ej;simp only[jS,bind_some] at e2;have e2':σ[j]? =some (some v):=by
      cases q:σ[j]? with
      | none=>rw[q] at e2;cases e2
      | some o=>rw[q] at e2;simp at e2;rw[e2]
     obtain⟨m2,_,hl2⟩:=I.loc;obtain⟨u,r,lk⟩:=hl2 j x v c1 e2' (.inr (.inl c2));refine⟨u,r,.inr ⟨.inl c3,?_⟩⟩;rcases lk with ⟨k,_⟩|⟨_,c,e,z⟩
     ·have k':X.env.scope.names.lookup x=some .local:=k;rw[c2] at k';cases k'
     ·exact⟨c,c4.trans e,z.keeps kp⟩
  ·have hx:x=accN:=by
    have z:(N++[accN])[i]? =some x:=e1;rw[qI (by walk_at "o")] at z
    cases q:i-N.length with
    | zero=>rw[q] at z;simp at z;exact z.symm
    | succ k=>rw[q] at z;simp at z
   subst hx;rcases e3 with z|z|z
   ·exact absurd z (b.acc _)
   ·exact absurd z (b.acc _)
   ·exact absurd z (b.acc _)
 ·obtain⟨v,z⟩:=I.cell x c (b.sub x c e);exact⟨v,z.keeps kp⟩
 ·show upd H2 Dd o0 C=none;rw[g9 (jE ne)];exact I.hok.fresh hC
 ·rw[g9 (cD x c (b.sub x c e))];exact I.freeC x c (b.sub x c e)
 ·show(capS js σ++[some (V.ref Dd)]).length=(N++[accN]).length;unfold capS;simp[b.cap.len]
end
def AllC (X:Cx):List (Str×Addr)->Prop
 | []=>True
 | p::r=>X.env.cells.lookup p.1=some p.2/\AllC X r
theorem AllC.sub {X:Cx}:∀{cl:List (Str×Addr)},AllC X cl->∀y c,cl.lookup y=some c->X.env.cells.lookup y=some c
 | [],_,y,c,e=>by simp at e
 | (n,c0)::r,h,y,c,e=>by
  rw[List.lookup_cons] at e;cases q:y==n with
  | true=>
   rw[q] at e;cases e
   have:y=n:=by simpa using q
   rw[this];exact h.1
  | false=>rw[q] at e;exact AllC.sub h.2 y c e
theorem Z4 {α:Type}:∀{l:List (Str×α)} {y:Str} {k:α},l.lookup y=some k->(y,k)∈l
 | [],y,k,e=>by simp at e
 | (n,a)::r,y,k,e=>by
  rw[List.lookup_cons] at e;cases q:y==n with
  | true=>
   rw[q] at e;cases e
   have:y=n:=by simpa using q
   rw[this];exact zM
  | false=>rw[q] at e;exact zL _ (Z4 e)
section
variable {X:Cx}{scope:Scope}{cl:List (Str×Addr)}{N:List Str}{js:List (Option Nat)}
theorem t5 (cap:Cap X (relabel scope X.env) cl N js)(clos:closureFor scope X.env=pure cl)(sub:AllC X cl)(has:(relabel scope X.env).names.all (fun p=>(p.2 != .cell&&p.2 != .free)||(cl.lookup p.1).isSome)=true)(kind:scope.kind= .function:=by rfl)(cell:scope.names.all (fun y=>y.2 != .cell)=true:=by decide +kernel)
  (nms:scope.names.all (fun y=>y.2 != .local||scope.names.lookup y.1==some .local)=true:=by decide +kernel) (acc:(relabel scope X.env).names.lookup accN=none:=by rfl):Blk X scope cl N js where
 clos:=clos
 kind:=kind
 cell:=fun y hy=>by have:=all_eq_true.mp cell y hy;simpa using this
 nms:=fun y hy hl=>by have:=all_eq_true.mp nms y hy;rw[hl] at this;simpa using this
 cap:=cap
 sub:=sub.sub
 has:=fun y h=>by
  have key:∀k,(relabel scope X.env).names.lookup y=some k->k= .cell\/k= .free->∃c,cl.lookup y=some c:=fun k e hk=>by
   have:=all_eq_true.mp has (y,k) (Z4 e)
   rcases hk with rfl|rfl<;>simpa [isSome_iff_exists] using this
  rcases h with h|h
  ·exact key _ h (.inl rfl)
  ·exact key _ h (.inr rfl)
 acc:=fun k e=>by rw[acc] at e;cases e
end
def capW (k:Bool):W->Option W
 | .v d=>some (.v d)
 | .o d=>some (if k then .l d else .v d)
 | .l d=>some (if k then .l d else .v d)
 | .r _=>none
def capE (lj:Option Nat) (js:List (Option Nat)) (ρ:Ev):Ev:=js.map fun o=>o.bind fun j=>((ρ[j]?).join).bind (capW (lj==some j))
def Capd (ρ:Ev) (σ:L2.St) (js:List (Option Nat)) (b:Addr):Prop:=∃(j:Nat) (w:W) (d:D),some j∈js/\ρ[j]? =some (some w)/\w.own=some d/\σ[j]? =some (some (V.ref b))
def lentL (li:Option (Nat×Nat)) (σ:L2.St):List (Option Nat×Addr):=match li with
 | some (i,j)=>match σ[j]? with
  | some (some (.ref a))=>[(some i,a)]
  | _=>[]
 | none=>[]
structure LiOk (li:Option (Nat×Nat)) (js:List (Option Nat)) (ρ:Ev):Prop where
 own:∀i j,li=some (i,j)->∃c,ownAt ρ j=some c
 at':∀i j,li=some (i,j)->js[i]? =some (some j)
 one:∀i j k,li=some (i,j)->js[k]? =some (some j)->k=i
section
variable {X:Cx}{P:List (D×V)}{O:Av}{L:List (Option Nat×Addr)}{ρ:Ev}{σ:L2.St}{H2:Hp}{s2:Shared}{scope:Scope}{cl:List (Str×Addr)}{N:List Str}{js:List (Option Nat)}{fp:List Addr}{Dd C:Addr}{li:Option (Nat×Nat)}
theorem R9 {lj:Option Nat}{i:Nat}{w:W}(e:(capE lj js ρ)[i]? =some (some w)):∃j w0,js[i]? =some (some j)/\ρ[j]? =some (some w0)/\capW (lj==some j) w0=some w:=by
 unfold capE at e;rw[qH] at e;cases ej:js[i]? with
 | none=>rw[ej] at e;cases e
 | some o=>
  rw[ej] at e;cases o with
  | none=>cases e
  | some j=>
   simp only[jS,bind_some] at e;cases q:ρ[j]? with
   | none=>rw[q] at e;cases e
   | some o=>
    rw[q] at e;cases o with
    | none=>cases e
    | some w0=>exact⟨j,w0,rfl,q,jB e⟩
theorem S1 {i j:Nat}{v:V}(ej:js[i]? =some (some j))(e:σ[j]? =some (some v)):(capS js σ)[i]? =some (some v):=by
 unfold capS;rw[qH,ej];simp only[jS,bind_some];rw[e];rfl
theorem Z2 {b:Addr}:(none,b)∉lentL li σ:=by
 unfold lentL
 split
 ·split
  ·simp
  ·simp
 ·simp
theorem F9 {i:Nat}{b:Addr}:(some i,b)∈lentL li σ↔∃j,li=some (i,j)/\σ[j]? =some (some (.ref b)):=by
 unfold lentL;cases li with
 | none=>simp
 | some p=>
  obtain⟨i',j'⟩:=p;dsimp only;constructor
  ·intro h;split at h
   ·rename_i a q;rw[zN] at h;cases h;exact⟨j',rfl,q⟩
   ·cases h
  ·rintro⟨j,e,q⟩;cases e;rw[q];exact zN.mpr rfl
theorem J1 {d0:D}(r:Rep X P O L ρ σ H2)(hl:LiOk li js ρ){i:Nat}{w:W}{d:D}{v:V}(e1:(capE (li.map (·.2)) js ρ++[some (.l d0)])[i]? =some (some w))(e2:w.own=some d)(e3:(capS js σ++[some (.ref Dd)])[i]? =some (some v)):
  (i=js.length/\w= .l d0/\v= .ref Dd)\/∃j a w0,li=some (i,j)/\i<js.length/\w= .l d/\js[i]? =some (some j)/\ρ[j]? =some (some w0)/\w0.own=some d/\σ[j]? =some (some (.ref a))/\v= .ref a:=by
 have hcl:(capE (li.map (·.2)) js ρ).length=js.length:=by unfold capE;simp
 have hsl:(capS js σ).length=js.length:=by unfold capS;simp
 by_cases hi:i<js.length
 ·rw[qG (by walk_at "o")] at e1 e3
  obtain⟨j,w0,ej,q,ew⟩:=R9 e1;have own0:w0.own≠none/\li.map (·.2)=some j/\w= .l d/\w0.own=some d:=by
   cases w0 with
   | v c=>cases ew;cases e2
   | r c=>cases ew
   | o c=>
    simp only[capW] at ew;split at ew
    ·rename_i hk;cases ew;cases e2;exact⟨nofun,by simpa using hk,rfl,rfl⟩
    ·cases ew;cases e2
   | l c=>
    simp only[capW] at ew;split at ew
    ·rename_i hk;cases ew;cases e2;exact⟨nofun,by simpa using hk,rfl,rfl⟩
    ·cases ew;cases e2
  obtain⟨_,hlj,rfl,ow⟩:=own0;obtain⟨a,h1,h2⟩:=r.obj q ow;rw[S1 ej h1] at e3;cases e3;cases li with
  | none=>cases hlj
  | some p=>
   obtain⟨i',j'⟩:=p;cases hlj
   have:=hl.one i' _ i rfl ej
   subst this;exact .inr ⟨_,a,w0,rfl,hi,rfl,ej,q,ow,h1,rfl⟩
 ·have hi':i=js.length:=by
   have:=(zO.mp e1).1
   rw[zH,hcl] at this;simp at this;walk_at "o"
  subst hi';rw[qI (by walk_at "o"),hcl,jR] at e1
  rw[qI (by walk_at "o"),hsl,jR] at e3
  simp only[yO,Option.some.injEq] at e1 e3;exact .inl ⟨rfl,e1.symm,e3.symm⟩
theorem a82 {d0:D}{o0:HO}(hob:∀A H,H Dd=some o0->Obj X.K A H Dd d0)(r:Rep X P O L ρ σ H2)(hl:LiOk li js ρ)(hn:H2 Dd=none):
  Rep (blk X scope cl s2 H2 fp C (N++[accN])) P (fun b=>AvO O ρ σ b/\¬Capd ρ σ js b) ((some js.length,Dd)::lentL li σ) (capE (li.map (·.2)) js ρ++[some (.l d0)]) (capS js σ++[some (.ref Dd)]) (upd H2 Dd o0):=by
 have hcl:(capE (li.map (·.2)) js ρ).length=js.length:=by unfold capE;simp
 have hsl:(capS js σ).length=js.length:=by unfold capS;simp
 have acc1:(capE (li.map (·.2)) js ρ++[some (.l d0)])[js.length]? =some (some (.l d0)):=by rw[qI (by walk_at "o"),hcl,jR];rfl
 have acc2:(capS js σ++[some (V.ref Dd)])[js.length]? =some (some (.ref Dd)):=by rw[qI (by walk_at "o"),hsl,jR];rfl
 have lnt2:∀{i j:Nat} {a:Addr},li=some (i,j)->σ[j]? =some (some (.ref a))->∃w0 d,ρ[j]? =some (some w0)/\w0.own=some d/\(capE (li.map (·.2)) js ρ++[some (.l d0)])[i]? =some (some (.l d))/\(capS js σ++[some (V.ref Dd)])[i]? =some (some (.ref a)):=fun{i j a} e1 e2=>by
  obtain⟨c,ec⟩:=hl.own i j e1;obtain⟨w0,q,ow⟩:=o9 ec;have ej:=hl.at' i j e1;have hi:i<js.length:=(zO.mp ej).1;refine⟨w0,c,q,ow,?_,by rw[qG (by walk_at "o")];exact S1 ej e2⟩
  rw[qG (by walk_at "o")]
  unfold capE;rw[qH,ej];simp only[jS,bind_some,q,Option.join_some,e1,beq_self_eq_true];cases w0 with
  | o x=>cases ow;rfl
  | l x=>cases ow;rfl
  | _=>cases ow
 have av:∀b,AvO (fun b=>AvO O ρ σ b/\¬Capd ρ σ js b) (capE (li.map (·.2)) js ρ++[some (.l d0)]) (capS js σ++[some (V.ref Dd)]) b->AvO O ρ σ b\/H2 b=none:=fun b z=>by
  rcases z with z|⟨i,w,d,e1,e2,e3⟩
  ·exact .inl z.1
  ·rcases J1 r hl e1 e2 e3 with ⟨_,_,e⟩|⟨j,a,w0,_,_,_,_,q,ow,qs,e⟩
   ·cases e;exact .inr hn
   ·cases e;exact .inl (.inr ⟨j,w0,d,q,ow,qs⟩)
 have g:Go (AvO O ρ σ) (AvO (fun b=>AvO O ρ σ b/\¬Capd ρ σ js b) (capE (li.map (·.2)) js ρ++[some (.l d0)]) (capS js σ++[some (V.ref Dd)])) (fun _=>False) H2 (upd H2 Dd o0):=⟨fun b o e _=>j7 hn _ b o e,fun _ z=>z.elim,av⟩;refine⟨fun b o e _=>j7 hn _ b o e,fun b z=>⟨r.there z.1,fun i m=>?_⟩,by simp[hcl,hsl],fun i w e=>?_,fun i i' w w' d d' b e1 e2 e3 e4 e5 e6=>?_,fun i d b e=>?_,fun i d e=>?_,fun i b e=>?_,fun p hp=>p0 g _ _ (r.prot p hp),fun b m=>⟨js.length,Dd,zM⟩⟩
 ·rcases zS.mp m with m|m
  ·cases m;exact r.fresh hn z.1
  ·cases i with
   | none=>exact Z2 m
   | some i=>
    obtain⟨j,e1,e2⟩:=F9.mp m;obtain⟨w0,d,q,ow,_⟩:=lnt2 e1 e2;exact z.2 ⟨j,w0,d,xE (hl.at' i j e1),q,ow,e2⟩
 ·by_cases hi:i<js.length
  ·have e':=e;rw[qG (by walk_at "o")] at e'
   obtain⟨j,w0,ej,q,ew⟩:=R9 e';obtain⟨v,h1,h2⟩:=r.slot j w0 q;refine⟨v,by rw[qG (by walk_at "o")];exact S1 ej h1,?_⟩
   cases w0 with
   | v c=>cases ew;exact p0 g _ _ h2
   | r c=>cases ew
   | o c=>
    simp only[capW] at ew;obtain⟨a,rfl,ob⟩:=h2;have hk:upd H2 Dd o0 a=H2 a:=g9 fun z=>by obtain⟨u,eu,_⟩:=D9 ob;rw[z,hn] at eu;cases eu
    split at ew
    ·cases ew;exact⟨a,rfl,w6 g hk ob⟩
    ·rename_i nk;cases ew;refine T7 (w6 g hk ob) fun z=>?_;rcases z with z|⟨i2,w2,d2,e1,e2,e3⟩
     ·exact z.2 ⟨j,_,c,xE ej,q,rfl,h1⟩
     ·rcases J1 r hl e1 e2 e3 with ⟨_,_,e⟩|⟨j2,a2,w0,l2,_,_,ej2,q2,ow2,qs2,e⟩
      ·cases e;obtain⟨u,eu,_⟩:=D9 ob;rw[hn] at eu;cases eu
      ·cases e
       have:=r.inj j j2 _ w0 c d2 a q rfl h1 q2 ow2 qs2
       subst this;rw[l2] at nk;simp at nk
   | l c=>
    simp only[capW] at ew;obtain⟨a,rfl,ob⟩:=h2;have hk:upd H2 Dd o0 a=H2 a:=g9 fun z=>by obtain⟨u,eu,_⟩:=D9 ob;rw[z,hn] at eu;cases eu
    split at ew
    ·cases ew;exact⟨a,rfl,w6 g hk ob⟩
    ·rename_i nk;cases ew;refine T7 (w6 g hk ob) fun z=>?_;rcases z with z|⟨i2,w2,d2,e1,e2,e3⟩
     ·exact z.2 ⟨j,_,c,xE ej,q,rfl,h1⟩
     ·rcases J1 r hl e1 e2 e3 with ⟨_,_,e⟩|⟨j2,a2,w0,l2,_,_,ej2,q2,ow2,qs2,e⟩
      ·cases e;obtain⟨u,eu,_⟩:=D9 ob;rw[hn] at eu;cases eu
      ·cases e
       have:=r.inj j j2 _ w0 c d2 a q rfl h1 q2 ow2 qs2
       subst this;rw[l2] at nk;simp at nk
  ·have hi':i=js.length:=by
    have:=(zO.mp e).1
    rw[zH,hcl] at this;simp at this;walk_at "o"
   subst hi';rw[acc1] at e;cases e;exact⟨.ref Dd,acc2,Dd,rfl,hob _ _ m6⟩
 ·rcases J1 r hl e1 e2 e3 with ⟨rfl,_,e⟩|⟨j,a,w0,l1,_,_,_,q,ow,qs,e⟩
  ·cases e;rcases J1 r hl e4 e5 e6 with ⟨rfl,_,_⟩|⟨j,a,w0,l1,_,_,_,q,ow,qs,e⟩
   ·rfl
   ·cases e;obtain⟨u,eu,_⟩:=r.owMu ⟨j,w0,d',q,ow,qs⟩;rw[hn] at eu;cases eu
  ·cases e;rcases J1 r hl e4 e5 e6 with ⟨rfl,_,e⟩|⟨j',a',w0',l1',_,_,_,q',ow',qs',e⟩
   ·cases e;obtain⟨u,eu,_⟩:=r.owMu ⟨j,w0,d,q,ow,qs⟩;rw[hn] at eu;cases eu
   ·rw[l1] at l1';cases l1';rfl
 ·by_cases hi:i<js.length
  ·rw[qG (by walk_at "o")] at e
   obtain⟨j,w0,ej,q,ew⟩:=R9 e;cases w0<;>simp only[capW] at ew<;>first|cases ew|(split at ew<;>cases ew)
  ·rw[qI (by walk_at "o")] at e
   cases q:i-(capE (li.map (·.2)) js ρ).length with
   | zero=>rw[q] at e;cases e
   | succ n=>rw[q] at e;simp at e
 ·by_cases hi:i<js.length
  ·have e':=e;rw[qG (by walk_at "o")] at e'
   obtain⟨j,w0,ej,q,ew⟩:=R9 e';obtain⟨v,h1,h2⟩:=r.slot j w0 q;have e3:(capS js σ++[some (V.ref Dd)])[i]? =some (some v):=by rw[qG (by walk_at "o")];exact S1 ej h1
   rcases J1 r hl e rfl e3 with ⟨rfl,_⟩|⟨j,a,w0,l1,_,_,_,q,ow,qs,rfl⟩
   ·walk_at "o"
   ·exact⟨a,e3,zL _ (F9.mpr ⟨j,l1,qs⟩)⟩
  ·have hi':i=js.length:=by
    have:=(zO.mp e).1
    rw[zH,hcl] at this;simp at this;walk_at "o"
   subst hi';exact⟨Dd,acc2,zM⟩
 ·rcases zS.mp e with e|e
  ·cases e;exact⟨_,acc1,acc2⟩
  ·obtain⟨j,e1,e2⟩:=F9.mp e;obtain⟨w0,d,_,_,q1,q2⟩:=lnt2 e1 e2;exact⟨d,q1,q2⟩
end
structure Tst (Y:Cx) (ifs:List Expr) (t:FT):Prop where
 to:∀(pins:List (Addr×PySem.Obj)) (s:Shared) (σ:L2.St) (H:Hp) (P:List (D×V)) (O:Av) (L:List (Option Nat×Addr)) (ρ ρ':Ev) (k:Bool) (Q:Bool->Hp->Prop),Inv Y pins σ H s->Rep Y P O L ρ σ H->t ρ=some (k,ρ')->(∀H',Rep Y P O L ρ' σ H'->Q k H')->
  wpAny (model Y.prog Y.w) Y.A (forIn ifs true fun c r=>if r=true then do let ok <-isTrue c Y.env (eval c Y.env);pure (ForInStep.yield ok) else pure (ForInStep.yield r)) (TP Y pins σ Q) Fa s
theorem t8 {Y:Cx}:Tst Y [] (fun ρ=>some (true,ρ)):=⟨fun pins s σ H P O L ρ ρ' k Q I r e q=>by cases e;exact wpAny_tests_nil ⟨H,I,q H r⟩⟩
theorem S8 {Y:Cx}{c:Expr}{t:FT}(hx:Y.xe=Fa)(h:QT Y c t):Tst Y [c] t:=⟨fun pins s σ H P O L ρ ρ' k Q I r e q=>by
 have z:=h.to pins s σ H Q I ⟨P,O,L,ρ,k,ρ',r,e,q⟩;rw[hx] at z
 exact wpAny_tests_one z⟩
def WksB (li:Option (Nat×Nat)) (K:PySem.W.Frag) (P:List (D×V)) (O:Av) (ρ:Ev) (σ:L2.St) (H:Hp) (xs:List D) (J:It):Prop:=∀(Y:Cx) (O':Av) (L:List (Option Nat×Addr)) (ρ':Ev) (σ':L2.St) (H':Hp),Y.K=K->Y.H₀=H->Rep Y P O' L ρ' σ' H'->(∀b,O' b->AvO O ρ σ b)->(li=none->∀i b,(i,b)∈L->H b=none)->
 (∀(i:Nat) (x:D),xs[i]? =some x->J.go i H'/\∀v H'',J.yld i H' v H''->Same H' H''/\Den K (AvO O' ρ' σ') H'' x v)/\J.stop xs.length H'
def tIB (X:Cx) (li:Option (Nat×Nat)) (fi:FI):TI:=fun σ H R=>∃P O L ρ xs ρ',Rep X P O L ρ σ H/\fi ρ=some (xs,ρ')/\∀J H1 P',Rep X P' O L ρ' σ H1->Holds P' P->WksB li X.K P' O ρ' σ H1 xs J->R J H1
theorem tIBe {X:Cx}{li:Option (Nat×Nat)}{fi:FI}{σ:L2.St}{H:Hp}{R:It->Hp->Prop}{C:Prop}(h:tIB X li fi σ H R)(k:∀P O L ρ xs ρ',Rep X P O L ρ σ H->fi ρ=some (xs,ρ')->(∀J H1 P',Rep X P' O L ρ' σ H1->Holds P' P->WksB li X.K P' O ρ' σ H1 xs J->R J H1)->C):C:=by
 obtain⟨P,O,L,ρ,w,ρ',r,e,q⟩:=h;exact k P O L ρ w ρ' r e q
structure QIB (X:Cx) (li:Option (Nat×Nat)) (tg iter:Expr) (fi:FI):Prop where
 to:PI X tg iter (tIB X li fi)
theorem Wks.b {li:Option (Nat×Nat)}{K:PySem.W.Frag}{P:List (D×V)}{O:Av}{ρ:Ev}{σ:L2.St}{H:Hp}{xs:List D}{J:It}(w:Wks K P xs J):WksB li K P O ρ σ H xs J:=fun Y O' L ρ' σ' H' hY _ r _ _=>w Y O' L ρ' σ' H' hY r
theorem E6 {X:Cx}{li:Option (Nat×Nat)}{tg iter:Expr}{fi:FI}(h:QI X tg iter fi):QIB X li tg iter fi:=⟨PI.weak h.to fun σ H R h0=>tIBe h0 fun P O L ρ xs ρ' r e q=>⟨P,O,L,ρ,xs,ρ',r,e,fun J H1 P' r1 hh w=>q J H1 P' r1 hh w.b⟩⟩
def fiName (i:Nat):FI:=fun ρ=>match ρ[i]? with
 | some (some (.v d))=>(items d).map fun xs=>(xs,ρ)
 | some (some (.r _))=>none
 | some (some w)=>match w.own with
  | some (.lst xs)=>some (xs,ρ)
  | _=>none
 | _=>none
theorem b0w {Y:Cx}{P:List (D×V)}{O O':Av}{L:List (Option Nat×Addr)}{ρ ρ':Ev}{σ σ':L2.St}{H H':Hp}(hH:Y.H₀=H)(r:Rep Y P O' L ρ' σ' H')(ho:∀b,O' b->AvO O ρ σ b)(hn:∀i b,(i,b)∈L->H b=none):Go (AvO O ρ σ) (AvO O' ρ' σ') (fun _=>False) H H' where
 k:=fun b o e _=>r.same b o (by rw[hH];exact e) fun i m=>by rw[hn i b m] at e;cases e
 m:=fun _ z=>z.elim
 n:=fun b z=>by
  rcases z with z|⟨i,w,d,e1,e2,e3⟩
  ·exact .inl (ho b z)
  ·cases w with
   | o c=>
    have z:=r.new i c b e1 e3;unfold hz at z;split at z
    ·rename_i m;exact .inr (hn none b m)
    ·exact .inr (by rw[<-hH];exact z)
   | l c=>obtain⟨b',q1,q2⟩:=r.lnt i c e1;rw[e3] at q1;cases q1;exact .inr (hn (some i) b q2)
   | _=>cases e2
theorem B7 {X:Cx}{tg:Expr}{pos:Pos}(i:Nat){x:Str}(hN:X.N[i]? =some x:=by rfl)(hv:Vis X.env.scope x:=by first|exact Or.inl rfl|exact Or.inr (Or.inl rfl)|exact Or.inr (Or.inr rfl))(hd:(x==("__debug__":Str))=false:=by decide)(hcd:(x==("__classdict__":Str))=false:=by decide):QIB X none tg (.Name x pos) (fiName i):=⟨PI.weak (a7H (a3G hN hv hd hcd)) fun σ H R h0=>tIBe h0 fun P O L ρ xs ρ' r e q=>by
 unfold fiName at e;split at e
 ·rename_i d0 e0;obtain⟨v,h1,h2⟩:=r.slot i _ e0;have h2:Den X.K (AvO O ρ σ) H d0 v:=h2;obtain⟨ys,e3,e⟩:=oms e;cases e;have r3:=r.more (p:=(d0,v)) h2;have hh:Holds ((d0,v)::P) P:=fun p hp=>zL _ hp;refine⟨v,h1,?_⟩;cases d0 with
  | tup zs=>
   cases e3;have z:=h2;rw[Den] at z;obtain⟨a,vs,rfl,hq,l⟩:=z;refine .inr ⟨a,rfl,⟨vs,hq⟩,q _ H _ r3 hh (Wks.b fun Y O' L' ρ' σ' Hh hY rr=>?_)⟩;have z:=rr.head;rw[hY] at z;rw[Den] at z;obtain⟨a',vs,ea,hq,l⟩:=z;cases ea;refine⟨fun i x ex=>?_,vs,hq,by rw[<-b9 l];exact zD _⟩
   obtain⟨v0,hv,dv⟩:=z6 l ex;exact⟨⟨vs,v0,hq,hv⟩,fun w H' ⟨y1,y2⟩=>by subst y1;have:=y2 vs hq;rw[hv] at this;cases this;exact⟨Same.refl _,dv⟩⟩
  | lst zs=>
   cases e3;obtain⟨a,vs,rfl,hq,l⟩:=D1 h2;refine .inl ⟨a,rfl,⟨vs,hq⟩,q _ H _ r3 hh (Wks.b fun Y O' L' ρ' σ' Hh hY rr=>?_)⟩;have z:=rr.head;rw[hY] at z;obtain⟨a',vs,ea,hq,l⟩:=D1 z;cases ea;refine⟨fun i x ex=>?_,vs,hq,by rw[<-b9 l];exact zD _⟩
   obtain⟨v0,hv,dv⟩:=z6 l ex;exact⟨⟨vs,v0,hq,hv⟩,fun w H' ⟨y1,y2⟩=>by subst y1;have:=y2 vs hq;rw[hv] at this;cases this;exact⟨Same.refl _,dv⟩⟩
  | _=>cases e3
 ·cases e
 ·rename_i w0 _ _ e0;cases ew:w0.own with
  | none=>rw[ew] at e;cases e
  | some c=>
   rw[ew] at e;cases c with
   | lst zs=>
    cases e;obtain⟨a,h1,h2⟩:=r.obj e0 ew;refine⟨.ref a,h1,?_⟩;obtain⟨vs,h4,lz⟩:=h2;refine .inl ⟨a,rfl,⟨vs,.inl (.inl h4)⟩,q _ H P r (fun p hp=>hp) fun Y O' L' ρ2 σ2 Hh hY hH rr ho hn=>?_⟩;have g:=b0w hH rr ho (hn rfl);have l2:=q9 g _ _ lz;have h5:Hh a=some (.lst vs):=g.k a _ h4 id;have hq:SqL X.K Hh a vs:=.inl (.inl h5);refine⟨fun i x ex=>?_,vs,hq,by rw[<-b9 lz];exact zD _⟩
    obtain⟨v0,hv,dv⟩:=z6 l2 ex;exact⟨⟨vs,v0,hq,hv⟩,fun w H' ⟨y1,y2⟩=>by subst y1;have:=y2 vs hq;rw[hv] at this;cases this;exact⟨Same.refl _,dv⟩⟩
   | _=>cases e
 ·cases e⟩
def appTo (k:Nat) (p:W×Ev):Option Ev:=(takeAll p.2 [p.1.fz]).bind fun q=>match q.1,ownAt q.2 k with
 | [d],some (.lst zs)=>if zs.length<lim then some (setOwn q.2 k (.lst (zs++[d]))) else none
 | _,_=>none
def turnC (k:Nat) (gf:FG) (t:FT) (fe:FX):D->Ev->Option Ev:=fun x ρ=>(gf x ρ).bind fun ρ1=>(t ρ1).bind fun p=>if p.1=true then(fe p.2).bind (appTo k) else some p.2
def loopC (st:D->Ev->Option Ev):List D->Ev->Option Ev
 | [],ρ=>some ρ
 | x::xs,ρ=>(st x ρ).bind (loopC st xs)
section
variable {X:Cx}{pins:List (Addr×PySem.Obj)}{σ:L2.St}{H2:Hp}{s2:Shared}{scope:Scope}{cl:List (Str×Addr)}{N:List Str}{js:List (Option Nat)}{fp:List Addr}{it:Addr}{tn:Nat->Heap->Prop}{J:It}{elt tg iter:Expr}{ifs:List Expr}{pos:Pos}{P:List (D×V)}{O:Av}{L:List (Option Nat×Addr)}{ρ ρe:Ev}{xs:List D}{gf:FG}{t:FT}{fe:FX}{Qq:Value->Shared->Prop}{use:Option (Value->Sem Unit)}{li:Option (Nat×Nat)}
def turnG (gf:FG) (t:FT) (stp:Ev->Option Ev):D->Ev->Option Ev:=fun x ρ=>(gf x ρ).bind fun ρ1=>(t ρ1).bind fun p=>if p.1=true then stp p.2 else some p.2
theorem a0O {new:Sem Value}{ce:Expr}{ob0:PySem.Obj}{o0:HO}{d0:D}{stp:Ev->Option Ev}{el:Env->Addr->Shared->(Shared->Prop)->Prop}
  (hnew:∀{Q:Value->Shared->Prop},Q (.ref s2.heap.objs.size) {s2 with heap:=s2.heap.push ob0}->wpAny (model X.prog X.w) X.A new Q X.xe s2) (hob:∀A H a,H a=some o0->Obj X.K A H a d0) (hok:HOk X.prog X.w (upd H2 s2.heap.objs.size o0) (s2.heap.push ob0))
  (hloop:∀{Dd:Addr} {env:Env} {R:Result->Shared->Prop} {s:Shared} (I:Nat->Shared->Prop),(∀n s,I n s->wpAny (model X.prog X.w) X.A (pyNext (.ref it)) (fun r s1=>match r with
   | none=>R (.ok .next) s1
   | some v=>wpAny (model X.prog X.w) X.A (letOwnedTupleGo tg (.ref it) v) (fun _ s2=>wpAny (model X.prog X.w) X.A (assign tg env v) (fun _ s3=>
     wpAny (model X.prog X.w) X.A (forIn ifs true fun c r=>if r=true then do let ok <-isTrue c env (eval c env);pure (ForInStep.yield ok) else pure (ForInStep.yield r)) (fun ok s4=>
      if ok=true then el env Dd s4 (fun s6=>∃m,m<n/\I m s6) else ∃m,m<n/\I m s4) Fa s3) Fa s2) Fa s1) Fa s)->∀n,I n s->codeAny (model X.prog X.w) X.A (.compLoop ce 0 (.ref it) (.ref Dd) env) R s)
  (hstart:∀{acc:Value} {env:Env} {R:Result->Shared->Prop} {s:Shared},codeAny (model X.prog X.w) X.A (.compLoop ce 0 (.ref it) acc env) R s->wpAny (model X.prog X.w) X.A (pyIter (.ref it)) (fun it' s'=>codeAny (model X.prog X.w) X.A (.compLoop ce 0 it' acc env) R s') (notedBy (model X.prog X.w) X.A env fun x s'=>R (.error x) s') s->codeAny (model X.prog X.w) X.A (.compStart ce 0 (.ref it) acc env) R s)
  (hE:∀{C Dd:Addr} {qs:List (Addr×PySem.Obj)} {σ6:L2.St} {H7:Hp} {s7:Shared} {O':Av} {L':List (Option Nat×Addr)} {ρ2 ρt:Ev} {K:Shared->Prop},(some js.length,Dd)∈L'->Inv (blk X scope cl s2 H2 fp C (N++[accN])) qs σ6 H7 s7->Rep (blk X scope cl s2 H2 fp C (N++[accN])) P O' L' ρ2 σ6 H7->stp ρ2=some ρt->(∀{s8 H8},Inv (blk X scope cl s2 H2 fp C (N++[accN])) qs σ6 H8 s8->Rep (blk X scope cl s2 H2 fp C (N++[accN])) P O' L' ρt σ6 H8->K s8)->el (compEnvC scope cl C X.env) Dd s7 K)
  (hcalm:X.calm=true) (I2:Inv X pins σ H2 s2) (T:Turn X.prog X.w X.K tg J fp it tn) (st2:tn 0 s2.heap) (f2:∀y∈fp,FpOk X pins H2 y) (b:Blk X scope cl N js) (r:Rep X P O L ρ σ H2) (hl:LiOk li js ρ) (wk:WksB li X.K P O ρ σ H2 xs J)
  (hg:∀C,QG (blk X scope cl s2 H2 fp C (N++[accN])) tg gf) (ht:∀C,Tst (blk X scope cl s2 H2 fp C (N++[accN])) ifs t)
  (e:loopC (turnG gf t stp) xs (capE (li.map (·.2)) js ρ++[some (.l d0)])=some ρe)
  (fin:∀(Dd C:Addr) (σe:L2.St) (He:Hp) (s1:Shared),H2 Dd=none->s2.heap.objs.size<=C->Inv (blk X scope cl s2 H2 fp C (N++[accN])) [] σe He s1->Rep (blk X scope cl s2 H2 fp C (N++[accN])) P (fun b=>AvO O ρ σ b/\¬Capd ρ σ js b) ((some js.length,Dd)::lentL li σ) ρe σe He->
   compPost (model X.prog X.w) X.A X.xe use Qq (.ref Dd) C (.ok .next) s1):
  wpAny (model X.prog X.w) X.A new (fun acc s3=>wpAny (model X.prog X.w) X.A (newFunctionEnv scope X.env.globals cl [] X.env.qual none .none (some X.env)) (fun cenv s4=>
   codeAny (model X.prog X.w) X.A (.compStart ce 0 (.ref it) acc {cenv with scope:=relabel scope X.env}) (compPost (model X.prog X.w) X.A X.xe use Qq acc cenv.locals) s4) X.xe s3) X.xe s2:=by
 have fl:∀y∈fp,y<s2.heap.objs.size:=fun y hy=>by obtain⟨o,eo,_⟩:=T.obj _ _ st2 y hy;exact zW eo
 refine hnew (wpAny_newFunctionEnv b.cell (by intro y hy;simp at hy) (fun h' hns hsb=>?_) b.kind)
 dsimp only at hns hsb ⊢;generalize hH:s2.heap.push ob0=H3 at hok hns hsb ⊢;have hC:H3.objs.size=s2.heap.objs.size+1:=by rw[<-hH,size_push]
 have ne:s2.heap.objs.size≠H3.objs.size:=by rw[hC];exact zV (Nat.lt_succ_self _)
 have leC:s2.heap.objs.size<=H3.objs.size:=by rw[hC];exact Nat.le_succ _
 have kp3:∀y o,s2.heap.get? y=some o->H3.get? y=some o:=fun y o e=>hH▸zE _ e;have kp4:∀y o,H3.get? y=some o->h'.get? y=some o:=fun y o e=>hsb.extBut y o (zV (zW e)) (zE _ e);have hDn:H2 s2.heap.objs.size=none:=I2.hok.fresh (zD _);have I4:=a8Q (s4:={s2 with heap:=h',toks:=s2.toks+([]:List (Str×Value)).length}) (Dd:=s2.heap.objs.size) (C:=H3.objs.size) I2 b f2 fl leC (zD _) ne rfl I2.bare (fun y o e=>kp4 y o (kp3 y o e)) hns (hok.kept kp4)
 have R4:=a82 (d0:=d0) (o0:=o0) (fun A H=>hob A H _) (scope:=scope) (cl:=cl) (N:=N) (s2:=s2) (fp:=fp) (C:=H3.objs.size) (Dd:=s2.heap.objs.size) r hl hDn;have hfree:∀{H':Hp},(∀y∈fp,H' y=none)->∀y∈fp,FpOk (blk X scope cl s2 H2 fp H3.objs.size (N++[accN])) [] H' y:=fun hn y hy=>
  ⟨hn y hy,zV (zJ (fl y hy) leC),fun z=>(zS.mp (I2.stkSub y z)).elim (f2 y hy).2.1 (f2 y hy).2.2.1,.inl hy,fun x c ec=>(f2 y hy).2.2.2.2.1 x c (b.sub x c ec),fun p hp=>absurd (show p∈([]:List (Addr×PySem.Obj)) from hp) (by simp)⟩
 obtain⟨gg,pg,kg⟩:=(hg H3.objs.size).to;have loop:∀s5:Shared,s5={s2 with heap:=h',toks:=s2.toks+([]:List (Str×Value)).length}->
   codeAny (model X.prog X.w) X.A (.compLoop ce 0 (.ref it) (.ref s2.heap.objs.size) (compEnvC scope cl H3.objs.size X.env))
    (compPost (model X.prog X.w) X.A X.xe use Qq (.ref s2.heap.objs.size) H3.objs.size) s5:=by
  rintro s5 rfl
  let Y:=blk X scope cl s2 H2 fp H3.objs.size (N++[accN])
  let O':Av:=fun b=>AvO O ρ σ b/\¬Capd ρ σ js b
  let L':=(some js.length,s2.heap.objs.size)::lentL li σ
  refine hloop (fun n s=>∃i σ' H' ρ',n=xs.length-i/\i<=xs.length/\Inv Y [] σ' H' s/\tn i s.heap/\(∀y∈fp,H' y=none)/\Rep Y P O' L' ρ' σ' H'/\loopC (turnG gf t stp) (xs.drop i) ρ'=some ρe) ?_ xs.length
   ⟨0,_,_,_,by simp,qL _,I4,T.keep 0 _ _ st2 fun y hy o eo=>kp4 y o (kp3 y o eo),fun y hy=>by rw[g9 (zV (fl y hy))];exact(f2 y hy).1,R4,by simpa using e⟩
  rintro n s ⟨i,σ',H',ρ',rfl,hi,I,st,fr,rp,el⟩;obtain⟨wi,ws⟩:=wk Y O' L' ρ' σ' H' rfl rfl rp (fun b z=>z.1) (fun z i b m=>by subst z;exact(zS.mp m).elim (fun m=>by cases m;exact hDn) (fun m=>by cases m))
  by_cases hlt:i<xs.length
  ·obtain⟨go,yl⟩:=wi i xs[i] (by simp[hlt])
   refine zZ (T.item Y rfl rfl rfl hcalm i [] s σ' H' Fa I (hfree fr) st go) (fun r s1 ⟨u,hr,h1⟩=>?_) fun _ _ z=>z;subst hr;refine zZ h1 (fun _ s3 ⟨x,H5,I5,r5,y5,st5,fr5⟩=>?_) fun _ _ z=>z;obtain⟨sm5,dx⟩:=yl x H5 y5
   replace rp:=rp.grow sm5
   rw[List.drop_eq_getElem_cons hlt,loopC] at el;cases e1:turnG gf t stp xs[i] ρ' with
   | none=>rw[e1] at el;cases el
   | some ρt=>
    rw[e1] at el;simp only[bind_some] at el;unfold turnG at e1;cases e2:gf xs[i] ρ' with
    | none=>rw[e2] at e1;cases e1
    | some ρ1=>
     rw[e2] at e1;simp only[bind_some] at e1;obtain⟨⟨k,ρ2⟩,e3,e1⟩:=obs e1;dsimp only at e1;have I5':=I5.pinned (hfree fr5) (T.obj _ _ st5);have gq:=kg P O' L' xs[i] x ρ' ρ1 σ' H5 (fun σ2 Hh=>Rep Y P O' L' ρ1 σ2 Hh) rp dx e2 (fun σ2 H2' rp2=>rp2);refine zZ (pg _ s3 σ' H5 x u _ I5' r5 gq) (fun _ s6 ⟨σ6,H6,I6,rp6⟩=>?_) fun _ _ z=>z;have back:∀{s7:Shared} {H7:Hp} {ρ7:Ev},Inv Y ([]++pinsAt fp s3.heap) σ6 H7 s7->Rep Y P O' L' ρ7 σ6 H7->loopC (turnG gf t stp) (xs.drop (i+1)) ρ7=some ρe->
       ∃m,m<xs.length-i/\∃i σ' H' ρ',m=xs.length-i/\i<=xs.length/\Inv Y [] σ' H' s7/\tn i s7.heap/\(∀y∈fp,H' y=none)/\Rep Y P O' L' ρ' σ' H'/\loopC (turnG gf t stp) (xs.drop i) ρ'=some ρe:=fun{s7 H7 ρ7} I7 rp7 e7=>by
      refine⟨xs.length-(i+1),by walk_at "o",i+1,σ6,H7,ρ7,rfl,hlt,I7.unpinned,T.keep _ _ _ st5 fun y hy o eo=>(I7.pin (y,o) (qQ _ (qQ _ (J6 hy eo)))).1,fun y hy=>?_,rp7,e7⟩
      obtain⟨o,eo,_⟩:=T.obj _ _ st5 y hy;exact(I7.pin (y,o) (qQ _ (qQ _ (J6 hy eo)))).2.1
     refine zZ ((ht H3.objs.size).to _ s6 σ6 H6 P O' L' ρ1 ρ2 k (fun k' Hh=>k'=k/\Rep Y P O' L' ρ2 σ6 Hh) I6 rp6 e3 (fun H' rr=>⟨rfl,rr⟩)) (fun ok s7 ⟨H7,I7,hk,rp7⟩=>?_) fun _ _ z=>z;subst hk;cases ok with
     | false=>
      rw[if_neg qD] at e1 ⊢;cases e1;exact back I7 rp7 el
     | true=>
      rw[if_pos rfl] at e1 ⊢;exact hE zM I7 rp7 e1 fun I8 rp8=>back I8 rp8 el
  ·have hie:i=xs.length:=by walk_at "o"
   subst hie;refine zZ (T.done Y rfl rfl rfl hcalm _ [] s σ' H' Fa I (hfree fr) st ws) (fun r s1 ⟨hr,I1⟩=>?_) fun _ _ z=>z;subst hr;rw[List.drop_eq_nil_of_le (zD _),loopC] at el;cases el;exact fin _ _ σ' H' s1 hDn leC I1 rp
 exact hstart (loop _ rfl) (T.self _ 0 _ _ _ (T.keep 0 _ _ st2 fun y hy o eo=>kp4 y o (kp3 y o eo)) (loop _ rfl))
theorem a72 (hcalm:X.calm=true)(I2:Inv X pins σ H2 s2)(T:Turn X.prog X.w X.K tg J fp it tn)(st2:tn 0 s2.heap)(f2:∀y∈fp,FpOk X pins H2 y)(b:Blk X scope cl N js)(r:Rep X P O L ρ σ H2)(hl:LiOk li js ρ)(wk:WksB li X.K P O ρ σ H2 xs J)
  (hg:∀C,QG (blk X scope cl s2 H2 fp C (N++[accN])) tg gf) (ht:∀C,Tst (blk X scope cl s2 H2 fp C (N++[accN])) ifs t) (he:∀C,QX (blk X scope cl s2 H2 fp C (N++[accN])) elt fe)
  (e:loopC (turnC js.length gf t fe) xs (capE (li.map (·.2)) js ρ++[some (.l (.lst []))])=some ρe)
  (fin:∀(Dd C:Addr) (σe:L2.St) (He:Hp) (s1:Shared),H2 Dd=none->s2.heap.objs.size<=C->Inv (blk X scope cl s2 H2 fp C (N++[accN])) [] σe He s1->Rep (blk X scope cl s2 H2 fp C (N++[accN])) P (fun b=>AvO O ρ σ b/\¬Capd ρ σ js b) ((some js.length,Dd)::lentL li σ) ρe σe He->
   compPost (model X.prog X.w) X.A X.xe use Qq (.ref Dd) C (.ok .next) s1):
  wpAny (model X.prog X.w) X.A (newList []) (fun acc s3=>wpAny (model X.prog X.w) X.A (newFunctionEnv scope X.env.globals cl [] X.env.qual none .none (some X.env)) (fun cenv s4=>
   codeAny (model X.prog X.w) X.A (.compStart (.ListComp elt [⟨tg,iter,ifs,0⟩] scope pos) 0 (.ref it) acc {cenv with scope:=relabel scope X.env}) (compPost (model X.prog X.w) X.A X.xe use Qq acc cenv.locals) s4) X.xe s3) X.xe s2:=
 a0O (new:=newList []) (ob0:={cls:=.type "list",dict:=none,data:=.seq ([]:List Value).toArray}) (o0:=.lst []) (d0:=.lst []) (stp:=fun ρ=>(fe ρ).bind (appTo js.length)) (el:=fun env a s K=>wpAny (model X.prog X.w) X.A (eval elt env) (fun x s5=>wpAny (model X.prog X.w) X.A (call (.builtin "list.append") [.ref a,x]) (fun _ s6=>K s6) Fa s5) Fa s)
  (fun h=>jG h) (fun _ _ _ e=>⟨[],e,j6⟩) (I2.hok.laid (fun y o e=>zE _ e) (zD _) ⟨qL _,[],0,.nil,qA _ rfl⟩) (fun I t n h=>a5l I t n h) codeAny_compStart_list
  (fun{C Dd qs σ6 H7 s7 O' L' ρ2 ρt K} hL I7 rp7 e1 back=>by
   obtain⟨⟨w,ρ3⟩,e4,e1⟩:=obs e1;simp only[appTo] at e1;obtain⟨⟨ds,ρ4⟩,e5,e1⟩:=obs e1;dsimp only at e1;split at e1
   ·rename_i d zs e6;split at e1
    ·rename_i hl;cases e1;refine zZ ((he C).to _ s7 σ6 H7 (fun v H8=>Rep (blk X scope cl s2 H2 fp C (N++[accN])) P O' L' ρ4 σ6 H8/\Den X.K (AvO O' ρ4 σ6) H8 d v) I7 ⟨P,O',L',ρ2,w,ρ3,rp7,e4,fun v H8 H8' r8 s8 d8=>?_⟩) (fun u8 s8 ⟨v8,H8,I8,r8,rp8,d8⟩=>?_) fun _ _ z=>z
     ·obtain⟨r9,l9,_⟩:=o4 (vs:=[v]) (r8.grow s8) e5 ⟨v,[],rfl,d8.fz r8 s8,rfl⟩;obtain⟨v',ev,h'⟩:=denL1 l9;cases ev;exact⟨r9,h'⟩
     ·obtain⟨d0,q1,q2⟩:=rp8.lnd js.length Dd hL;have e6':=e6;unfold ownAt at e6';rw[q1] at e6';cases e6';obtain⟨a,h1,vs,h4,lz⟩:=rp8.obj q1 rfl;rw[q2] at h1;cases h1;have h9:=a0V _ s8 σ6 H8 (.ref Dd) [v8] (.ref Dd) [u8] (fun v H9=>H9=upd H8 Dd (.lst (vs++[v8]))) I8 rfl (.cons r8 .nil) ⟨_,vs,v8,rfl,rfl,h4,by rw[<-b9 lz];exact zJ hl u5,rfl⟩
      refine zZ h9 (fun _ s9 ⟨v9,H9,I9,_,e9⟩=>?_) fun _ _ z=>z;subst e9;have g0:Go (AvO O' ρ4 σ6) (AvO O' ρ4 σ6) (fun b=>b=Dd) H8 (upd H8 Dd (.lst (vs++[v8]))):=⟨fun b o eb nb=>by rw[g9 nb];exact eb,fun b z=>by rw[z];exact⟨.inr ⟨js.length,_,_,q1,rfl,q2⟩,_,h4,trivial⟩,fun b z=>.inl z⟩
      exact back I9 (rp8.mut (d:=.lst (zs++[d])) e6 q2 (fun b o eb nb=>by rw[g9 nb];exact eb) ⟨_,m6,q9 g0 _ _ (v3 lz (j4 d8 j6))⟩)
    ·cases e1
   ·cases e1) hcalm I2 T st2 f2 b r hl wk hg ht e fin
theorem a24 {C:Addr}{σe:L2.St}{He:Hp}{s1:Shared}{h9:Heap}(I2:Inv X pins σ H2 s2)(f2:∀y∈fp,FpOk X pins H2 y)(leC:s2.heap.objs.size<=C)(I1:Inv (blk X scope cl s2 H2 fp C (N++[accN])) [] σe He s1)(hs9:∀y,y≠C->h9.get? y=s1.heap.get? y):
  Inv X pins σ He {s1 with heap:=h9}:=by
 have neC:∀y,He y≠none->y≠C:=fun y z w=>z (by rw[w];exact I1.free)
 have inS:∀y o,s2.heap.get? y=some o->y≠C:=fun y o e0=>zV (zJ (zW e0) leC);have B:=I1.base
 have un:Un (frs X.stack) fp H2 He s2.heap h9:=⟨fun y o e0 n hb hx=>(hs9 y (inS y o e0)).trans (B.keep y o e0 n hb hx),fun y o e0 n hb hx=>by
   obtain⟨sl',z⟩:=B.slot y o e0 n hb hx;exact⟨sl',(hs9 y (inS y o e0)).trans z⟩,B.free,fun y o e0 hx=>by
   obtain⟨o',z⟩:=B.there y o e0 hx
   exact⟨o',(hs9 y (inS y o e0)).trans z⟩,B.tups,B.frzs,B.tbls⟩
 have hok:HOk X.prog X.w He h9:=fun y u0 q0=>(I1.hok y u0 q0).stay (fun c v hc z=>(hs9 c (neC c (by
   rcases hc with w|w
   ·rw[w,q0];exact fun z=>nomatch z
   ·rw[w];exact fun z=>nomatch z))).trans z) (fun _ z=>z) fun _ _ z=>z
 exact I2.call' (s':={s1 with heap:=h9}) (ch:=fp) I1.os un hok I1.bare (fun y hy=>⟨(f2 y hy).2.2.2.1,(f2 y hy).2.1,(f2 y hy).2.2.2.2.1,(f2 y hy).2.2.2.2.2⟩)
end
def capR (js:List (Option Nat)):List W:=js.filterMap fun o=>o.map W.r
def backG (li:Option (Nat×Nat)) (js:List (Option Nat)) (ρe ρ1:Ev) (d:D):Option (W×Ev):=match li with
 | none=>if lfC d=true then some (.o d,ρ1) else(frzL (capR js) ρ1).map fun ρ2=>(.o d,ρ2)
 | some (i,j)=>if lfC d=true then(ownAt ρe i).bind fun c=>if lfC c=true then some (.o d,setOwn ρ1 j c) else none else none
def liJ (li:Option (Nat×Nat)) (js:List (Option Nat)):Bool:=match li with
 | none=>true
 | some (i,j)=>js[i]? == some (some j)&&(List.range js.length).all fun k=>js[k]? != some (some j)||k==i
def liB (li:Option (Nat×Nat)) (ρ:Ev):Bool:=match li with
 | none=>true
 | some (_,j)=>(ownAt ρ j).isSome
def fComp (fi:FI) (li:Option (Nat×Nat)) (js:List (Option Nat)) (gf:FG) (t:FT) (fe:FX):FX:=fun ρ=>(fi ρ).bind fun p=>if liB li p.2=true then
  (loopC (turnC js.length gf t fe) p.1 (capE (li.map (·.2)) js p.2++[some (.l (.lst []))])).bind fun ρe=>match ownAt ρe js.length with
   | some (.lst ys)=>backG li js ρe p.2 (.lst ys)
   | _=>none
 else none
section
variable {X:Cx}{pins:List (Addr×PySem.Obj)}{σ σe:L2.St}{H2 He:Hp}{s2:Shared}{scope:Scope}{cl:List (Str×Addr)}{N:List Str}{js:List (Option Nat)}{fp:List Addr}{Dd C:Addr}{elt tg iter:Expr}{ifs:List Expr}{pos:Pos}{P:List (D×V)}{O:Av}{L:List (Option Nat×Addr)}{ρ ρ2 ρe:Ev}{w:W}{ys:List D}{fi:FI}{gf:FG}{t:FT}{fe:FX}{li:Option (Nat×Nat)}
theorem a88 (h:liJ li js=true)(hb:liB li ρ=true):LiOk li js ρ:=by
 cases li with
 | none=>exact⟨nofun,nofun,nofun⟩
 | some p=>
  obtain⟨i,j⟩:=p;simp only[liJ,qR,xW,all_eq_true,xO,Bool.or_eq_true,bne_iff_ne] at h;simp only[liB,isSome_iff_exists] at hb;refine⟨fun i' j' e=>by cases e;exact hb,fun i' j' e=>by cases e;exact h.1,fun i' j' k e ek=>?_⟩
  cases e;rcases h.2 k (zO.mp ek).1 with z|z
  ·exact absurd ek z
  ·exact z
theorem a6G {j:Nat}:W.r j∈capR js↔some j∈js:=by
 unfold capR;rw[mem_filterMap];constructor
 ·rintro⟨o,h1,h2⟩;cases o with
  | none=>cases h2
  | some k=>cases h2;exact h1
 ·exact fun h=>⟨some j,h,rfl⟩
theorem a4m (r:Rep X P O L ρ σ H2)(hl:LiOk li js ρ)(hn:H2 Dd=none)(rp:Rep (blk X scope cl s2 H2 fp C (N++[accN])) P (fun b=>AvO O ρ σ b/\¬Capd ρ σ js b) ((some js.length,Dd)::lentL li σ) ρe σe He)
  {d0:D} (ey:ownAt ρe js.length=some d0) (e:backG li js ρe ρ d0=some (w,ρ2)):∃Hx,Rep X P O L ρ2 σ Hx/\Same Hx He/\DenW X.K (AvO O ρ2 σ) σ Hx He w (.ref Dd):=by
 obtain⟨c0,q0,ob⟩:=rp.lents js.length Dd zM;rw[ey] at q0;cases q0;cases li with
 | none=>
  have sm:Same H2 He:=fun b o eb=>rp.same b o eb fun i m=>by
   rcases zS.mp m with m|m
   ·cases m;rw[hn] at eb;cases eb
   ·cases m
  unfold backG at e;simp only at e;split at e
  ·rename_i hf;cases e;exact⟨H2,r,sm,Dd,rfl,hn,Q8 (d:=d0) (fun _ _ e _=>e) hf rfl ob⟩
  ·obtain⟨ρ3,e4,e⟩:=oms e;cases e;obtain⟨r2,k2⟩:=G9 r e4;refine⟨H2,r2,sm,Dd,rfl,hn,w6 (w4 fun b z=>?_) rfl ob⟩;rcases z with z|z
   ·obtain⟨z1,z2⟩:=O9 r k2 z;exact .inl ⟨z1,fun⟨j,w,d,m,q⟩=>z2 ⟨j,w,d,a6G.mpr m,q⟩⟩
   ·exact .inr ⟨js.length,by rw[z];exact zM⟩
 | some p=>
  obtain⟨i,j⟩:=p;unfold backG at e;simp only at e;split at e
  ·rename_i hf;cases e5:ownAt ρe i with
   | none=>rw[e5] at e;cases e
   | some c=>
    rw[e5] at e;simp only[bind_some] at e;split at e
    ·rename_i hc;cases e;obtain⟨c1,ec1⟩:=hl.own i j rfl;obtain⟨w0,q1,ow⟩:=o9 ec1;obtain⟨a,h1,oba⟩:=r.obj q1 ow;obtain⟨u0,eu0,_⟩:=D9 oba;have na:a≠Dd:=fun z=>by rw[z,hn] at eu0;cases eu0
     have mem:(some i,a)∈lentL (some (i,j)) σ:=F9.mpr ⟨j,rfl,h1⟩;obtain⟨c2,ec2,ob2⟩:=rp.lents i a (zL _ mem);rw[e5] at ec2;cases ec2;obtain⟨ur,eur,mur⟩:=D9 ob;have keep:∀b o,H2 b=some o->b≠a->He b=some o:=fun b o eb nb=>rp.same b o eb fun k m=>by
      rcases zS.mp m with m|m
      ·cases m;rw[hn] at eb;cases eb
      ·cases k with
       | none=>exact Z2 m
       | some k=>
        obtain⟨j',e1,e2⟩:=F9.mp m;cases e1;rw[h1] at e2;cases e2;exact nb rfl
     refine⟨fun b=>if b=Dd then none else He b,r.mut ec1 h1 (fun b o eb nb=>?_) (Q8 (fun b o eb nm=>?_) hc (if_neg na) ob2),fun b o eb=>?_,Dd,rfl,if_pos rfl,Q8 (d:=d0) (fun _ _ e _=>e) hf rfl ob⟩
     ·have:b≠Dd:=fun z=>by rw[z,hn] at eb;cases eb
      show(if b=Dd then none else He b)=some o;rw[if_neg this];exact keep b o eb nb
     ·have:b≠Dd:=fun z=>by rw[z,eur] at eb;cases eb;exact nm mur
      show(if b=Dd then none else He b)=some o;rw[if_neg this];exact eb
     ·dsimp only at eb;split at eb
      ·cases eb
      ·exact eb
    ·cases e
  ·cases e
theorem a2s {Q:VK}{Qq:Value->Shared->Prop}{use:Option (Value->Sem Unit)}{H:Hp}{s:Shared}{newPos:Pos}(hc:X.calm=true)(b:Blk X scope cl N js)(hj:liJ li js=true)(hi:QIB X li tg iter fi)
  (hg:∀s2 H2 fp C,QG (blk X scope cl s2 H2 fp C (N++[accN])) tg gf) (ht:∀s2 H2 fp C,Tst (blk X scope cl s2 H2 fp C (N++[accN])) ifs t) (he:∀s2 H2 fp C,QX (blk X scope cl s2 H2 fp C (N++[accN])) elt fe) (hs:∀x,foldedSetIterable iter X.env x=pure x)
  (I:Inv X pins σ H s) (h:tX X (fComp fi li js gf t fe) σ H Q)
  (fin:∀(C:Addr) (v:V) (He:Hp) (s1:Shared),Q v He->(∀h9:Heap,(∀y,y≠C->h9.get? y=s1.heap.get? y)->Inv X pins σ He {s1 with heap:=h9})->FpOk X pins He C->(∃m,s1.heap.Ns C m)->∀vv,RelV v vv->compPost (model X.prog X.w) X.A X.xe use Qq vv C (.ok .next) s1):
  wpAny (model X.prog X.w) X.A (comprehension (.ListComp elt [⟨tg,iter,ifs,0⟩] scope pos) scope X.env newPos (newList []) false (eval iter X.env) use) Qq X.xe s:=by
 obtain⟨P,O,L,ρ,w,ρ',r,e,q⟩:=h;unfold fComp at e;obtain⟨⟨xs,ρ1⟩,e1,e⟩:=obs e;dsimp only at e;split at e
 ·rename_i hb;cases e2:loopC (turnC js.length gf t fe) xs (capE (li.map (·.2)) js ρ1++[some (.l (.lst []))]) with
  | none=>rw[e2] at e;cases e
  | some ρe=>
   rw[e2] at e;simp only[bind_some] at e;split at e
   ·rename_i ys ey;have hl:=a88 hj hb;refine wpAny_comprehension_free rfl hs b.clos b.kind b.nms ?_;refine zZ (hi.to pins s σ H _ I ⟨P,O,L,ρ,xs,ρ1,r,e1,fun J H1 P' r1 hh wk=>(⟨P',r1,hh,wk⟩:∃P',Rep X P' O L ρ1 σ H1/\Holds P' P/\WksB li X.K P' O ρ1 σ H1 xs J)⟩) (fun v s1 h1=>zZ h1 (fun itv s2 h2=>?_) fun _ _ z=>z) fun _ _ z=>z;obtain⟨it,fp,tn,J,H2,rfl,I2,T,st2,f2,P',r1,hh,wk⟩:=h2;refine a72 hc I2 T st2 f2 b r1 hl wk (hg s2 H2 fp) (ht s2 H2 fp) (he s2 H2 fp) e2 fun Dd C σe He s3 hn leC I1 rp=>?_;obtain⟨Hx,rx,sx,dx⟩:=a4m r1 hl hn rp ey e;obtain⟨m,hm,_⟩:=id I1.loc;refine fin C (.ref Dd) He s3 (q _ Hx He (rx.holds hh) sx dx) (fun h9 k9=>a24 I2 f2 leC I1 k9) ?_ ⟨m,hm⟩ (.ref Dd) rfl;exact I2.fpOk leC I1.free
   ·cases e
 ·cases e
theorem v5 (hc:X.calm=true)(b:Blk X scope cl N js)(hi:QIB X li tg iter fi)(hg:∀s2 H2 fp C,QG (blk X scope cl s2 H2 fp C (N++[accN])) tg gf)(ht:∀s2 H2 fp C,Tst (blk X scope cl s2 H2 fp C (N++[accN])) ifs t)(he:∀s2 H2 fp C,QX (blk X scope cl s2 H2 fp C (N++[accN])) elt fe)
  (hj:liJ li js=true:=by rfl) (hs:∀x,foldedSetIterable iter X.env x=pure x:=by intro _;rfl):QX X (.ListComp elt [⟨tg,iter,ifs,0⟩] scope pos) (fComp fi li js gf t fe):=⟨fun pins s σ H Q I h=>by
 rw[eval_ListComp];refine a2s (use:=none) hc b hj hi hg ht he hs I h fun C v He s1 hq back fp ⟨m,hm⟩ vv rv=>?_
 exact⟨m,hm,fun h9 k9=>⟨v,He,back h9 fun y ny=>k9.2 y ny,rv,hq⟩⟩⟩
def UseOk (X:Cx) (pins:List (Addr×PySem.Obj)) (σ:L2.St) (Q:VK) (u:Value->Sem Unit) (Rr:Shared->Prop):Prop:=
 ∀(C:Addr) (m:Str->Option Value) (s':Shared) (H':Hp) (v:V) (vv:Value),FpOk X pins H' C->s'.heap.Ns C m->Inv X pins σ H' s'->RelV v vv->Q v H'->
  wpAny (model X.prog X.w) X.A (u vv) (fun _ s2=>∃m,s2.heap.Ns C m/\∀h',Heap.SameBut C s2.heap h'->Rr {s2 with heap:=h'}) X.xe s'
structure QXU (X:Cx) (e:Expr) (f:FX):Prop where
 to:∀(pins:List (Addr×PySem.Obj)) (s:Shared) (σ:L2.St) (H:Hp) (Q:VK) (u:Value->Sem Unit) (Rr:Shared->Prop),Inv X pins σ H s->tX X f σ H Q->UseOk X pins σ Q u Rr->
  wpAny (model X.prog X.w) X.A (evalThenUse e X.env u) (fun _ s'=>Rr s') X.xe s
theorem a76 {M:Model}{A:Around}{E:Value->Shared->Prop}{s:Shared}{env:Env}{elt:Expr}{g:Comprehension}{gs:List Comprehension}{scope:Scope}{pos:Pos}{u:Value->Sem Unit}{Rr:Shared->Prop}
  (h:wpAny M A (comprehension (.ListComp elt (g::gs) scope pos) scope env (firstIterPos (g::gs) pos) (newList []) (firstAsync (g::gs)) (firstIter (g::gs) env) (some u)) (fun _ s'=>Rr s') E s):
  wpAny M A (evalThenUse (.ListComp elt (g::gs) scope pos) env u) (fun _ s'=>Rr s') E s:=by
 show wpAny M A (do let _ <-comprehension (.ListComp elt (g::gs) scope pos) scope env (firstIterPos (g::gs) pos) (newList []) (firstAsync (g::gs)) (firstIter (g::gs) env) (some u)) _ _ s
 exact zA (zZ h (fun _ s' hq=>zC hq) fun _ _ e=>e)
theorem K7 (hc:X.calm=true)(b:Blk X scope cl N js)(hi:QIB X li tg iter fi)(hg:∀s2 H2 fp C,QG (blk X scope cl s2 H2 fp C (N++[accN])) tg gf)(ht:∀s2 H2 fp C,Tst (blk X scope cl s2 H2 fp C (N++[accN])) ifs t)(he:∀s2 H2 fp C,QX (blk X scope cl s2 H2 fp C (N++[accN])) elt fe)
  (hj:liJ li js=true:=by rfl) (hs:∀x,foldedSetIterable iter X.env x=pure x:=by intro _;rfl):QXU X (.ListComp elt [⟨tg,iter,ifs,0⟩] scope pos) (fComp fi li js gf t fe):=⟨fun pins s σ H Q u Rr I h hU=>by
 refine a76 (a2s (use:=some u) hc b hj hi hg ht he hs I h fun C v He s1 hq back fp ⟨m,hm⟩ vv rv=>?_)
 exact hU C m s1 He v vv fp hm (back s1.heap fun y _=>rfl) rv hq⟩
end
theorem a5V {prog:Program}{w:World}{A:Around}(hh:A.handled=none){l I:Addr}{its:Array Value}(ne:l≠I):
  Walks prog w A I [I,l] [I] its.size (fun i v=>its[i]? =some v) (fun i h=>h.IsListIter I l i/\h.IsList l its) where
 sub:=fun b hb=>by rw[zN.mp hb];exact zM
 frame:=fun i h h' ⟨⟨o,e,r⟩,⟨o2,e2,r2⟩⟩ k=>⟨⟨o,k I zM o e,r⟩,⟨o2,k l (zL _ zM) o2 e2,r2⟩⟩
 item:=fun i s Q E hi ⟨h1,h2⟩ q=>wpAny_pyNext_list_item h1 h2 (x:=its[i]) (by simp[hi]) fun h' hit hs=>q its[i] h' s.toks (by simp[hi]) ⟨hit,h2.extBut hs.extBut ne⟩ fun b o hb e=>hs.extBut b o (fun z=>hb (by rw[z];exact zN.mpr rfl)) e
 done:=fun s Q E ⟨h1,h2⟩ q=>wpAny_pyNext_list_end hh h1 h2 (by simp) fun h' hx=>q h' s.toks fun b o hb e=>hx b o (fun z=>hb (by rw[z];exact zN.mpr rfl)) e
 self:=fun i s Q E ⟨h1,_⟩ q=>wpAny_pyIter_listiter h1 q
section
variable {X:Cx}{b c e:Expr}{p:Pos}{h:FX}{t u:FT}
theorem a5j:CallR X (.type "int") (fun xs H Q=>∃b,xs=[.bl b]/\Q (.int (if b then 1 else 0)) H):=by
 intro pins s σ H xs us Q I r h;obtain⟨b,rfl,q⟩:=h;obtain⟨u,rfl,rx⟩:=vals1 r;cases(show u=Value.bool b from rx);exact call_int_bool ⟨.int _,H,I.tok _,⟨_,rfl⟩,q⟩
theorem a2H (i:Int):∀ns:List Int,inV (.int i) (ns.map V.int)=decide (i∈ns)
 | []=>rfl
 | n::ns=>by
  have ih:=a2H i ns;unfold inV at ih ⊢;rw[zP,any_cons,ih];show((n==i)||_)=_
  by_cases h:n=i
  ·simp[h]
  ·have h':¬i=n:=fun z=>h z.symm;simp[h,h']
theorem a0W:∀ns:List Int,(ns.map V.int).all flatV=true
 | []=>rfl
 | n::ns=>by rw[zP,all_cons,a0W ns];rfl
theorem Y4:∀(ns:List Int),preSum (fun i=>ns.getD i 0) ns.length=ns.sum:=by
 have key:∀(ns:List Int) (k:Nat),k<=ns.length->preSum (fun i=>ns.getD i 0) k=(ns.take k).sum:=by
  intro ns k
  induction k with
  | zero=>intro _;simp[preSum]
  | succ k ih=>
   intro h;have h':k<ns.length:=by walk_at "o"
   rw[preSum,ih (by walk_at "o"),vC,xS h',List.sum_append]
   simp[yE,xS h']
 intro ns;rw[key ns ns.length (zD _),jY]
theorem a4r {ns:List Int}{its:List Value}(r:Vals (ns.map V.int) its){i:Nat}{v:Value}(e:its.toArray[i]? =some v):∃t,v= .int (ns.getD i 0) t:=by
 rw[List.getElem?_toArray] at e
 induction ns generalizing its i with
 | nil=>cases r;simp at e
 | cons n ns ih=>
  cases r with
  | cons r1 r2=>
   cases i with
   | zero=>simp at e;subst e;exact r1
   | succ i=>exact ih r2 (by simpa using e)
theorem X3 (hc:X.calm=true):CallR X (.builtin "sum") (fun xs H Q=>∃(p:Addr) (ns:List Int),xs=[.ref p]/\SqL X.K H p (ns.map V.int)/\Q (.int ns.sum) H):=by
 intro pins s σ H xs us Q I r h;obtain⟨p,ns,rfl,hq,q⟩:=h;obtain⟨u,rfl,ru⟩:=vals1 r;cases ru;obtain⟨its,rv,⟨o,m,h1,h2,_,h4⟩,hz⟩:=I.list hq;have hl:s.heap.IsList p its.toArray:=⟨o,h1,h2,m,h4⟩;have lt:p<s.heap.objs.size:=zW h1;refine call_sum_walkG (wpAny_pyIter_list hl ⟨s.heap.objs.size,_,_,_,_,_,fun i=>ns.getD i 0,rfl,a5V (show X.A.in1.handled=none from I.ok.hd hc) (zV lt),⟨⟨_,qA _ rfl,rfl,rfl⟩,hl.push _⟩,fun c hb=>?_,fun i v hv=>a4r rv hv,fun h' tk t' hk=>?_⟩)
 ·show c<(s.heap.push _).objs.size;rw[size_push];rcases zS.mp hb with rfl|hb
  ·exact Nat.lt_succ_self _
  ·rw[zN.mp hb];exact Nat.lt_succ_of_lt lt
 ·have I1:Inv X pins σ H {s with heap:=h',toks:=tk}:=I.kept (t':=tk) fun b ob e=>hk b ob (fun z=>absurd (zW e) (by rw[zN.mp z];exact jU _)) (zE _ e)
  refine⟨.int ns.sum,H,I1,⟨t',?_⟩,q⟩;have len:its.toArray.size=ns.length:=by rw[zT,<-rv.length,zB]
  rw[len,Y4]
end
def sortI (ns:List Int):List Int:=ns.mergeSort fun a b=>decide (a<=b)
theorem Z5 (ns:List Int):(sortI ns).Perm ns:=List.mergeSort_perm ns _
theorem a1I (ns:List Int):(sortI ns).Pairwise (·<=·):=by
 have z:=List.pairwise_mergeSort (le:=fun a b:Int=>decide (a<=b)) (fun a b c h1 h2=>by
  simp only[yG] at *;walk_at "o") (fun a b=>by
  simp only[Bool.or_eq_true,yG];walk_at "o") ns
 exact z.imp fun h=>by simpa using h
theorem S2:∀{its:List Value} {ns:List Int},IntsAre its ns->Vals (ns.map V.int) its
 | _,_,.nil=>.nil
 | _,_,.cons a t r=>.cons ⟨t,rfl⟩ (S2 r)
section
variable {X:Cx}{e:Expr}{p:Pos}
theorem a1R:CallR X (.builtin "sorted") (fun xs H Q=>∃(p:Addr) (ns:List Int),xs=[.ref p]/\SqL X.K H p (ns.map V.int)/\ns.length<64/\∀l,H l=none->Q (.ref l) (upd H l (.lst ((sortI ns).map V.int)))):=by
 intro pins s σ H xs us Q I r h;obtain⟨p,ns,rfl,hq,h64,q⟩:=h;obtain⟨u,rfl,ru⟩:=vals1 r;cases ru;refine Calls.call_function_entry kind_sorted plain_sorted entry_sorted (args_sorted1 _) ?_;unfold Builtin.«sorted»;refine zA (m:=checkCount "sorted" 1 1 _) (zC ?_);obtain⟨its,rv,⟨o,m,h1,h2,_,h4⟩,hz⟩:=I.list hq;have len:its.length=ns.length:=by rw[<-rv.length,zB]
 have hL:s.heap.IsList p its.toArray:=⟨o,h1,h2,m,h4⟩;have sz:its.length<=sizeLine:=by rw[len,xD];walk_at "o"
 refine zA (collect_list hL ?_ sz);refine zA (wpAny_newList ?_ sz);have I1:Inv X pins σ H {s with heap:=(s.heap.push (seqObj "list" #[] 0)).update s.heap.objs.size (PySem.Obj.mapSeq (· ++ its.toArray))}:=I.kept (t':=s.toks) fun b o e=>by
  rw[xC _ _ _ _ (zV (zW e))];exact zE _ e
 generalize hG:(s.heap.push (seqObj "list" #[] 0)).update s.heap.objs.size (PySem.Obj.mapSeq (· ++ its.toArray))=G at I1 ⊢;have ho:(G.push (seqObj "list" its.toArray 0)).get? G.objs.size=some (seqObj "list" its.toArray 0):=qA _ rfl;refine zA (qN ?_);refine qV PyProof.Rows.slot_list_sort ⟨_,ho,rfl⟩ PyProof.Rows.entry_list_sort (list_sort_tree (n:=0) (vs:=its) ho (E1 rv) (by walk_at "o") fun out ns' hI hp hP=>⟨.none,rfl,?_⟩) (PyProof.Rows.args_list_sort _)
 have es:ns'=sortI ns:=PySem.W.lks_uniq (hp.trans (Z5 ns).symm) hP (a1I ns);subst es;have g1:=yV ho (fun _=> #[]);have g2:=yV (zE (seqObj "list" #[] 0) (zE (seqObj "tuple" its.toArray 0) g1)) (fun _=>out);have kept:∀b o,G.get? b=some o->(sortedHeap (G.push (seqObj "list" its.toArray 0)) G.objs.size its out).get? b=some o:=fun b o e=>by
  have ne:b≠G.objs.size:=zV (zW e);unfold sortedHeap;rw[xC _ _ _ _ ne];refine zE _ (zE _ ?_);rw[xC _ _ _ _ ne];exact zE _ e
 refine zC ⟨_,rfl,.ref G.objs.size,_,I1.laid (t':=s.toks) (o:=.lst ((sortI ns).map V.int)) kept (zD _) ?_,rfl,q _ (I1.hok.fresh (zD _))⟩;obtain⟨ep,g3⟩:∃ep,(sortedHeap (G.push (seqObj "list" its.toArray 0)) G.objs.size its out).get? G.objs.size=some (seqObj "list" out.toList.toArray ep):=⟨_,by rw[Array.toArray_toList];exact g2⟩
 exact⟨by rw[zB,(Z5 ns).length_eq,xD];walk_at "o",out.toList,_,S2 hI,g3⟩
end
section
variable {prog:Program}{w:World}{A:Around}{E:Value->Shared->Prop}{s:Shared}
theorem a3z {t sl:Addr}{items:Array Value}{vl vu:Value}{lo hi:Option Int}{Q:Value->Shared->Prop}(ht:IsTup s.heap t items)(hs:s.heap.IsSliceOf sl vl vu .none)(pl:IsPart vl lo)(pu:IsPart vu hi)
  (hw:HT.sIx items.size 0 lo=0/\HT.sIx items.size items.size hi=items.size) (h:Q (.ref t) s):wpAny (model prog w) A (getItem (.ref t) (.ref sl)) Q E s:=by
 obtain⟨os,hos,hcs,hds⟩:=id hs;have hTs:s.TypeIs (.ref sl) "slice":=⟨os,hos,hcs⟩;unfold getItem
 try with_reducible refine qN ?_
 first|refine zA (zC ?_)|skip
 refine zA (wpAny_sequenceKey ht.typeIs (by decide) ?_)
 refine zA (qT (name:=Str.ofString "__getitem__") ht.typeIs jH
  (qV jH ht.typeIs entry_tuple_getitem ?_ (args_tuple_getitem _ _)))
 show wpAny _ _ (Builtin.Tuple.tupleItemsOf (.ref t) >>=_) _ _ s;refine zA (tupleItemsOf_ ht ?_);refine zA (wpAny_typeOf hTs ?_);rw[if_pos (by decide)]
 refine zA (HT.sliceApplied_gen hs pl pu ?_);show wpAny _ _ (if(((HT.sIx items.size 0 lo:Nat):Int)==0&&(1:Int)==1&&(HT.sIx items.size items.size hi-HT.sIx items.size 0 lo)==items.size)=true then _ else _) _ _ s;rw[if_pos (by rw[hw.1,hw.2];simp)]
 unfold Builtin.Tuple.tupleIsExact;refine zA (zA (wpAny_typeOf ht.typeIs (zC ?_)));rw[if_pos (by decide)]
 first
  | exact zA (jP (zC ⟨_,rfl,zC h⟩))
  | exact zA (jP (zA (zC (zC ⟨_,rfl,zC h⟩))))
end
section
variable {X:Cx}{a b e:Expr}{es:List Expr}{pos p:Pos}{f g h:FX}{t u:FT}{fa:FA}{x:Str}
def rSlF (K:PySem.W.Frag):V->Option Int->Option Int->Hp->VK->Prop:=fun x lo hi H Q=>∃a xs,x= .ref a/\SqT K H a xs/\(HT.sIx xs.length 0 lo=0/\HT.sIx xs.length xs.length hi=xs.length)/\Q (.ref a) H
theorem a8o:SlR X (rSlF X.K):=by
 intro pins s σ H x v vl vu lo hi sl Q I rx hs pl pu h;obtain⟨a,xs,rfl,hx,hw,q⟩:=h;cases rx;obtain⟨its,r,ht,hz⟩:=I.tuple hx;have hlen:its.toArray.size=xs.length:=by rw[zT];exact r.length.symm
 refine⟨"tuple",_,PyProof.Rows.slot_tuple_getitem.lookup,ht.typeIs,?_⟩;exact a3z ht hs pl pu (by rw[hlen];exact hw) ⟨.ref a,H,I,rfl,q⟩
theorem qx_b {id:String}{r:List V->Hp->VK->Prop}{k:List D->Option W}(hc:CallR X (.builtin id) r)(hk:PrA X k r)(hm:X.mg x=none)(ha:QA X (e::es) fa)(hv:bootBuiltins x=some (.builtin id):=by rfl)(hg:Gl X x:=by rfl)(hn:x≠"__name__":=by decide)(hdb:(x==("__debug__":Str))=false:=by decide)
  (he:starEach (e::es) X.env=(false,eval e X.env)::starEach es X.env:=by rfl) (hpl:(backTo pos (starEach es X.env)).any (·.1)=false:=by rfl):QX X (.Call (.Name x p) (e::es) [] pos) (fCall k fa):=a0v hc hk hv hm ha hg hn hdb he hpl
theorem qx_t {T:String}{r:List V->Hp->VK->Prop}{k:List D->Option W}(hc:CallR X (.type T) r)(hk:PrA X k r)(hm:X.mg x=none)(ha:QA X (e::es) fa)(hv:bootBuiltins x=some (.type T):=by rfl)(hg:Gl X x:=by rfl)(hn:x≠"__name__":=by decide)(hdb:(x==("__debug__":Str))=false:=by decide)
  (he:starEach (e::es) X.env=(false,eval e X.env)::starEach es X.env:=by rfl) (hpl:(backTo pos (starEach es X.env)).any (·.1)=false:=by rfl):QX X (.Call (.Name x p) (e::es) [] pos) (fCall k fa):=a2n hc hk hv hm ha hg hn hdb he hpl
def k1 (g:D->Option W):List D->Option W
 | [d]=>g d
 | _=>none
theorem pr1 {g:D->Option W}{r:List V->Hp->VK->Prop}(h:∀(A:Av) (d:D) (w:W) (v:V) (H:Hp) (Q:VK),g d=some w->DenR X.K A H d v->(∀z H',Same H H'->DenW X.K A [] H H' w z->Q z H')->r [v] H Q):PrA X (k1 g) r:=fun A ds w vs H Q _ e l q=>by
 unfold k1 at e;split at e
 ·obtain⟨v,rfl,h1⟩:=denRL1 l;exact h A _ w v H Q e h1 q
 ·cases e
def k2 (g:Int->Int->D):List D->Option W
 | [.int i,.int j]=>some (.v (g i j))
 | _=>none
theorem pr2 {g:Int->Int->Int}{r:List V->Hp->VK->Prop}(h:∀i j (H:Hp) (Q:VK),Q (.int (g i j)) H->r [.int i,.int j] H Q):PrA X (k2 fun i j=>.int (g i j)) r:=fun A ds w vs H Q _ e l q=>by
 unfold k2 at e;split at e
 ·rename_i i j;cases e;obtain⟨v,v',rfl,h1,h2⟩:=denRL2 l;rw[k8 h1,k8 h2];exact h i j H Q (q _ H (Same.refl H) A1)
 ·cases e
def gLen (d:D):Option W:=(items d).map fun xs=>.v (.int xs.length)
theorem a6e:PrA X (k1 gLen) (fun xs H Q=>∃p ys,xs=[.ref p]/\(SqL X.K H p ys\/SqT X.K H p ys)/\Q (.int ys.length) H):=pr1 fun A d w v H Q e h q=>by
 unfold gLen at e;obtain⟨xs,e1,e⟩:=oms e;cases e;obtain⟨a,ws,rfl,hq,lw⟩:=D7 e1 h;exact⟨a,ws,rfl,hq,by rw[<-b9 lw];exact q _ H (Same.refl H) A1⟩
def gAbs:D->Option W
 | .int i=>some (.v (.int (if i<0 then -i else i)))
 | _=>none
abbrev gMax:=k2 fun i j=>.int (if j>i then j else i)
abbrev gMin:=k2 fun i j=>.int (if j<i then j else i)
theorem a3F:PrA X gMax (fun xs H Q=>∃i j,xs=[.int i,.int j]/\Q (.int (if j>i then j else i)) H):=pr2 fun i j H Q q=>⟨i,j,rfl,q⟩
theorem a0E:PrA X gMin (fun xs H Q=>∃i j,xs=[.int i,.int j]/\Q (.int (if j<i then j else i)) H):=pr2 fun i j H Q q=>⟨i,j,rfl,q⟩
def gInt:D->Option W
 | .bl b=>some (.v (.int (if b then 1 else 0)))
 | _=>none
theorem b1n:PrA X (k1 gInt) (fun xs H Q=>∃b,xs=[.bl b]/\Q (.int (if b then 1 else 0)) H):=pr1 fun A d w v H Q e h q=>by
 cases d<;>simp only[gInt] at e<;>cases e
 exact⟨_,by rw[a4A h],q _ H (Same.refl H) A1⟩
def gTuple (d:D):Option W:=(items d).map fun xs=>.v (.tup xs)
theorem a0p:PrA X (k1 gTuple) (fun xs H Q=>∃p ys,xs=[.ref p]/\((SqL X.K H p ys/\∀l,H l=none->Q (.ref l) (upd H l (.tup ys)))\/(SqT X.K H p ys/\Q (.ref p) H))):=pr1 fun A d w v H Q e h q=>by
 cases d<;>simp only[gTuple,items,Option.map_none] at e<;>first|cases e|skip
 ·rename_i xs;obtain⟨a,vs,rfl,hq,l⟩:=B6 h;exact⟨a,vs,rfl,.inr ⟨hq,q _ H (Same.refl H) h⟩⟩
 ·rename_i xs;obtain⟨a,vs,rfl,hq,l⟩:=h;exact⟨a,vs,rfl,.inl ⟨hq,fun l' hl=>q _ _ (j7 hl _) (M0 hl l)⟩⟩
def gList (d:D):Option W:=(items d).map fun xs=>.o (.lst xs)
theorem a80:PrA X (k1 gList) (fun xs H Q=>∃p ys,xs=[.ref p]/\(SqL X.K H p ys\/SqT X.K H p ys)/\∀l,H l=none->Q (.ref l) (upd H l (.lst ys))):=pr1 fun A d w v H Q e h q=>by
 unfold gList at e;obtain⟨xs,e1,e⟩:=oms e;cases e;obtain⟨a,ws,rfl,hq,lw⟩:=D7 e1 h;exact⟨a,ws,rfl,hq,fun l hl=>q _ _ (j7 hl _) (A5 hl lw)⟩
def intsOf:List D->Option (List Int)
 | []=>some []
 | .int i::ds=>(intsOf ds).map fun is=>i::is
 | _=>none
theorem u7:∀{ds:List D} {is:List Int},intsOf ds=some is->ds=is.map D.int
 | [],is,e=>by cases e;rfl
 | .int i::ds,is,e=>by
  rw[intsOf] at e;cases e1:intsOf ds with
  | none=>rw[e1] at e;cases e
  | some js=>rw[e1] at e;cases e;rw[zP,<-u7 e1]
 | .non::ds,is,e=>by cases e
 | .bl _::ds,is,e=>by cases e
 | .str _::ds,is,e=>by cases e
 | .tup _::ds,is,e=>by cases e
 | .lst _::ds,is,e=>by cases e
 | .dT _ _::ds,is,e=>by cases e
 | .dK _ _::ds,is,e=>by cases e
 | .exn _::ds,is,e=>by cases e
 | .fn _::ds,is,e=>by cases e
theorem m8:∀is:List Int,intsOf (is.map D.int)=some is
 | []=>rfl
 | i::is=>by rw[zP,intsOf,m8 is];rfl
theorem n5 {K:PySem.W.Frag}{A:Av}{H:Hp}:∀{is:List Int} {vs:List V},DenL K A H (is.map D.int) vs->vs=is.map V.int
 | [],vs,l=>by rw[yL,DenL] at l;exact l
 | i::is,vs,l=>by
  rw[zP,DenL] at l;obtain⟨v,r,rfl,h,l⟩:=l;rw[w9.mp h,n5 l];rfl
theorem G5 {K:PySem.W.Frag}{A:Av}{H:Hp}:∀ns:List Int,DenL K A H (ns.map D.int) (ns.map V.int)
 | []=>by rw[yL,yL];exact j6
 | n::ns=>by rw[zP,zP];exact j4 (by rw[Den]) (G5 ns)
def boolsOf:List D->Option (List Bool)
 | []=>some []
 | .bl i::ds=>(boolsOf ds).map fun is=>i::is
 | _=>none
def gSortI:D->Option W
 | .lst xs=>(intsOf xs).bind fun ns=>if ns.length<64 then some (.o (.lst ((sortI ns).map D.int))) else none
 | _=>none
theorem a7c:PrA X (k1 gSortI) (fun xs H Q=>∃(p:Addr) (ns:List Int),xs=[.ref p]/\SqL X.K H p (ns.map V.int)/\ns.length<64/\∀l,H l=none->Q (.ref l) (upd H l (.lst ((sortI ns).map V.int)))):=pr1 fun A d w v H Q e h q=>by
 cases d with
 | lst xs=>
  simp only[gSortI] at e;cases e1:intsOf xs with
  | none=>rw[e1] at e;cases e
  | some bs=>
   rw[e1] at e;simp only[bind_some] at e;split at e
   ·rename_i hl;cases e;obtain⟨a,vs,rfl,hq,l⟩:=h;rw[u7 e1] at l;rw[n5 l] at hq;exact⟨a,bs,rfl,hq,hl,fun l hl=>q _ _ (j7 hl _) (A5 hl (G5 _))⟩
   ·cases e
 | _=>cases e
def oLtT:D->D->Option W
 | .int i,.int j=>some (.v (.bl (decide (i<j))))
 | .tup xs,.tup ys=>(intsOf xs).bind fun ns=>(intsOf ys).map fun ms=>.v (.bl (HT.lexLt ns ms))
 | _,_=>none
theorem kLtT:Pr2 X oLtT (fun v u H Q=>rI0 (fun i j=>.bl (decide (i<j))) v u H Q\/rLtT X.K v u H Q):=by
 intro A x y w v u H Q _ e hx hy q;unfold oLtT at e;split at e
 ·cases e;exact .inl ⟨_,_,k8 hx,k8 hy,q _ H (Same.refl H) D4⟩
 ·rename_i xs ys;cases e1:intsOf xs with
  | none=>rw[e1] at e;cases e
  | some ns=>
   cases e2:intsOf ys with
   | none=>rw[e1,e2] at e;cases e
   | some ms=>
    rw[e1,e2] at e;cases e;obtain⟨a,vs,rfl,h1,l1⟩:=B6 hx;obtain⟨b,us,rfl,h2,l2⟩:=B6 hy;rw[u7 e1] at l1;rw[u7 e2] at l2;rw[n5 l1] at h1;rw[n5 l2] at h2;exact .inr ⟨a,b,ns,ms,rfl,rfl,h1,h2,q _ H (Same.refl H) D4⟩
 ·cases e
theorem b1q {k:Nat}(hr:Room k X.A)(ha:QX X a f)(hb:QX X b g):QT X (.Compare a [.Lt] [b] pos) (fTest (fBin oLtT f g)):=P9 (op_lt.or (b1o (by have:=hr.units;walk_at "o"))) kLtT ha hb
def oInI (neg:Bool) (x y:D):Option W:=match x with
 | .int i=>(items y).bind fun ys=>(intsOf ys).map fun ns=>.v (.bl (if neg then !decide (i∈ns) else decide (i∈ns)))
 | _=>none
theorem kInI {neg:Bool}:Pr2 X (oInI neg) (rIn X.K neg):=by
 intro A x y w v u H Q _ e hx hy q;cases x with
 | int i=>
  simp only[oInI] at e;cases e1:items y with
  | none=>rw[e1] at e;cases e
  | some ys=>
   rw[e1] at e;simp only[bind_some] at e;obtain⟨ns,e2,e⟩:=oms e;cases e;obtain⟨p,vs,rfl,hq,l⟩:=D7 e1 hy;rw[u7 e2] at l;rw[n5 l] at hq;rw[k8 hx];exact⟨p,ns.map V.int,rfl,hq,rfl,a0W ns,by rw[a2H];exact q _ H (Same.refl H) D4⟩
 | _=>cases e
def fChain (o o':D->D->Option W) (f g h:FX):FX:=fun ρ=>(f ρ).bind fun p=>(g p.2).bind fun q=>(dr q.2 p.1.fz).bind fun x=>(dr q.2 q.1.fz).bind fun y=>(o x y).bind fun d=>match d with
 | .v (.bl k)=>if k=true then(h q.2).bind fun z=>(dr z.2 q.1.fz).bind fun y=>(dr z.2 z.1.fz).bind fun z'=>(o' y z').map fun w=>(w,z.2) else some (.v (.bl false),q.2)
 | _=>none
abbrev FO:=Ev->Option (Option Int×Ev)
def tO (X:Cx) (f:FO):TO:=fun σ H Q=>∃P O L ρ o ρ',Rep X P O L ρ σ H/\f ρ=some (o,ρ')/\∀H',Rep X P O L ρ' σ H'->Q o H'
theorem tOe {X:Cx}{f:FO}{σ:L2.St}{H:Hp}{Q:Option Int->Hp->Prop}{C:Prop}(h:tO X f σ H Q)(k:∀P O L ρ o ρ',Rep X P O L ρ σ H->f ρ=some (o,ρ')->(∀H',Rep X P O L ρ' σ H'->Q o H')->C):C:=by
 obtain⟨P,O,L,ρ,w,ρ',r,e,q⟩:=h;exact k P O L ρ w ρ' r e q
structure QO (X:Cx) (e:Option Expr) (f:FO):Prop where
 to:PO X e (tO X f)
theorem PO.weak {X:Cx}{e:Option Expr}{t u:TO}(h:PO X e t)(w:∀σ H Q,u σ H Q->t σ H Q):PO X e u:=fun pins s σ H Q I q=>h pins s σ H Q I (w σ H Q q)
def fO0:FO:=fun ρ=>some (none,ρ)
def fO1 (f:FX):FO:=fun ρ=>(f ρ).bind fun p=>match p.1 with|.v (.int i)=>some (some i,p.2)|_=>none
theorem a1M:QO X none fO0:=⟨PO.weak a84 fun σ H Q h0=>tOe h0 fun P O L ρ o ρ' r e q=>by cases e;exact q H r⟩
theorem a1S (ha:QX X e f):QO X (some e) (fO1 f):=⟨PO.weak (a8l ha.to) fun σ H Q h0=>tOe h0 fun P O L ρ o ρ' r e q=>by
 unfold fO1 at e;obtain⟨⟨w,ρ1⟩,e1,e⟩:=obs e;dsimp only at e;split at e
 ·rename_i i;cases e;refine⟨P,O,L,ρ,_,_,r,e1,fun v H1 H' r1 s1 d1=>⟨i,?_,q H' (r1.grow s1)⟩⟩;have d1:Den X.K (AvO O ρ' σ) H' (.int i) v:=d1;exact w9.mp d1
 ·cases e⟩
def cutD (xs:List D) (lo hi:Option Int):List D:=(xs.drop (HT.sIx xs.length 0 lo)).take (HT.sIx xs.length xs.length hi-HT.sIx xs.length 0 lo)
theorem a2v {K:PySem.W.Frag}{A:Av}{H:Hp}{xs:List D}{vs:List V}(lo hi:Option Int)(l:DenL K A H xs vs):DenL K A H (cutD xs lo hi) (cutV vs lo hi):=by
 unfold cutD cutV;rw[b9 l];exact a1k _ (a1n _ l)
def slD (x:D) (lo hi:Option Int):Option W:=match x with
 | .tup xs=>some (.v (.tup (cutD xs lo hi)))
 | .lst xs=>some (.o (.lst (cutD xs lo hi)))
 | _=>none
def fSl (f:FX) (lo hi:FO):FX:=fun ρ=>(f ρ).bind fun p=>(lo p.2).bind fun l=>(hi l.2).bind fun u=>(dr u.2 p.1.fz).bind fun x=>(slD x l.1 u.1).map fun w=>(w,u.2)
theorem Z3 {lo hi:Option Expr}{fl fu:FO}{p2:Pos}(ha:QX X a f)(hl:QO X lo fl)(hu:QO X hi fu):QX X (.Subscript a (.Slice lo hi none p2) pos) (fSl f fl fu):=⟨PE.weak (a62 ((a8u.or b0W).or a8o) ha.to hl.to hu.to) fun σ H Q h0=>tXe h0 fun P O L ρ w ρ' r e q=>by
 unfold fSl at e;obtain⟨⟨w1,ρ1⟩,e1,e⟩:=obs e;dsimp only at e;obtain⟨⟨l,ρ2⟩,e2,e⟩:=obs e;dsimp only at e;obtain⟨⟨u,ρ3⟩,e3,e⟩:=obs e;dsimp only at e;refine⟨P,O,L,ρ,w1,ρ1,r,e1,fun v H1 H1' r1 s1 d1=>?_⟩;obtain⟨P',r1',k1⟩:=hold (r1.grow s1) (d1.fz r1 s1);refine⟨P',O,L,ρ1,l,ρ2,r1',e2,fun H2 r2=>⟨P',O,L,ρ2,u,ρ3,r2,e3,fun H3 r3=>?_⟩⟩;obtain⟨r4,d4⟩:=k1 ρ3 H3 r3;cases e4:dr ρ3 w1.fz with
 | none=>rw[e4] at e;cases e
 | some x=>
  rw[e4] at e;simp only[bind_some] at e;have dx:=I0 r4 e4 d4;cases x with
  | tup xs=>
   cases e;obtain⟨a,vs,ev,hq,la⟩:=B6 dx
   by_cases hn:HT.sIx xs.length 0 l=0/\HT.sIx xs.length xs.length u=xs.length
   ·refine .inr ⟨a,vs,ev,hq,by rw[<-b9 la];exact hn,q _ H3 H3 r4 (Same.refl _) ?_⟩
    have ec:cutD xs l u=xs:=by
     unfold cutD;rw[hn.1,hn.2,yS,Nat.sub_zero,jY]
    rw[ec,<-ev];exact dx
   ·exact .inl (.inr ⟨a,vs,ev,hq,by rw[<-b9 la];exact hn,fun p hp=>q _ H3 _ r4 (j7 hp _) (M0 hp (a2v l u la))⟩)
  | lst xs=>
   cases e;obtain⟨a,vs,ev,hq,la⟩:=dx;exact .inl (.inl ⟨a,vs,ev,hq,fun p hp=>q _ H3 _ r4 (j7 hp _) (A5 hp (a2v l u la))⟩)
  | _=>cases e⟩
end
section
variable {X:Cx}{a b e o:Expr}{es:List Expr}{pos p apos:Pos}{f h:FX}{fa:FA}{x:Str}
theorem T0 (i:Nat){pos':Pos}(hN:X.N.Nodup)(ha:QXU X e f)(hi:X.N[i]? =some x:=by rfl)(hx:Loc X.env.scope x:=by first|exact Or.inl rfl|exact Or.inr rfl)(hs:swapsWith e (some (.Name x pos')) pos.line X.env=pure true:=by rfl)(hf:X.fn x=true\/X.env.scope.names.lookup x=some .local:=by first|exact .inl rfl|exact .inr rfl):
  QS X (.Assign [.Name x pos'] e pos) (fAsg i f):=⟨fun pins s σ H E I h0=>tSe h0 fun P O L ρ r rp e0 q=>by
 unfold fAsg at e0;obtain⟨⟨w,ρ1⟩,e1,e0⟩:=obs e0;dsimp only at e0;obtain⟨ρ2,e2,e0⟩:=oms e0;cases e0;rw[exec_Assign_Name_used _ _ _ _ hs];refine zA (wpAny_standAt (zA (zZ (ha.to pins s σ H (fun v H'=>∃H1,Rep X P O L ρ1 σ H1/\Same H1 H'/\DenW X.K (AvO O ρ1 σ) σ H1 H' w v) (assign (.Name x pos') X.env) (fun s'=>SP X pins E .next s') I ⟨P,O,L,ρ,w,ρ1,rp,e1,fun v H1 H' r1 s1 d1=>⟨H1,r1,s1,d1⟩⟩ ?_) (fun _ s' h=>zC h) fun _ _ z=>z)));intro C m s' H' v vv fp hn I' rv ⟨H1,r1,sm,dv⟩;obtain⟨o,es,ep,ho,hd,hk⟩:=hn;obtain⟨f0,f1,f2,f3,f4,f5⟩:=fp;have I2:Inv X (pins++[(C,o)]) σ H' s':=I'.pins_of fun p hp=>(qE.mp hp).elim (fun z=>I'.pin p (qQ _ z)) fun z=>by
  rw[zN.mp z];exact⟨ho,f0,f1,f2,fun w z=>by rw[hd] at z;cases z⟩
 refine zZ (a5b hN hi hx hf (pins++[(C,o)]) s' σ H' v vv (fun σ2 H2=>σ2=σ.set i (some v)/\H2=H') I2 rv ⟨rfl,rfl⟩) (fun _ s2 ⟨σ2,H2,I3,e2',e3⟩=>?_) fun _ _ z=>z;subst e2' e3;have pc:=I3.pin (C,o) (qQ _ (qQ _ (zN.mpr rfl)));refine⟨m,⟨o,es,ep,pc.1,hd,hk⟩,fun h' hs'=>?_⟩
 exact⟨_,_,(I3.unpinned).turned (t':=s2.toks) (it:=C) (fun b o' hb eb=>(hs'.2 b hb).trans eb) f0 f1 f3 f4 f5,q _ _ (a3N r1 sm dv e2)⟩⟩
def isLst:Option D->Bool
 | some (.lst _)=>true
 | _=>false
def fMut (op:List D->List D->Option (W×List D)) (f:FX) (fa:FA):FX:=fun ρ=>(f ρ).bind fun p=>match p.1 with
 | .r i=>if isLst (ownAt p.2 i)=true then(fa p.2).bind fun q=>(takeAll q.2 q.1).bind fun z=>match ownAt z.2 i with
  | some (.lst xs)=>(op xs z.1).map fun y=>(y.1,setOwn z.2 i (.lst y.2))
  | _=>none
  else none
 | _=>none
def PrM (X:Cx) (op:List D->List D->Option (W×List D)) (r:V->List V->Hp->VK->Prop):Prop:=∀(A:Av) (a:Addr) (xs ds:List D) (w:W) (ys:List D) (us vs:List V) (H:Hp) (Q:VK),H a=some (.lst us)->DenL X.K A H xs us->DenL X.K A H ds vs->op xs ds=some (w,ys)->
 (∀z ws,DenL X.K A H ys ws->DenW X.K A [] H H w z->Q z (upd H a (.lst ws)))->(w= .v .non\/∃d,w= .v d)->r (.ref a) vs H Q
theorem a0s {op:List D->List D->Option (W×List D)}{r:V->List V->Hp->VK->Prop}(hk:PrM X op r)(hw:∀xs ds w ys,op xs ds=some (w,ys)->∃d,w= .v d):∀σ H Q,tX X (fMut op f fa) σ H Q->tBM X.K "list" r (tX X f) (tA X fa) σ H Q:=fun σ H Q h0=>tXe h0 fun P O L ρ w ρ' rp e q=>by
 unfold fMut at e;obtain⟨⟨w1,ρ1⟩,e1,e⟩:=obs e;dsimp only at e;split at e
 ·rename_i i;split at e
  ·rename_i hl;refine⟨P,O,L,ρ,_,ρ1,rp,e1,fun v H1 H1' r1 s1 d1=>?_⟩;have d1:σ[i]? =some (some v):=d1;have r1':=r1.grow s1;refine⟨?_,?_⟩
   ·unfold isLst at hl;split at hl
    ·rename_i xs e2;obtain⟨w0,q0,ow⟩:=o9 e2;obtain⟨a,h1,vs,h2,_⟩:=r1'.obj q0 ow;rw[d1] at h1;cases h1;exact .inl ⟨rfl,vs,.inl (.inl h2)⟩
    ·cases hl
   ·obtain⟨⟨ws,ρ2⟩,e3,e⟩:=obs e;dsimp only at e;obtain⟨⟨ds,ρ3⟩,e4,e⟩:=obs e;dsimp only at e;split at e
    ·rename_i xs e5;obtain⟨⟨wy,ys⟩,e6,e⟩:=oms e;cases e;refine⟨P,O,L,ρ1,ws,ρ2,r1',e3,fun vs H2 r2 l2=>?_⟩;obtain⟨r3,l3,_⟩:=o4 r2 e4 l2;obtain⟨w0,q0,ow⟩:=o9 e5;obtain⟨a,h1,us,h2,l⟩:=r3.obj q0 ow;rw[d1] at h1;cases h1;refine hk _ a xs ds _ ys us vs H2 Q h2 l l3 e6 (fun z wz lz dz=>?_) (.inr (hw _ _ _ _ e6));have g0:Go (AvO O ρ3 σ) (AvO O ρ3 σ) (fun b=>b=a) H2 (upd H2 a (.lst wz)):=⟨fun b o eb nb=>by rw[g9 nb];exact eb,fun b z=>by rw[z];exact⟨.inr ⟨i,w0,_,q0,ow,d1⟩,_,h2,trivial⟩,fun b z=>.inl z⟩
     have r4:Rep X P O L (setOwn ρ3 i (.lst ys)) σ (upd H2 a (.lst wz)):=r3.mut (d:=.lst ys) e5 d1 (fun b o eb nb=>by rw[g9 nb];exact eb) ⟨wz,m6,q9 g0 _ _ lz⟩
     refine q z _ _ r4 (Same.refl _) ?_;obtain⟨d,rfl⟩:=hw _ _ _ _ e6;have av:∀b,AvO O (setOwn ρ3 i (.lst ys)) σ b->AvO O ρ3 σ b:=fun b z=>z.imp id fun z=>(N4 e5 b).mp z;exact p0 (w4 av) _ _ (p0 g0 _ _ dz)
    ·cases e
  ·cases e
 ·cases e
def mApp (xs ds:List D):Option (W×List D):=match ds with
 | [d]=>if xs.length<lim then some (.v .non,xs++[d]) else none
 | _=>none
theorem a5u:PrM X mApp rAppend:=fun A a xs ds w ys us vs H Q h l l' e q _=>by
 unfold mApp at e;split at e
 ·split at e
  ·rename_i d hl;cases e;obtain⟨v,rfl,hv⟩:=denL1 l';exact⟨a,us,v,rfl,rfl,h,by rw[<-b9 l];exact zJ hl u5,q _ _ (v3 l (j4 hv j6)) K5⟩
  ·cases e
 ·cases e
theorem b01:∀xs ds w ys,mApp xs ds=some (w,ys)->∃d,w= .v d:=fun xs ds w ys e=>by
 unfold mApp at e;split at e
 ·split at e
  ·cases e;exact⟨_,rfl⟩
  ·cases e
 ·cases e
theorem X1 (ho:QX X o f)(ha:QA X (e::es) fa)(hbase:attributeBase o "append" X.env (eval o X.env)=eval o X.env:=by rfl)
  (hfew:((backTo pos (starEach (e::es) X.env)).all (fun x=>!x.1)&&(backToKw pos (keywordEach [] X.env)).all (fun x=>x.1.isSome)&&decide ((e::es).length+([]:List Keyword).length+(if([]:List Keyword).isEmpty then 0 else 1)<30))=true:=by rfl)
  (hline:(apos.endLine==pos.line)=true:=by rfl) (hs:starEach (e::es) X.env=(false,eval e X.env)::starEach es X.env:=by rfl) (hpl:(backTo pos (starEach es X.env)).any (·.1)=false:=by rfl):QX X (.Call (.Attribute o "append" apos) (e::es) [] pos) (fMut mApp f fa):=
 ⟨PE.weak (a7T PySem.F.plainAttrs_list PySem.F.slot_list_append PySem.F.type_list_append a0V ho.to ha.to hbase hfew hline hs hpl) (a0s a5u b01)⟩
end
section
variable {P:Program}{w:World}{K:PySem.W.Frag}{mg:Str->Option Value}{base:Heap}
def spLaw (K:PySem.W.Frag):Sp:=fun vs H Q _=>∃(a:Addr) (ns:List Int),vs=[.ref a]/\((∃o,H a=some (.frz o (.lst (ns.map V.int))))\/SqL K (fun _=>none) a (ns.map V.int))/\ns.length<=63/\∀H',Q (.bl true) H'
theorem b1A {st:Stmt}{f:Addr}{fd:FuncData}{N ps:List Str}{k np n:Nat}{G:FS}(F:Fun K "law" "law" st f fd)(S:FnScope N ps (defScope st))(hp:ps.length=np)(hn:N.length=n)
  (body:∀(cdv:Value) (A:Around) (outer:List Env) (s:Shared) (H:Hp) (E:XK),Room k (A.deeper (envOfC "law" (defScope st) s.heap.objs.size f cdv))->
   QSs (cxOf CX0 P w K mg base N "law" (defScope st) f cdv A outer s H E).nox (defBody st) G)
  (h:∀ns:List Int,ns.length<=63->runD np n G [.lst (ns.map D.int)]=some (.v (.bl true))):FnOk P w K mg base CX0 (k+1) f fd ps (spLaw K):=by
 have den:∀(H:Hp) (a:Addr) (ns:List Int),((∃o,H a=some (.frz o (.lst (ns.map V.int))))\/SqL K (fun _=>none) a (ns.map V.int))->DenL K (fun _=>False) H [.lst (ns.map D.int)] [.ref a]:=fun H a ns hq=>by
  refine j4 ?_ j6;rw[Den];exact⟨a,_,rfl,.inr hq,G5 ns⟩
 refine F.ok S (fun vs H Q E ⟨a,ns,ev,hq,hl,q⟩=>?_) (fun cdv A outer s H vs Q E hr ⟨a,ns,ev,hq,hl,q⟩=>⟨_,(body cdv A outer s H E hr).to,?_⟩)
 ·have e:=h ns hl;unfold runD at e;split at e
  ·rename_i hl';rw[ev,hp,<-hl'];rfl
  ·cases e
 ·have e:=h ns hl;unfold runD at e;split at e
  ·rename_i hl';cases e1:G (start0 n [.lst (ns.map D.int)]) with
   | none=>rw[e1] at e;cases e
   | some r=>
    rw[e1] at e;refine⟨[],fun _=>False,[],_,r,a1g rfl hn (fun b z=>z.elim) (by rw[ev];exact den H a ns hq),e1,?_⟩
    cases r with
    | rt d' ρ'=>cases e;exact fun v H' s' _ d1=>by rw[a0w d1];exact q H'
    | nx ρ'=>cases e
    | bk ρ'=>cases e
    | ct ρ'=>cases e
  ·cases e
theorem walk {l:PySem.W.OpenLaw}{q:Program}{loose:List Str}{XP:(Str->Option Value)->Heap->Prop}{YP:World->Heap->Prop}{d:DefRec}{K:Params->PySem.W.Frag}(hn:l.most=some 63)(hdf:d.params.defaults=[])
  (hY:∀(w:World) (h:Heap),YP w h->(K w.params).In h)
  (F:∀(w:World) (mg:Str->Option Value) (fa:Addr) (h:Heap),(K w.params).In h->h.Ns mainGlobals mg->mg d.name=some (.ref fa)->
   ∃fd:FuncData,(∀(s:Shared) (u:Value),BindsTo s fd ⟨[u],[]⟩ [("script",u)])/\∀base:Heap,(K w.params).In base->base.Ns mainGlobals mg->FnOk l.prog w (K w.params) mg base CX0 60 fa fd ["script"] (spLaw (K w.params))):
  PySem.W.WalkO q loose XP YP l.row.toRowW d [] (fun f vs=>PySem.call f vs):=
 L2.a8i (n:=63) (k:=60) (x:="script") (CX:=fun _=>CX0) (sp:=fun w=>spLaw (K w.params)) hn (by decide) hdf ⟨rfl,by decide,by decide,rfl⟩ hY F (fun _ H a ns hl hO hS=>⟨a,ns,rfl,(by
  rcases hS with (hS|⟨o,hS⟩)|hS
  ·rcases hO a with z|⟨o,ys,z⟩
   ·rw[z] at hS;cases hS
   ·rw[z] at hS;cases hS
  ·exact .inl ⟨o,hS⟩
  ·exact .inr (.inr hS)),hl,fun _=>rfl⟩) fun _ _ _ _ _ z=>z
end
end Z
set_option maxHeartbeats 1000000
set_option exponentiation.threshold 100000
namespace Z
open PySem L2
theorem a99 {d:D}:lfW (.v d)=lf d:=rfl
theorem b0h {d:D}:lfW (.o d)=lfC d:=rfl
theorem a4X {xs:List D}:lfC (.lst xs)=lfL xs:=rfl
theorem a8b {ks:List (List Key)}{xs:List D}:lfC (.dT ks xs)=lfL xs:=rfl
theorem lfC_dK {ks:List Key}{xs:List D}:lfC (.dK ks xs)=lfL xs:=rfl
def freeO:Option W->Bool
 | some (.l _)=>false
 | _=>true
theorem a0q:freeO none=true:=rfl
theorem a4x {d:D}:freeO (some (.v d))=true:=rfl
theorem a4L {d:D}:freeO (some (.o d))=true:=rfl
theorem freeO_l {d:D}:freeO (some (.l d))=false:=rfl
theorem free_nil {n:Nat}:freeSlot [] n=true:=rfl
theorem a7n {x:Option W}{ρ:Ev}:freeSlot (x::ρ) 0=freeO x:=by
 unfold freeSlot freeO;rw[yO];cases x with
 | none=>rfl
 | some w=>cases w<;>rfl
theorem a7E {x:Option W}{ρ:Ev}{n:Nat}:freeSlot (x::ρ) (n+1)=freeSlot ρ n:=by
 unfold freeSlot;rw[jK]
theorem a1h {xs:List D}:isLst (some (.lst xs))=true:=rfl
theorem liB_none {ρ:Ev}:liB none ρ=true:=rfl
theorem liB_some {i j:Nat}{ρ:Ev}:liB (some (i,j)) ρ=(ownAt ρ j).isSome:=rfl
theorem own_nil {n:Nat}:ownAt [] n=none:=rfl
theorem a89 {w:W}{ρ:Ev}:ownAt (some w::ρ) 0=w.own:=rfl
theorem own_n {ρ:Ev}:ownAt (none::ρ) 0=none:=rfl
theorem a9A {x:Option W}{ρ:Ev}{n:Nat}:ownAt (x::ρ) (n+1)=ownAt ρ n:=by
 unfold ownAt;rw[jK]
theorem a6g {c d:D}{ρ:Ev}:setOwn (some (.l c)::ρ) 0 d=some (.l d)::ρ:=rfl
theorem a6B {c d:D}{ρ:Ev}:setOwn (some (.o c)::ρ) 0 d=some (.o d)::ρ:=rfl
theorem a7x {x:Option W}{ρ:Ev}{n:Nat}{d:D}:setOwn (x::ρ) (n+1) d=x::setOwn ρ n d:=by
 unfold setOwn;rw[jK]
 split<;>rename_i h<;>simp[h]
theorem frz_nil {n:Nat}:frzAt [] n=none:=rfl
theorem b0r {d:D}{ρ:Ev}:frzAt (some (.o d)::ρ) 0=some (some (.v d)::ρ):=rfl
theorem frz_v {d:D}{ρ:Ev}:frzAt (some (.v d)::ρ) 0=some (some (.v d)::ρ):=rfl
theorem a9s {x:Option W}{ρ:Ev}{n:Nat}:frzAt (x::ρ) (n+1)=(frzAt ρ n).map fun ρ'=>x::ρ':=by
 unfold frzAt;rw[jK]
 split<;>rename_i h<;>simp[h]
abbrev acc (zs:List D):Ev:=[some (.l (.lst zs))]
theorem a3d {B:Ev}{zs:List D}{k:Nat}(h:B.length=k):ownAt (B++acc zs) k=some (.lst zs):=by
 unfold ownAt;rw[qI (by walk_at "o"),h,jR];rfl
theorem a8t {B:Ev}{zs ys:List D}{k:Nat}(h:B.length=k):setOwn (B++acc zs) k (.lst ys)=B++acc ys:=by
 unfold setOwn;have e:(B++acc zs)[k]? =some (some (.l (.lst zs))):=by rw[qI (by walk_at "o"),h,jR];rfl
 rw[e];simp only;rw[List.set_append_right _ _ (by walk_at "o"),h,jR];rfl
theorem app_v {B:Ev}{zs:List D}{k:Nat}{w:W}{d:D}(h:B.length=k)(hw:w= .v d\/w= .o d)(hl:zs.length<lim):appTo k (w,B++acc zs)=some (B++acc (zs++[d])):=by
 unfold appTo;have e:w.fz= .v d:=by rcases hw with rfl|rfl<;>rfl
 simp only[e,takeAll,jS,bind_some];rw[a3d h];simp only[if_pos hl,a8t h]
theorem U5 {k:Nat}{gf:FG}{t:FT}{fe:FX}(I:Ev->Prop)(p:D->Bool)(h:D->D)(hI:∀B,I B->B.length=k):∀(xs:List D),(∀x∈xs,∀B zs,I B->∃B' w,I B'/\gf x (B++acc zs)=some (B'++acc zs)/\t (B'++acc zs)=some (p x,B'++acc zs)/\(p x=true->fe (B'++acc zs)=some (w,B'++acc zs)/\(w= .v (h x)\/w= .o (h x))))->
  ∀(B:Ev) (zs:List D),zs.length+xs.length<=lim->I B->∃B',I B'/\loopC (turnC k gf t fe) xs (B++acc zs)=some (B'++acc (zs++(xs.filter p).map h))
 | [],st,B,zs,hl,i=>⟨B,i,by simp[loopC]⟩
 | x::xs,st,B,zs,hl,i=>by
  obtain⟨B1,w,i1,e1,e2,e3⟩:=st x zM B zs i;rw[qB] at hl;cases hp:p x with
  | true=>
   obtain⟨e4,hw⟩:=e3 hp;obtain⟨B2,i2,e5⟩:=U5 I p h hI xs (fun y hy=>st y (zL _ hy)) B1 (zs++[h x]) (by rw[zH,length_singleton];walk_at "o") i1
   refine⟨B2,i2,?_⟩;rw[loopC,turnC,e1];have ea:=app_v (zs:=zs) (hI B1 i1) hw (by walk_at "o")
   simp only[bind_some,e2,hp,jL,e4,ea];rw[e5,yP hp,zP,qU];rfl
  | false=>
   obtain⟨B2,i2,e5⟩:=U5 I p h hI xs (fun y hy=>st y (zL _ hy)) B1 zs (by walk_at "o") i1
   refine⟨B2,i2,?_⟩;rw[loopC,turnC,e1];simp only[bind_some,e2,hp,jJ,xF];rw[e5,yQ (by rw[hp];exact qD)]
theorem n6 {fi:FI}{js:List (Option Nat)}{gf:FG}{t:FT}{fe:FX}{ρ ρ1:Ev}{xs:List D}(I:Ev->Prop)(p:D->Bool)(h:D->D)(ei:fi ρ=some (xs,ρ1))(hI:∀B,I B->B.length=js.length)(h0:I (capE none js ρ1))(hl:xs.length<=lim)(hf:lfL ((xs.filter p).map h)=true)
  (st:∀x∈xs,∀B zs,I B->∃B' w,I B'/\gf x (B++acc zs)=some (B'++acc zs)/\t (B'++acc zs)=some (p x,B'++acc zs)/\(p x=true->fe (B'++acc zs)=some (w,B'++acc zs)/\(w= .v (h x)\/w= .o (h x)))):
  fComp fi none js gf t fe ρ=some (.o (.lst ((xs.filter p).map h)),ρ1):=by
 obtain⟨B',i',e⟩:=U5 I p h hI xs st (capE none js ρ1) [] (by rw[yI];walk_at "o") h0
 unfold fComp;rw[ei];simp only[bind_some,liB,jL,Option.map_none];rw[show capE none js ρ1++[some (.l (.lst []))]=capE none js ρ1++acc [] from rfl,e];simp only[bind_some,nil_append,a3d (hI B' i'),backG,lfC,hf,jL]
theorem m7 {α:Type}(xs:List α):xs.filter (fun _=>true)=xs:=by induction xs with
 | nil=>rfl
 | cons x xs ih=>rw[yP rfl,ih]
def Sz (n:Nat) (q:Rat):Prop:=q.num.natAbs<2^n/\q.den<2^n
theorem Sz.mono {m n:Nat}{q:Rat}(h:Sz m q)(hm:m<=n):Sz n q:=⟨zJ h.1 (jV (by decide) hm),zJ h.2 (jV (by decide) hm)⟩
section
variable {ρ ρ1 ρ2:Ev}{op:D->D->Option W}{o:D->Option W}{f g h:FX}{t u:FT}{fa:FA}{F G:FS}{i j:Nat}{d e x y:D}{w z:W}{ws:List W}{ds xs ys:List D}{r:R}{k b:Bool}
def varO (i:Nat) (ρ:Ev):Option (Option W)->Option (W×Ev)
 | some (some (.v d))=>some (.v d,ρ)
 | some (some (.r _))=>none
 | some (some _)=>some (.r i,ρ)
 | _=>none
theorem a98:fVar i ρ=varO i ρ ρ[i]?:=by unfold fVar varO;split<;>simp_all
theorem a3Q:varO i ρ (some (some (.v d)))=some (.v d,ρ):=rfl
theorem a43:varO i ρ (some (some (.o d)))=some (.r i,ρ):=rfl
theorem a4o:varO i ρ (some (some (.l d)))=some (.r i,ρ):=rfl
theorem r_c:fC d ρ=some (.v d,ρ):=rfl
def drO:Option (Option W)->Option D
 | some (some (.v d))=>some d
 | some (some w)=>w.own
 | _=>none
theorem a6V:dr ρ (.v d)=some d:=rfl
theorem a7A:dr ρ (.r i)=drO ρ[i]?:=by unfold dr drO;rfl
theorem r_drO_v:drO (some (some (.v d)))=some d:=rfl
theorem a46:drO (some (some (.o d)))=some d:=rfl
theorem a45:drO (some (some (.l d)))=some d:=rfl
theorem a60:(W.v d).fz= .v d:=rfl
theorem a6F:(W.o d).fz= .v d:=rfl
theorem a6p:(W.r i).fz= .r i:=rfl
def drsC (ρ:Ev) (ws:List W):Option D->Option (List D)
 | some d=>(drs ρ ws).map fun ds=>d::ds
 | none=>none
theorem a4g:drs ρ []=some []:=rfl
theorem a4d:drs ρ (w::ws)=drsC ρ ws (dr ρ w):=by rw[drs];unfold drsC;cases dr ρ w<;>rfl
theorem a7v:drsC ρ ws (some d)=(drs ρ ws).map fun ds=>d::ds:=rfl
def bin2 (op:D->D->Option W) (g:FX):Option (W×Ev)->Option (W×Ev)
 | some p=>(g p.2).bind fun q=>(dr q.2 p.1.fz).bind fun x=>(dr q.2 q.1.fz).bind fun y=>(op x y).map fun w=>(w,q.2)
 | none=>none
def bin3 (op:D->D->Option W) (w:W):Option (W×Ev)->Option (W×Ev)
 | some q=>(dr q.2 w.fz).bind fun x=>(dr q.2 q.1.fz).bind fun y=>(op x y).map fun w=>(w,q.2)
 | none=>none
def bin4 (op:D->D->Option W) (ρ:Ev):Option D->Option D->Option (W×Ev)
 | some x,some y=>(op x y).map fun w=>(w,ρ)
 | _,_=>none
def withE (ρ:Ev):Option W->Option (W×Ev)
 | some w=>some (w,ρ)
 | none=>none
theorem a92:fBin op f g ρ=bin2 op g (f ρ):=by unfold fBin bin2;cases f ρ<;>rfl
theorem a7K:bin2 op g (some (w,ρ))=bin3 op w (g ρ):=by unfold bin2 bin3;dsimp only;cases g ρ<;>rfl
theorem a6a:bin3 op w (some (z,ρ))=bin4 op ρ (dr ρ w.fz) (dr ρ z.fz):=by unfold bin3 bin4;dsimp only;cases dr ρ w.fz<;>cases dr ρ z.fz<;>rfl
theorem a7d:bin4 op ρ (some x) (some y)=withE ρ (op x y):=by unfold bin4 withE;dsimp only;cases op x y<;>rfl
theorem a6S:withE ρ (some w)=some (w,ρ):=rfl
def un2 (o:D->Option W):Option (W×Ev)->Option (W×Ev)
 | some p=>(dr p.2 p.1.fz).bind fun x=>(o x).map fun w=>(w,p.2)
 | none=>none
def un3 (o:D->Option W) (ρ:Ev):Option D->Option (W×Ev)
 | some x=>withE ρ (o x)
 | none=>none
theorem r_un:fUn o f ρ=un2 o (f ρ):=by unfold fUn un2;cases f ρ<;>rfl
theorem a9O:un2 o (some (w,ρ))=un3 o ρ (dr ρ w.fz):=by unfold un2 un3 withE;dsimp only;cases dr ρ w.fz with
 | none=>rfl
 | some x=>simp only[bind_some];cases o x<;>rfl
theorem a9c:un3 o ρ (some x)=withE ρ (o x):=rfl
def tstO:Option (W×Ev)->Option (Bool×Ev)
 | some (.v (.bl k),ρ)=>some (k,ρ)
 | _=>none
theorem a0z:fTest f ρ=tstO (f ρ):=by
 unfold fTest tstO;cases f ρ with
 | none=>rfl
 | some p=>
  obtain⟨w,ρ⟩:=p;cases w with
  | v d=>cases d<;>rfl
  | _=>rfl
theorem a61:tstO (some (.v (.bl k),ρ))=some (k,ρ):=rfl
def tru2:Option (W×Ev)->Option (Bool×Ev)
 | some p=>(dr p.2 p.1.fz).bind fun d=>(truth d).map fun k=>(k,p.2)
 | none=>none
def tru3 (ρ:Ev):Option D->Option (Bool×Ev)
 | some d=>(truth d).map fun k=>(k,ρ)
 | none=>none
theorem b0i:fTru f ρ=tru2 (f ρ):=by unfold fTru tru2;cases f ρ<;>rfl
theorem a6H:tru2 (some (w,ρ))=tru3 ρ (dr ρ w.fz):=by unfold tru2 tru3;dsimp only;cases dr ρ w.fz<;>rfl
theorem a2m:tru3 ρ (some (.bl k))=some (k,ρ):=rfl
theorem b1N:tru3 ρ (some (.tup xs))=some (!xs.isEmpty,ρ):=rfl
theorem a02:tru3 ρ (some (.lst xs))=some (!xs.isEmpty,ρ):=rfl
theorem b1O:tru3 ρ (some .non)=some (false,ρ):=rfl
def notO:Option (Bool×Ev)->Option (Bool×Ev)
 | some p=>some (!p.1,p.2)
 | none=>none
theorem a9f:fNot t ρ=notO (t ρ):=by unfold fNot notO;cases t ρ<;>rfl
theorem a6W:notO (some (k,ρ))=some (!k,ρ):=rfl
def andO (u:FT):Option (Bool×Ev)->Option (Bool×Ev)
 | some (true,ρ)=>u ρ
 | some (false,ρ)=>some (false,ρ)
 | none=>none
def orO (u:FT):Option (Bool×Ev)->Option (Bool×Ev)
 | some (true,ρ)=>some (true,ρ)
 | some (false,ρ)=>u ρ
 | none=>none
theorem a9e:fAnd t u ρ=andO u (t ρ):=by unfold fAnd andO;cases t ρ with
 | none=>rfl
 | some p=>obtain⟨k,ρ⟩:=p;cases k<;>rfl
theorem r_or:fOr t u ρ=orO u (t ρ):=by unfold fOr orO;cases t ρ with
 | none=>rfl
 | some p=>obtain⟨k,ρ⟩:=p;cases k<;>rfl
theorem a4h:andO u (some (true,ρ))=u ρ:=id rfl
theorem a4J:andO u (some (false,ρ))=some (false,ρ):=rfl
theorem r_or_t:orO u (some (true,ρ))=some (true,ρ):=rfl
theorem a6I:orO u (some (false,ρ))=u ρ:=id rfl
def andV (g:FX):Option (Bool×Ev)->Option (W×Ev)
 | some (true,ρ)=>g ρ
 | some (false,ρ)=>some (.v (.bl false),ρ)
 | none=>none
def orV (g:FX):Option (Bool×Ev)->Option (W×Ev)
 | some (true,ρ)=>some (.v (.bl true),ρ)
 | some (false,ρ)=>g ρ
 | none=>none
def notV:Option (Bool×Ev)->Option (W×Ev)
 | some (k,ρ)=>some (.v (.bl (!k)),ρ)
 | none=>none
def ifV (f g:FX):Option (Bool×Ev)->Option (W×Ev)
 | some (true,ρ)=>f ρ
 | some (false,ρ)=>g ρ
 | none=>none
theorem a6X:fAndV f g ρ=andV g (tstO (f ρ)):=by unfold fAndV andV;rw[a0z];cases tstO (f ρ) with
 | none=>rfl
 | some p=>obtain⟨k,ρ⟩:=p;cases k<;>rfl
theorem r_orV:fOrV f g ρ=orV g (tstO (f ρ)):=by unfold fOrV orV;rw[a0z];cases tstO (f ρ) with
 | none=>rfl
 | some p=>obtain⟨k,ρ⟩:=p;cases k<;>rfl
theorem r_notV:fNotV f ρ=notV (tstO (f ρ)):=by unfold fNotV notV;rw[a0z];cases tstO (f ρ)<;>rfl
theorem r_if:fIf t f g ρ=ifV f g (t ρ):=by unfold fIf ifV;cases t ρ with
 | none=>rfl
 | some p=>obtain⟨k,ρ⟩:=p;cases k<;>rfl
theorem a2C:andV g (some (true,ρ))=g ρ:=id rfl
theorem a2X:andV g (some (false,ρ))=some (.v (.bl false),ρ):=rfl
theorem r_orV_t:orV g (some (true,ρ))=some (.v (.bl true),ρ):=rfl
theorem r_orV_f:orV g (some (false,ρ))=g ρ:=id rfl
theorem r_notV_s:notV (some (k,ρ))=some (.v (.bl (!k)),ρ):=rfl
theorem r_if_t:ifV f g (some (true,ρ))=f ρ:=id rfl
theorem r_if_f:ifV f g (some (false,ρ))=g ρ:=id rfl
def cons2 (fa:FA):Option (W×Ev)->Option (List W×Ev)
 | some p=>(fa p.2).map fun q=>(p.1.fz::q.1,q.2)
 | none=>none
def cons3 (w:W):Option (List W×Ev)->Option (List W×Ev)
 | some q=>some (w::q.1,q.2)
 | none=>none
theorem a9P:fNil ρ=some ([],ρ):=rfl
theorem a7L:fCons f fa ρ=cons2 fa (f ρ):=by unfold fCons cons2;cases f ρ<;>rfl
theorem a4P:cons2 fa (some (w,ρ))=cons3 w.fz (fa ρ):=by unfold cons2 cons3;dsimp only;cases fa ρ<;>rfl
theorem a3X:cons3 w (some (ws,ρ))=some (w::ws,ρ):=rfl
def takC (d:D):Option (List D×Ev)->Option (List D×Ev)
 | some p=>some (d::p.1,p.2)
 | none=>none
def takR (i:Nat) (ws:List W):Option Ev->Option (List D×Ev)
 | some ρ1=>match ρ1[i]? with
  | some (some (.v d))=>(takeAll ρ1 ws).map fun p=>(d::p.1,p.2)
  | _=>none
 | none=>none
def takS (ρ:Ev) (ws:List W):Option (Option W)->Option (List D×Ev)
 | some (some (.v d))=>takC d (takeAll ρ ws)
 | _=>none
theorem a41:takeAll ρ []=some ([],ρ):=rfl
theorem a4j:takeAll ρ (.v d::ws)=takC d (takeAll ρ ws):=by rw[takeAll];unfold takC;cases takeAll ρ ws<;>rfl
theorem a4B:takeAll ρ (.r i::ws)=takR i ws (frzAt ρ i):=by rw[takeAll];unfold takR;cases frzAt ρ i<;>rfl
theorem a8a:takC d (some (ds,ρ))=some (d::ds,ρ):=rfl
theorem a6f:takR i ws (some ρ)=takS ρ ws ρ[i]?:=by
 unfold takR takS;dsimp only
 split
 ·unfold takC;cases takeAll ρ ws<;>rfl
 ·rfl
theorem a6c:takS ρ ws (some (some (.v d)))=takC d (takeAll ρ ws):=rfl
def disp2 (mk:List D->W):Option (List W×Ev)->Option (W×Ev)
 | some p=>(takeAll p.2 p.1).bind fun q=>if q.1.length<=lim then some (mk q.1,q.2) else none
 | none=>none
def disp3 (mk:List D->W):Option (List D×Ev)->Option (W×Ev)
 | some q=>if q.1.length<=lim then some (mk q.1,q.2) else none
 | none=>none
theorem a9M:fTup fa ρ=disp2 (fun ds=>.v (.tup ds)) (fa ρ):=by unfold fTup disp2;cases fa ρ<;>rfl
theorem b0f:fLst fa ρ=disp2 (fun ds=>.o (.lst ds)) (fa ρ):=by unfold fLst disp2;cases fa ρ<;>rfl
theorem a4p {mk:List D->W}:disp2 mk (some (ws,ρ))=disp3 mk (takeAll ρ ws):=by unfold disp2 disp3;dsimp only;cases takeAll ρ ws<;>rfl
theorem a4K {mk:List D->W}:disp3 mk (some (ds,ρ))=if ds.length<=lim then some (mk ds,ρ) else none:=rfl
def call2 (k:List D->Option W):Option (List W×Ev)->Option (W×Ev)
 | some p=>(drs p.2 p.1).bind fun ds=>(k ds).map fun w=>(w,p.2)
 | none=>none
def call3 (k:List D->Option W) (ρ:Ev):Option (List D)->Option (W×Ev)
 | some ds=>withE ρ (k ds)
 | none=>none
theorem a7i {k:List D->Option W}:fCall k fa ρ=call2 k (fa ρ):=by unfold fCall call2;cases fa ρ<;>rfl
theorem a4f {k:List D->Option W}:call2 k (some (ws,ρ))=call3 k ρ (drs ρ ws):=by
 unfold call2 call3 withE;dsimp only;cases drs ρ ws with
 | none=>rfl
 | some ds=>simp only[bind_some];cases k ds<;>rfl
theorem a5a {k:List D->Option W}:call3 k ρ (some ds)=withE ρ (k ds):=rfl
theorem r_k1 {g:D->Option W}:k1 g [d]=g d:=rfl
theorem r_k2 {g:Int->Int->D}{i j:Int}:k2 g [.int i,.int j]=some (.v (g i j)):=rfl
def def2 (g:List D->Option W):Option (List W×Ev)->Option (W×Ev)
 | some p=>(drs p.2 p.1).bind fun ds=>(g ds).bind fun w=>if lfW w=true then some (w,p.2) else(frzL p.1 p.2).map fun ρ2=>(w,ρ2)
 | none=>none
def def3 (g:List D->Option W) (ws:List W) (ρ:Ev):Option (List D)->Option (W×Ev)
 | some ds=>(g ds).bind fun w=>if lfW w=true then some (w,ρ) else(frzL ws ρ).map fun ρ2=>(w,ρ2)
 | none=>none
def def4 (ws:List W) (ρ:Ev):Option W->Option (W×Ev)
 | some w=>if lfW w=true then some (w,ρ) else(frzL ws ρ).map fun ρ2=>(w,ρ2)
 | none=>none
theorem a91 {g:List D->Option W}:fDef g fa ρ=def2 g (fa ρ):=by unfold fDef def2;cases fa ρ<;>rfl
theorem a56 {g:List D->Option W}:def2 g (some (ws,ρ))=def3 g ws ρ (drs ρ ws):=by unfold def2 def3;dsimp only;cases drs ρ ws<;>rfl
theorem a7C {g:List D->Option W}:def3 g ws ρ (some ds)=def4 ws ρ (g ds):=by unfold def3 def4;dsimp only;cases g ds<;>rfl
theorem a7z:def4 ws ρ (some w)=if lfW w=true then some (w,ρ) else(frzL ws ρ).map fun ρ2=>(w,ρ2):=rfl
def dl2 (g:D->List D->Option (W×D)):Option (List W×Ev)->Option (W×Ev)
 | some (.r i::ws,ρ)=>(ownAt ρ i).bind fun c=>(drs ρ ws).bind fun ds=>(g c ds).bind fun z=>if noR i ws=true/\lfC z.2=true then(if lfW z.1=true then some (z.1,setOwn ρ i z.2) else(frzL ws (setOwn ρ i z.2)).map fun ρ2=>(z.1,ρ2)) else none
 | _=>none
def dl3 (g:D->List D->Option (W×D)) (i:Nat) (ws:List W) (ρ:Ev):Option D->Option (List D)->Option (W×Ev)
 | some c,some ds=>(g c ds).bind fun z=>if noR i ws=true/\lfC z.2=true then(if lfW z.1=true then some (z.1,setOwn ρ i z.2) else(frzL ws (setOwn ρ i z.2)).map fun ρ2=>(z.1,ρ2)) else none
 | _,_=>none
def dl4 (i:Nat) (ws:List W) (ρ:Ev):Option (W×D)->Option (W×Ev)
 | some z=>if noR i ws=true/\lfC z.2=true then(if lfW z.1=true then some (z.1,setOwn ρ i z.2) else(frzL ws (setOwn ρ i z.2)).map fun ρ2=>(z.1,ρ2)) else none
 | none=>none
theorem r_dl {g:D->List D->Option (W×D)}:fDefL g fa ρ=dl2 g (fa ρ):=by
 unfold fDefL dl2;cases fa ρ with
 | none=>rfl
 | some p=>
  obtain⟨ws,ρ⟩:=p;cases ws with
  | nil=>rfl
  | cons w ws=>cases w<;>rfl
theorem a9j {g:D->List D->Option (W×D)}:dl2 g (some (.r i::ws,ρ))=dl3 g i ws ρ (ownAt ρ i) (drs ρ ws):=by unfold dl2 dl3;dsimp only;cases ownAt ρ i<;>cases drs ρ ws<;>rfl
theorem a9d {g:D->List D->Option (W×D)}:dl3 g i ws ρ (some d) (some ds)=dl4 i ws ρ (g d ds):=by unfold dl3 dl4;dsimp only;cases g d ds<;>rfl
theorem a9Z:dl4 i ws ρ (some (w,d))=if noR i ws=true/\lfC d=true then(if lfW w=true then some (w,setOwn ρ i d) else(frzL ws (setOwn ρ i d)).map fun ρ2=>(w,ρ2)) else none:=rfl
def sl2 (lo hi:FO):Option (W×Ev)->Option (W×Ev)
 | some p=>(lo p.2).bind fun l=>(hi l.2).bind fun u=>(dr u.2 p.1.fz).bind fun x=>(slD x l.1 u.1).map fun w=>(w,u.2)
 | none=>none
def sl3 (hi:FO) (w:W):Option (Option Int×Ev)->Option (W×Ev)
 | some l=>(hi l.2).bind fun u=>(dr u.2 w.fz).bind fun x=>(slD x l.1 u.1).map fun w=>(w,u.2)
 | none=>none
def sl4 (w:W) (l:Option Int):Option (Option Int×Ev)->Option (W×Ev)
 | some u=>(dr u.2 w.fz).bind fun x=>(slD x l u.1).map fun w=>(w,u.2)
 | none=>none
def sl5 (l u:Option Int) (ρ:Ev):Option D->Option (W×Ev)
 | some x=>withE ρ (slD x l u)
 | none=>none
theorem r_sl {lo hi:FO}:fSl f lo hi ρ=sl2 lo hi (f ρ):=by unfold fSl sl2;cases f ρ<;>rfl
theorem a9b {lo hi:FO}:sl2 lo hi (some (w,ρ))=sl3 hi w (lo ρ):=by unfold sl2 sl3;dsimp only;cases lo ρ<;>rfl
theorem a9E {hi:FO}{l:Option Int}:sl3 hi w (some (l,ρ))=sl4 w l (hi ρ):=by unfold sl3 sl4;dsimp only;cases hi ρ<;>rfl
theorem b0c {l u:Option Int}:sl4 w l (some (u,ρ))=sl5 l u ρ (dr ρ w.fz):=by
 unfold sl4 sl5 withE;dsimp only;cases dr ρ w.fz with
 | none=>rfl
 | some x=>simp only[bind_some];cases slD x l u<;>rfl
theorem a9v {l u:Option Int}:sl5 l u ρ (some x)=withE ρ (slD x l u):=rfl
theorem a6i {l u:Option Int}:slD (.tup xs) l u=some (.v (.tup (cutD xs l u))):=rfl
theorem r_sl_l {l u:Option Int}:slD (.lst xs) l u=some (.o (.lst (cutD xs l u))):=rfl
def o1O:Option (W×Ev)->Option (Option Int×Ev)
 | some (.v (.int i),ρ)=>some (some i,ρ)
 | _=>none
theorem r_o0:fO0 ρ=some (none,ρ):=rfl
theorem r_o1:fO1 f ρ=o1O (f ρ):=by
 unfold fO1 o1O;cases f ρ with
 | none=>rfl
 | some p=>
  obtain⟨w,ρ⟩:=p;cases w with
  | v d=>cases d<;>rfl
  | _=>rfl
theorem a93 {n:Int}:o1O (some (.v (.int n),ρ))=some (some n,ρ):=rfl
def thnO (G:FS):Option R->Option R
 | some (.nx ρ)=>G ρ
 | o=>o
theorem a6A:fThen F G ρ=thnO G (F ρ):=by unfold fThen thnO;cases F ρ with
 | none=>rfl
 | some r=>cases r<;>rfl
theorem a00:thnO G (some (.nx ρ))=G ρ:=id rfl
theorem a1o:thnO G (some (.rt w ρ))=some (.rt w ρ):=id rfl
theorem b1L:thnO G (some (.bk ρ))=some (.bk ρ):=rfl
theorem b1M:thnO G (some (.ct ρ))=some (.ct ρ):=rfl
def retO:Option (W×Ev)->Option R
 | some p=>retW p.2 p.1
 | none=>none
def retS (ρ:Ev):Option (Option W)->Option R
 | some (some (.o d))=>some (.rt (.o d) ρ)
 | some (some (.v d))=>some (.rt (.v d) ρ)
 | _=>none
theorem a9q:fRet f ρ=retO (f ρ):=by unfold fRet retO;cases f ρ<;>rfl
theorem a4N:retO (some (.v d,ρ))=some (.rt (.v d) ρ):=rfl
theorem a3P:retO (some (.o d,ρ))=some (.rt (.o d) ρ):=rfl
theorem a3Z:retO (some (.r i,ρ))=retS ρ ρ[i]?:=by unfold retO retS;first|(dsimp only[retW];done)|(dsimp only[retW];rfl)
theorem a2f:retS ρ (some (some (.o d)))=some (.rt (.o d) ρ):=rfl
theorem r_retS_v:retS ρ (some (some (.v d)))=some (.rt (.v d) ρ):=rfl
def ifO (F G:FS):Option (Bool×Ev)->Option R
 | some (true,ρ)=>F ρ
 | some (false,ρ)=>G ρ
 | none=>none
theorem r_ifS:fIfS t F G ρ=ifO F G (t ρ):=by unfold fIfS ifO;cases t ρ with
 | none=>rfl
 | some p=>obtain⟨k,ρ⟩:=p;cases k<;>rfl
theorem a33:ifO F G (some (true,ρ))=F ρ:=id rfl
theorem a42:ifO F G (some (false,ρ))=G ρ:=id rfl
def asgO (i:Nat):Option (W×Ev)->Option R
 | some p=>(bindW p.2 i p.1).map .nx
 | none=>none
def bndO (i j:Nat):Option Ev->Option R
 | some ρ1=>match ρ1[j]? with
  | some (some (.v d))=>if freeSlot ρ1 i=true then some (.nx (ρ1.set i (some (.v d)))) else none
  | _=>none
 | none=>none
def bndS (i:Nat) (ρ:Ev):Option (Option W)->Option R
 | some (some (.v d))=>if freeSlot ρ i=true then some (.nx (ρ.set i (some (.v d)))) else none
 | _=>none
theorem b0o:fAsg i f ρ=asgO i (f ρ):=by unfold fAsg asgO;cases f ρ<;>rfl
theorem a4i:asgO i (some (.v d,ρ))=if freeSlot ρ i=true then some (.nx (ρ.set i (some (.v d)))) else none:=by unfold asgO;dsimp only[bindW];split<;>rfl
theorem a4V:asgO i (some (.o d,ρ))=if freeSlot ρ i=true then some (.nx (ρ.set i (some (.o d)))) else none:=by unfold asgO;dsimp only[bindW];split<;>rfl
theorem r_asg_r:asgO i (some (.r j,ρ))=bndO i j (frzAt ρ j):=by
 unfold asgO bndO;dsimp only[bindW];cases frzAt ρ j with
 | none=>rfl
 | some ρ1=>
  simp only[bind_some];cases q:ρ1[j]? with
  | none=>rfl
  | some o=>
   cases o with
   | none=>rfl
   | some w=>
    cases w with
    | v d=>dsimp only;split<;>rfl
    | _=>rfl
theorem r_bndO:bndO i j (some ρ)=bndS i ρ ρ[j]?:=by
 unfold bndO bndS;rfl
theorem r_bndS:bndS i ρ (some (some (.v d)))=if freeSlot ρ i=true then some (.nx (ρ.set i (some (.v d)))) else none:=rfl
def agO2 (gf:FG):Option (W×Ev)->Option R
 | some p=>(takeAll p.2 [p.1.fz]).bind fun q=>match q.1 with
  | [d]=>(gf d q.2).map .nx
  | _=>none
 | none=>none
def agO3 (gf:FG):Option (List D×Ev)->Option R
 | some ([d],ρ)=>(gf d ρ).map .nx
 | _=>none
def nxO:Option Ev->Option R
 | some ρ=>some (.nx ρ)
 | none=>none
theorem r_ag {gf:FG}:fAsgG f gf ρ=agO2 gf (f ρ):=by unfold fAsgG agO2;cases f ρ<;>rfl
theorem a9L {gf:FG}:agO2 gf (some (w,ρ))=agO3 gf (takeAll ρ [w.fz]):=by
 unfold agO2 agO3;dsimp only;cases takeAll ρ [w.fz] with
 | none=>rfl
 | some p=>
  obtain⟨ds,ρ⟩:=p
  match ds with
  | []=>rfl
  | [_]=>rfl
  | _::_::_=>rfl
theorem a9o {gf:FG}:agO3 gf (some ([d],ρ))=nxO (gf d ρ):=by unfold agO3 nxO;dsimp only;cases gf d ρ<;>rfl
theorem a9l:nxO (some ρ)=some (.nx ρ):=rfl
theorem a37:gfName i d ρ=if freeSlot ρ i=true then some (ρ.set i (some (.v d))) else none:=rfl
def gcO (gs:FGs) (ds:List D):Option Ev->Option Ev
 | some ρ=>gs ds ρ
 | none=>none
theorem a6j:gfNil [] ρ=some ρ:=rfl
theorem a4a {gf:FG}{gs:FGs}:gfCons gf gs (d::ds) ρ=gcO gs ds (gf d ρ):=by unfold gfCons gcO;dsimp only;cases gf d ρ<;>rfl
theorem a9R {gs:FGs}:gcO gs ds (some ρ)=gs ds ρ:=id rfl
theorem a52 {gs:FGs}:gfTup gs (.tup ds) ρ=gs ds ρ:=rfl
def gs2 (g:FX) (d:D):Option (W×Ev)->Option Ev
 | some (.r j,ρ)=>(g ρ).bind fun q=>(dr q.2 q.1.fz).bind fun k=>match k,ownAt q.2 j with
  | .int k,some (.lst xs)=>(ixN xs.length k).map fun n=>setOwn q.2 j (.lst (xs.set n d))
  | _,_=>none
 | _=>none
def gs3 (j:Nat) (d:D):Option (W×Ev)->Option Ev
 | some q=>(dr q.2 q.1.fz).bind fun k=>match k,ownAt q.2 j with
  | .int k,some (.lst xs)=>(ixN xs.length k).map fun n=>setOwn q.2 j (.lst (xs.set n d))
  | _,_=>none
 | none=>none
def gs4 (j:Nat) (d:D) (ρ:Ev):Option D->Option D->Option Ev
 | some (.int k),some (.lst xs)=>(ixN xs.length k).map fun n=>setOwn ρ j (.lst (xs.set n d))
 | _,_=>none
theorem r_gs:gfSub f g d ρ=gs2 g d (f ρ):=by
 unfold gfSub gs2;cases f ρ with
 | none=>rfl
 | some p=>obtain⟨w,ρ⟩:=p;cases w<;>rfl
theorem b0b:gs2 g d (some (.r j,ρ))=gs3 j d (g ρ):=by unfold gs2 gs3;dsimp only;cases g ρ<;>rfl
theorem a9Q:gs3 j d (some (w,ρ))=gs4 j d ρ (dr ρ w.fz) (ownAt ρ j):=by
 unfold gs3 gs4;dsimp only;cases dr ρ w.fz with
 | none=>rfl
 | some k=>
  simp only[bind_some];cases k with
  | int n=>cases ownAt ρ j with
   | none=>rfl
   | some c=>cases c<;>rfl
  | _=>rfl
theorem b0a {n:Int}:gs4 j d ρ (some (.int n)) (some (.lst xs))=(ixN xs.length n).map fun n=>setOwn ρ j (.lst (xs.set n d)):=rfl
def dropO:Option (W×Ev)->Option R
 | some p=>some (.nx p.2)
 | none=>none
theorem a5Y:fDrop f ρ=dropO (f ρ):=by unfold fDrop dropO;cases f ρ<;>rfl
theorem a4G:dropO (some (w,ρ))=some (.nx ρ):=rfl
def par2 (i j:Nat):Option (List W×Ev)->Option R
 | some p=>(takeAll p.2 p.1).bind fun q=>match q.1 with
  | [d,d']=>if freeSlot q.2 i=true/\freeSlot (q.2.set i (some (.v d))) j=true then some (.nx ((q.2.set i (some (.v d))).set j (some (.v d')))) else none
  | _=>none
 | none=>none
def par3 (i j:Nat):Option (List D×Ev)->Option R
 | some ([d,d'],ρ)=>if freeSlot ρ i=true/\freeSlot (ρ.set i (some (.v d))) j=true then some (.nx ((ρ.set i (some (.v d))).set j (some (.v d')))) else none
 | _=>none
theorem r_par:fPar i j fa ρ=par2 i j (fa ρ):=by unfold fPar par2;cases fa ρ<;>rfl
theorem r_par2:par2 i j (some (ws,ρ))=par3 i j (takeAll ρ ws):=by
 unfold par2 par3;dsimp only;cases takeAll ρ ws with
 | none=>rfl
 | some p=>
  obtain⟨ds,ρ⟩:=p
  match ds with
  | []=>rfl
  | [_]=>rfl
  | [_,_]=>rfl
  | _::_::_::_=>rfl
theorem r_par3:par3 i j (some ([d,e],ρ))=if freeSlot ρ i=true/\freeSlot (ρ.set i (some (.v d))) j=true then some (.nx ((ρ.set i (some (.v d))).set j (some (.v e)))) else none:=rfl
def is2:Option (W×Ev)->Option (List D×Ev)
 | some p=>(takeAll p.2 [p.1.fz]).bind fun q=>match q.1 with
  | [d]=>(items d).map fun xs=>(xs,q.2)
  | _=>none
 | none=>none
def is3:Option (List D×Ev)->Option (List D×Ev)
 | some ([.tup xs],ρ)=>some (xs,ρ)
 | some ([.lst xs],ρ)=>some (xs,ρ)
 | _=>none
theorem r_is:fiSeq f ρ=is2 (f ρ):=by unfold fiSeq is2;cases f ρ<;>rfl
theorem a90:is2 (some (w,ρ))=is3 (takeAll ρ [w.fz]):=by
 unfold is2 is3;dsimp only;cases takeAll ρ [w.fz] with
 | none=>rfl
 | some p=>
  obtain⟨ds,ρ⟩:=p
  match ds with
  | []=>rfl
  | [d]=>cases d<;>rfl
  | _::_::_=>simp
theorem a7G:is3 (some ([.tup xs],ρ))=some (xs,ρ):=rfl
theorem a68:is3 (some ([.lst xs],ρ))=some (xs,ρ):=rfl
def forO (gf:FG) (b:FS):Option (List D×Ev)->Option R
 | some p=>loopF (turnF gf b) p.1 p.2
 | none=>none
theorem a9J {fi:FI}{gf:FG}:fFor fi gf F ρ=forO gf F (fi ρ):=by unfold fFor forO;cases fi ρ<;>rfl
theorem a8c {gf:FG}:forO gf F (some (xs,ρ))=loopF (turnF gf F) xs ρ:=id rfl
def turnO (b:FS):Option Ev->Option R
 | some ρ=>b ρ
 | none=>none
theorem a6d {gf:FG}:turnF gf F d ρ=turnO F (gf d ρ):=by unfold turnF turnO;cases gf d ρ<;>rfl
theorem a39:turnO F (some ρ)=F ρ:=id rfl
def mu2 (op:List D->List D->Option (W×List D)) (fa:FA):Option (W×Ev)->Option (W×Ev)
 | some (.r i,ρ)=>if isLst (ownAt ρ i)=true then(fa ρ).bind fun q=>(takeAll q.2 q.1).bind fun z=>match ownAt z.2 i with
  | some (.lst xs)=>(op xs z.1).map fun y=>(y.1,setOwn z.2 i (.lst y.2))
  | _=>none
  else none
 | _=>none
def mu3 (op:List D->List D->Option (W×List D)) (i:Nat):Option (List W×Ev)->Option (W×Ev)
 | some q=>(takeAll q.2 q.1).bind fun z=>match ownAt z.2 i with
  | some (.lst xs)=>(op xs z.1).map fun y=>(y.1,setOwn z.2 i (.lst y.2))
  | _=>none
 | none=>none
def mu4 (op:List D->List D->Option (W×List D)) (i:Nat):Option (List D×Ev)->Option (W×Ev)
 | some z=>match ownAt z.2 i with
  | some (.lst xs)=>(op xs z.1).map fun y=>(y.1,setOwn z.2 i (.lst y.2))
  | _=>none
 | none=>none
def mu5 (op:List D->List D->Option (W×List D)) (i:Nat) (ds:List D) (ρ:Ev):Option D->Option (W×Ev)
 | some (.lst xs)=>(op xs ds).map fun y=>(y.1,setOwn ρ i (.lst y.2))
 | _=>none
def mu6 (i:Nat) (ρ:Ev):Option (W×List D)->Option (W×Ev)
 | some y=>some (y.1,setOwn ρ i (.lst y.2))
 | none=>none
variable {om:List D->List D->Option (W×List D)}
theorem r_mu:fMut om f fa ρ=mu2 om fa (f ρ):=by
 unfold fMut mu2;cases f ρ with
 | none=>rfl
 | some p=>obtain⟨w,ρ⟩:=p;cases w<;>rfl
theorem a9N:mu2 om fa (some (.r i,ρ))=if isLst (ownAt ρ i)=true then mu3 om i (fa ρ) else none:=by unfold mu2 mu3;dsimp only;cases fa ρ<;>rfl
theorem b0m:mu3 om i (some (ws,ρ))=mu4 om i (takeAll ρ ws):=by unfold mu3 mu4;dsimp only;cases takeAll ρ ws<;>rfl
theorem a94:mu4 om i (some (ds,ρ))=mu5 om i ds ρ (ownAt ρ i):=by unfold mu4 mu5;rfl
theorem a87:mu5 om i ds ρ (some (.lst xs))=mu6 i ρ (om xs ds):=by unfold mu5 mu6;dsimp only;cases om xs ds<;>rfl
theorem a95:mu6 i ρ (some (w,xs))=some (w,setOwn ρ i (.lst xs)):=rfl
theorem a9y:mApp xs [d]=if xs.length<lim then some (.v .non,xs++[d]) else none:=rfl
def runO:Option R->Option W
 | some (.rt w _)=>some w
 | some (.nx _)=>some (.v .non)
 | _=>none
theorem a9r {np n:Nat}:runD np n G ds=if ds.length=np then runO (G (start0 n ds)) else none:=by
 unfold runD runO
 split
 ·cases G (start0 n ds) with
  | none=>rfl
  | some r=>cases r<;>rfl
 ·rfl
theorem a2Z:runO (some (.rt w ρ))=some w:=rfl
theorem r_run_nx:runO (some (.nx ρ))=some (.v .non):=rfl
def runLO:Option R->Option (W×D)
 | some (.rt w ρ)=>(ownAt ρ 0).map fun c=>(w,c)
 | some (.nx ρ)=>(ownAt ρ 0).map fun c=>(.v .non,c)
 | _=>none
theorem a6Y {np n:Nat}:runL np n G d ds=if ds.length+1=np then runLO (G (some (.l d)::start0 (n-1) ds)) else none:=by
 unfold runL runLO
 split
 ·cases G (some (.l d)::start0 (n-1) ds) with
  | none=>rfl
  | some r=>cases r<;>rfl
 ·rfl
theorem a0Z:runLO (some (.rt w ρ))=(ownAt ρ 0).map fun c=>(w,c):=rfl
theorem b1K:runLO (some (.nx ρ))=(ownAt ρ 0).map fun c=>(.v .non,c):=rfl
variable {m n:Int}
theorem o_i0 {g:Int->Int->D}:oI0 g (.int m) (.int n)=some (.v (g m n)):=rfl
theorem o_i {C:Int->Int->Prop} [∀i j,Decidable (C i j)] {g:Int->Int->D}:oI C g (.int m) (.int n)=if C m n then some (.v (g m n)) else none:=rfl
theorem a4U:oAdd (.int m) (.int n)=some (.v (.int (m+n))):=rfl
theorem a4w:oAdd (.lst xs) (.lst ys)=if xs.length+ys.length<=lim then some (.o (.lst (xs++ys))) else none:=rfl
theorem a4v:oAdd (.tup xs) (.tup ys)=if xs≠[]/\xs.length+ys.length<=lim then some (.v (.tup (xs++ys))) else none:=by
 by_cases h:xs≠[]/\xs.length+ys.length<=lim
 ·rw[if_pos h];exact if_pos h
 ·rw[if_neg h];exact if_neg h
theorem a9X:oNeg (.int m)=some (.v (.int (-m))):=rfl
theorem a6b:oLtT (.int m) (.int n)=some (.v (.bl (decide (m<n)))):=rfl
theorem a78:oIx (.tup xs) (.int n)=(atI xs n).map .v:=rfl
theorem a7l:oIx (.lst xs) (.int n)=(atI xs n).map .v:=rfl
theorem o_len_t:gLen (.tup xs)=some (.v (.int xs.length)):=rfl
theorem a31:gLen (.lst xs)=some (.v (.int xs.length)):=rfl
theorem o_abs:gAbs (.int m)=some (.v (.int (if m<0 then -m else m))):=rfl
theorem b0q:gInt (.bl b)=some (.v (.int (if b then 1 else 0))):=rfl
theorem b1P:gTuple (.tup xs)=some (.v (.tup xs)):=rfl
theorem a1j:gTuple (.lst xs)=some (.v (.tup xs)):=rfl
theorem o_list_t:gList (.tup xs)=some (.o (.lst xs)):=rfl
theorem o_list_l:gList (.lst xs)=some (.o (.lst xs)):=rfl
theorem o_d2 {q:D->D->Option Bool}{neg:Bool}:oD2 q neg x y=(q x y).map fun k=>.v (.bl (if neg then !k else k)):=rfl
theorem a_0:atI (d::ds) 0=some d:=v6 (j:=0) rfl
theorem a_1:atI (d::e::ds) 1=some e:=v6 (j:=1) rfl
theorem a_2:atI (d::e::x::ds) 2=some x:=v6 (j:=2) rfl
end
open PySem PySem.Spec PyProof.Rows L2
section
variable {prog:Program}{w:World}{A:Around}{E:Value->Shared->Prop}{s:Shared}
theorem a3n {c t:Addr}{k:Nat}{its:Array Value}{x:Value}{Q:Value->Shared->Prop}(hc:IsTupIter s.heap c t k)(ht:IsTup s.heap t its)(hx:its[k]? =some x)
  (q:∀h',IsTupIter h' c t (k+1)->Heap.SameBut c s.heap h'->Q x {s with heap:=h'}):wpAny (model prog w) A (Builtin.SmallTypes.nextOf (.ref c)) Q E s:=by
 have T:=hc.typeIs;obtain⟨o,e1,e2,e3⟩:=hc;obtain⟨o2,g1,_,m,g3⟩:=ht;unfold Builtin.SmallTypes.nextOf;refine zA (qT (name:=Str.ofString "__next__") T slot_tupleiter_next (qV slot_tupleiter_next T entry_tupleiter_next ?_ (args_tupleiter_next _)));have step:wpAny (model prog w) A.in1 (setField (.ref c) 1 (rawInt ((k:Nat)+1:Nat))) (fun _ s'=>wpAny (model prog w) A.in1 (ret x) (fun fin s''=>∃v,fin= .done (.ret v)/\wpAny (model prog w) A (pure v) Q E s'') E s') E s:=by
  refine wpAny_setField e1 e3 (by simp) (zC ⟨x,rfl,zC (q _ ⟨_,xU _ e1 (Obj.isFreed_of_fields (Obj.data_mapFields e3 _)),(Obj.cls_mapFields ..).trans e2,?_⟩ (qY ..))⟩)
  rw[Obj.data_mapFields e3];simp[rawInt]
 refine zA (m:=field (.ref c) 0) (jM e1 e3 (x:=.ref t) rfl ?_);show wpAny _ _ (if(Value.ref t==Value.none)=true then _ else _) _ _ s;have nn:¬((Value.ref t==Value.none)=true):=qD;rw[if_neg nn];refine zA (m:=field (.ref c) 1) (jM e1 e3 (x:=.int k 0) rfl (zA (m:=seqItems? (.ref t)) (xV g1 g3 ?_)));simp only[Int.toNat_natCast,hx];exact zA step
theorem a5N {c t:Addr}{k:Nat}{its:Array Value}{Q:Value->Shared->Prop}(hh:A.handled=none)(hc:IsTupIter s.heap c t k)(ht:IsTup s.heap t its)(hx:its[k]? =none)
  (q:∀h' x,Heap.ExtBut c s.heap h'->(∃o,h'.get? x=some o/\o.cls= .type "StopIteration")->E (.ref x) {s with heap:=h'}):wpAny (model prog w) A (Builtin.SmallTypes.nextOf (.ref c)) Q E s:=by
 have T:=hc.typeIs;obtain⟨o,e1,e2,e3⟩:=hc;obtain⟨o2,g1,_,m,g3⟩:=ht;unfold Builtin.SmallTypes.nextOf;refine zA (qT (name:=Str.ofString "__next__") T slot_tupleiter_next (qV slot_tupleiter_next T entry_tupleiter_next ?_ (args_tupleiter_next _)));refine zA (m:=field (.ref c) 0) (jM e1 e3 (x:=.ref t) rfl ?_);show wpAny _ _ (if(Value.ref t==Value.none)=true then _ else _) _ _ s;have nn:¬((Value.ref t==Value.none)=true):=qD;rw[if_neg nn];refine zA (m:=field (.ref c) 1) (jM e1 e3 (x:=.int k 0) rfl (zA (m:=seqItems? (.ref t)) (xV g1 g3 ?_)));simp only[Int.toNat_natCast,hx];refine zA (jP (zA (wpAny_setField e1 e3 (by simp) ?_)))
 refine zA (m:=newExc (.type "StopIteration") []) ?_;simp only[newExc,newTuple];refine zA (jG ?_ (by size_fits))
 refine zA (m:=firstArgMember _ _) (wpAny_of_eq (a:=Value.none) (by first|rfl|(simp only[firstArgMember];rfl)) (jG ?_ (by size_fits)))
 simp only[raiseNew];refine zA (wpAny_handled ?_)
 first|rw[show A.in1.handled=none from hh]|rw[hh]
 exact zA (zC (wpAny_throw (q _ _ (((qY ..).extBut.push _).push _) ⟨_,qA _ rfl,rfl⟩)))
end
def SIt (k:Bool) (h:Heap) (c t:Addr) (i:Nat):Prop:=match k with
 | true=>h.IsListIter c t i
 | false=>IsTupIter h c t i
def SSq (k:Bool) (h:Heap) (t:Addr) (its:Array Value):Prop:=match k with
 | true=>h.IsList t its
 | false=>IsTup h t its
def SqK (k:Bool) (K:PySem.W.Frag) (H:Hp) (a:Addr) (xs:List V):Prop:=match k with
 | true=>SqL K H a xs
 | false=>SqT K H a xs
def itN (k:Bool):String:=if k then "list_iterator" else "tuple_iterator"
theorem C1 {b:Bool}{h h':Heap}{c t:Addr}{k:Nat}(i:SIt b h c t k)(kp:∀o,h.get? c=some o->h'.get? c=some o):SIt b h' c t k:=by
 cases b<;>(obtain⟨o,e,r⟩:=i;exact⟨o,kp o e,r⟩)
theorem V1 {b:Bool}{h h':Heap}{c:Addr}{its:Array Value}(i:SSq b h c its)(kp:∀o,h.get? c=some o->h'.get? c=some o):SSq b h' c its:=by
 cases b<;>(obtain⟨o,e,r⟩:=i;exact⟨o,kp o e,r⟩)
theorem N8 {b:Bool}{h:Heap}{c t:Addr}{k:Nat}(i:SIt b h c t k):∃o,h.get? c=some o/\∀v,o.data≠.cell v:=by
 cases b<;>(obtain⟨o,e,r,d⟩:=i;exact⟨o,e,fun v z=>by rw[d] at z;cases z⟩)
theorem a47 {b:Bool}{h:Heap}{c l:Addr}(e:h.get? c=some {cls:=.type (itN b),data:=.fields #[.ref l,.int 0 0]}):SIt b h c l 0:=by
 cases b<;>exact⟨_,e,rfl,rfl⟩
theorem sqk {X:Cx}{k:Bool}{pins:List (Addr×PySem.Obj)}{σ:L2.St}{H:Hp}{s:Shared}{a:Addr}{xs:List V}(I:Inv X pins σ H s)(h:SqK k X.K H a xs):∃its,Vals xs its/\SSq k s.heap a its.toArray:=by
 cases k
 ·obtain⟨its,r,p,_⟩:=I.tuple h;exact⟨its,r,p⟩
 ·obtain⟨its,r,p,_⟩:=I.list h;exact⟨its,r,p.isList⟩
theorem a4T {X:Cx}{k:Bool}{pins:List (Addr×PySem.Obj)}{σ:L2.St}{H:Hp}{s:Shared}{a:Addr}{xs ys:List V}(I:Inv X pins σ H s)(h:SqK k X.K H a xs)(h':SqK k X.K H a ys):xs=ys:=by
 cases k
 ·exact I.tuple_inj h h'
 ·exact I.list_inj h h'
theorem a73 {b:Bool}{h:Heap}{c:Addr}{its:Array Value}(i:SSq b h c its):c<h.objs.size:=by
 cases b<;>(obtain⟨o,e,r⟩:=i;exact zW e)
section
variable {prog:Program}{w:World}{A:Around}{E:Value->Shared->Prop}{s:Shared}
theorem Q3 {b:Bool}{c t:Addr}{k:Nat}{its:Array Value}{x:Value}{Q:Value->Shared->Prop}(hc:SIt b s.heap c t k)(ht:SSq b s.heap t its)(hx:its[k]? =some x)
  (q:∀h',SIt b h' c t (k+1)->Heap.SameBut c s.heap h'->Q x {s with heap:=h'}):wpAny (model prog w) A (Builtin.SmallTypes.nextOf (.ref c)) Q E s:=by
 cases b
 ·exact a3n hc ht hx q
 ·exact wpAny_nextOf_list_item hc ht hx q
theorem a06 {b:Bool}{c t:Addr}{k:Nat}{its:Array Value}{Q:Value->Shared->Prop}(hh:A.handled=none)(hc:SIt b s.heap c t k)(ht:SSq b s.heap t its)(hx:its[k]? =none)
  (q:∀h' x,Heap.ExtBut c s.heap h'->(∃o,h'.get? x=some o/\o.cls= .type "StopIteration")->E (.ref x) {s with heap:=h'}):wpAny (model prog w) A (Builtin.SmallTypes.nextOf (.ref c)) Q E s:=by
 cases b
 ·exact a5N hh hc ht hx q
 ·exact wpAny_nextOf_list_end hh hc ht hx q
theorem iterS {b:Bool}{l:Addr}{its:Array Value}{Q:Value->Shared->Prop}(ht:SSq b s.heap l its)(q:Q (.ref s.heap.objs.size) {s with heap:=s.heap.push {cls:=.type (itN b),data:=.fields #[.ref l,.int 0 0]}}):wpAny (model prog w) A (pyIter (.ref l)) Q E s:=by
 cases b
 ·exact iter_tuple ht q
 ·exact wpAny_pyIter_list ht q
end
section
variable {prog:Program}{w:World}{A:Around}{E:Value->Shared->Prop}{s:Shared}{c1 c2:Bool}{z TI TO i1 i2 l1 l2:Addr}{k1 k2:Nat}{xs ys:Array Value}{x y a b:Value}
theorem a5F {Q:Value->Shared->Prop}(D:ZipApart z TI TO i1 i2 l1 l2)(hz:IsZip s.heap z TI TO .none)(hTI:IsPair s.heap TI (.ref i1) (.ref i2))(hTO:IsPair s.heap TO a b)
  (h1:SIt c1 s.heap i1 l1 k1) (h2:SIt c2 s.heap i2 l2 k2) (t1:SSq c1 s.heap l1 xs) (t2:SSq c2 s.heap l2 ys) (hx:xs[k1]? =some x) (hy:ys[k2]? =some y)
  (q:∀h',IsZip h' z TI TO (rawInt s.heap.objs.size)->IsPair h' TO x y->SIt c1 h' i1 l1 (k1+1)->SIt c2 h' i2 l2 (k2+1)->IsPair h' s.heap.objs.size x y->h'.objs.size=s.heap.objs.size+1->
   (∀c o,c≠z->c≠TO->c≠i1->c≠i2->s.heap.get? c=some o->h'.get? c=some o)->Q (.ref s.heap.objs.size) {s with heap:=h'}):
  wpAny (model prog w) A (Builtin.«zip.__next__» ⟨[.ref z],[]⟩) (fun fin s'=>∃v,fin= .done (.ret v)/\Q v s') E s:=by
 refine zA (m:=field (.ref z) 2) (jM hz rfl (x:=.bool false) rfl ?_);refine zA (m:=field (.ref z) 3) (jM hz rfl (x:=.ref TI) rfl (zA (xV hTI rfl ?_)));refine zA (m:=Builtin.SmallTypes.ownedTupleIsFree (.ref z)) ?_;unfold Builtin.SmallTypes.ownedTupleIsFree;refine zA (jM hz rfl (x:=.none) rfl (zC ?_));simp only[jL];refine zA (jP (zA (jM hz rfl (x:=.ref TO) rfl (zA (yB hz (by simp) fun ha za sa=>?_)))))
 have za':IsZip ha z TI TO .ellipsis:=za;have ka:∀c o,c≠z->s.heap.get? c=some o->ha.get? c=some o:=fun c o n e=>sa.extBut c o n e;refine zA ?_;simp only[zipIdx_cons,List.zipIdx_nil,List.forIn_cons,List.forIn_nil];refine zA (zA (wpAny_onRaise (zA (m:=Builtin.SmallTypes.nextOf (.ref i1)) (Q3 (C1 h1 fun o e=>ka _ o D.i1z e) (V1 t1 fun o e=>ka _ o D.l1z e) hx fun hb ib sb=>zC ?_))));have kb:∀c o,c≠z->c≠i1->s.heap.get? c=some o->hb.get? c=some o:=fun c o n n1 e=>sb.extBut c o n1 (ka c o n e);have ob:IsPair hb TO a b:=kb _ _ D.TOz D.TOi1 hTO;refine zA (xV ob rfl (zA (wpAny_updateSeq_pair ob fun hc oc sc=>?_)));have oc':IsPair hc TO x b:=oc;have kc:∀c o,c≠z->c≠i1->c≠TO->s.heap.get? c=some o->hc.get? c=some o:=fun c o n n1 n2 e=>sc.extBut c o n2 (kb c o n n1 e);refine zA (wpAny_letGo (zC ?_));refine zA (zA (wpAny_onRaise (zA (m:=Builtin.SmallTypes.nextOf (.ref i2)) (Q3 (C1 h2 fun o e=>kc _ o D.i2z D.i12.symm D.TOi2.symm e) (V1 t2 fun o e=>kc _ o D.l2z D.l2i1 D.l2TO e) hy fun hd id' sd=>zC ?_))));have od:IsPair hd TO x b:=sd.extBut _ _ D.TOi2 oc';refine zA (xV od rfl (zA (wpAny_updateSeq_pair od fun he oe se=>?_)));have oe':IsPair he TO x y:=oe;refine zA (wpAny_letGo (zC (zC ?_)));refine zA (xV oe' rfl (zA (wpAny_newTuple ?_)));have size:he.objs.size=s.heap.objs.size:=by rw[se.1,sd.1,sc.1,sb.1,sa.1]
 have ke:∀c o,c≠z->c≠TO->c≠i1->c≠i2->s.heap.get? c=some o->he.get? c=some o:=fun c o n n1 n2 n3 e=>se.extBut c o n1 (sd.extBut c o n3 (kc c o n n2 n1 e));have ze:IsZip he z TI TO .ellipsis:=se.extBut _ _ D.TOz.symm (sd.extBut _ _ D.i2z.symm (sc.extBut _ _ D.TOz.symm (sb.extBut _ _ D.i1z.symm za')));have ie1:SIt c1 he i1 l1 (k1+1):=C1 ib fun o e=>se.extBut _ o D.TOi1.symm (sd.extBut _ o D.i12 (sc.extBut _ o D.TOi1.symm e));have ie2:SIt c2 he i2 l2 (k2+1):=C1 id' fun o e=>se.extBut _ o D.TOi2.symm e;have zlt:z<he.objs.size:=zW ze;refine zA (m:=Builtin.SmallTypes.ownedTupleHandOut (.ref z) (.ref he.objs.size)) ?_;unfold Builtin.SmallTypes.ownedTupleHandOut;have zp:IsZip (he.push {cls:=.type "tuple",data:=.seq #[x,y]}) z TI TO .ellipsis:=zE _ ze;refine zA (yB zp (by simp) fun hf zf sf=>?_)
 have zf':IsZip hf z TI TO (rawInt he.objs.size):=zf;refine yB zf' (by simp) fun hg zg sg=>?_
 have zg':IsZip hg z TI TO (rawInt he.objs.size):=zg;have up:∀c o,c≠z->he.get? c=some o->hg.get? c=some o:=fun c o n e=>sg.extBut c o n (sf.extBut c o n (zE _ e));have pg:IsPair hg he.objs.size x y:=sg.extBut _ _ (Nat.ne_of_gt zlt) (sf.extBut _ _ (Nat.ne_of_gt zlt) (qA _ rfl));have szg:hg.objs.size=he.objs.size+1:=by rw[sg.1,sf.1,size_push]
 rw[size] at zg' pg szg;refine zC ⟨_,rfl,?_⟩;show Q (.ref he.objs.size) _;rw[size];exact q hg zg' (up _ _ D.TOz oe') (C1 ie1 fun o e=>up _ o D.i1z e) (C1 ie2 fun o e=>up _ o D.i2z e) pg szg fun c o n n1 n2 n3 e=>up c o n (ke c o n n1 n2 n3 e)
end
section
variable {prog:Program}{w:World}{A:Around}{E:Value->Shared->Prop}{s:Shared}{c1 c2:Bool}{z TI TO i1 i2 l1 l2:Addr}{k1 k2:Nat}{xs ys:Array Value}{x y a b:Value}
theorem a65 {Q:Fin->Shared->Prop}(hh:A.handled=none)(D:ZipApart z TI TO i1 i2 l1 l2)(hz:IsZip s.heap z TI TO .none)(hTI:IsPair s.heap TI (.ref i1) (.ref i2))(hTO:IsPair s.heap TO a b)
  (h1:SIt c1 s.heap i1 l1 k1) (h2:SIt c2 s.heap i2 l2 k2) (t1:SSq c1 s.heap l1 xs) (t2:SSq c2 s.heap l2 ys) (hend:xs[k1]? =none\/ys[k2]? =none)
  (q:∀h' c,(∀c o,c≠z->c≠TO->c≠i1->c≠i2->s.heap.get? c=some o->h'.get? c=some o)->(∃o,h'.get? c=some o/\o.cls= .type "StopIteration")->E (.ref c) {s with heap:=h'}):
  wpAny (model prog w) A (Builtin.«zip.__next__» ⟨[.ref z],[]⟩) Q E s:=by
 refine zA (m:=field (.ref z) 2) (jM hz rfl (x:=.bool false) rfl ?_);refine zA (m:=field (.ref z) 3) (jM hz rfl (x:=.ref TI) rfl (zA (xV hTI rfl ?_)));refine zA (m:=Builtin.SmallTypes.ownedTupleIsFree (.ref z)) ?_;unfold Builtin.SmallTypes.ownedTupleIsFree;refine zA (jM hz rfl (x:=.none) rfl (zC ?_));simp only[jL];refine zA (jP (zA (jM hz rfl (x:=.ref TO) rfl (zA (yB hz (by simp) fun ha za sa=>?_)))))
 have za':IsZip ha z TI TO .ellipsis:=za;have ka:∀c o,c≠z->s.heap.get? c=some o->ha.get? c=some o:=fun c o n e=>sa.extBut c o n e;have apart:∀{h:Heap} {c:Addr} {v:Value},IsZip h z TI TO v->(∃o,h.get? c=some o/\o.cls= .type "StopIteration")->c≠z:=fun{h c v} hz' ⟨o,e1,e2⟩ n=>by
  subst n;rw[hz'] at e1;cases e1;simp at e2
 refine zA ?_;simp only[zipIdx_cons,List.zipIdx_nil,List.forIn_cons,List.forIn_nil];cases hx:xs[k1]? with
 | none=>
  refine zA (zA (wpAny_onRaise (zA (m:=Builtin.SmallTypes.nextOf (.ref i1)) (a06 hh (C1 h1 fun o e=>ka _ o D.i1z e) (V1 t1 fun o e=>ka _ o D.l1z e) hx fun hb c kb hc=>?_))));have zb:IsZip hb z TI TO .ellipsis:=kb _ _ D.i1z.symm za';have nz:=apart zb hc;obtain⟨o,eo,co⟩:=hc;exact yB zb (by simp) fun hd _ sd=>q hd c (fun d o' n _ n2 _ e=>sd.extBut d o' n (kb d o' n2 (ka d o' n e))) ⟨o,sd.extBut _ _ nz eo,co⟩
 | some x=>
  have hy:ys[k2]? =none:=hend.resolve_left (by rw[hx];exact fun n=>nomatch n)
  refine zA (zA (wpAny_onRaise (zA (m:=Builtin.SmallTypes.nextOf (.ref i1)) (Q3 (C1 h1 fun o e=>ka _ o D.i1z e) (V1 t1 fun o e=>ka _ o D.l1z e) hx fun hb ib sb=>zC ?_))));have kb:∀c o,c≠z->c≠i1->s.heap.get? c=some o->hb.get? c=some o:=fun c o n n1 e=>sb.extBut c o n1 (ka c o n e);have ob:IsPair hb TO a b:=kb _ _ D.TOz D.TOi1 hTO;refine zA (xV ob rfl (zA (wpAny_updateSeq_pair ob fun hc oc sc=>?_)));have kc:∀c o,c≠z->c≠i1->c≠TO->s.heap.get? c=some o->hc.get? c=some o:=fun c o n n1 n2 e=>sc.extBut c o n2 (kb c o n n1 e);refine zA (wpAny_letGo (zC ?_));refine zA (zA (wpAny_onRaise (zA (m:=Builtin.SmallTypes.nextOf (.ref i2)) (a06 hh (C1 h2 fun o e=>kc _ o D.i2z D.i12.symm D.TOi2.symm e) (V1 t2 fun o e=>kc _ o D.l2z D.l2i1 D.l2TO e) hy fun hd c kd hc'=>?_))));have zd:IsZip hd z TI TO .ellipsis:=kd _ _ D.i2z.symm (sc.extBut _ _ D.TOz.symm (sb.extBut _ _ D.i1z.symm za'));have nz:=apart zd hc';obtain⟨o,eo,co⟩:=hc';exact yB zd (by simp) fun hf _ sf=>q hf c (fun d o' n n1 n2 n3 e=>sf.extBut d o' n (kd d o' n3 (kc d o' n n2 n1 e))) ⟨o,sf.extBut _ _ nz eo,co⟩
theorem a28 {Q:Option Value->Shared->Prop}(D:ZipApart z TI TO i1 i2 l1 l2)(hz:IsZip s.heap z TI TO .none)(hTI:IsPair s.heap TI (.ref i1) (.ref i2))(hTO:IsPair s.heap TO a b)
  (h1:SIt c1 s.heap i1 l1 k1) (h2:SIt c2 s.heap i2 l2 k2) (t1:SSq c1 s.heap l1 xs) (t2:SSq c2 s.heap l2 ys) (hx:xs[k1]? =some x) (hy:ys[k2]? =some y)
  (q:∀h',IsZip h' z TI TO (rawInt s.heap.objs.size)->IsPair h' TO x y->SIt c1 h' i1 l1 (k1+1)->SIt c2 h' i2 l2 (k2+1)->IsPair h' s.heap.objs.size x y->h'.objs.size=s.heap.objs.size+1->
   (∀c o,c≠z->c≠TO->c≠i1->c≠i2->s.heap.get? c=some o->h'.get? c=some o)->Q (some (.ref s.heap.objs.size)) {s with heap:=h'}):
  wpAny (model prog w) A (pyNext (.ref z)) Q E s:=by
 have T:s.TypeIs (.ref z) "zip":=⟨_,hz,rfl⟩;unfold pyNext
 exact zA (wpAny_attempt (qT (name:=Str.ofString "__next__") T F.slot_zip_next
  (qV F.slot_zip_next T F.entry_zip_next (a5F D hz hTI hTO h1 h2 t1 t2 hx hy fun h' b1 b2 b3 b4 b5 b6 b7=>zC (q h' b1 b2 b3 b4 b5 b6 b7)) (F.args_zip_next_1 _))))
theorem a5w {Q:Option Value->Shared->Prop}(hh:A.handled=none)(D:ZipApart z TI TO i1 i2 l1 l2)(hz:IsZip s.heap z TI TO .none)(hTI:IsPair s.heap TI (.ref i1) (.ref i2))(hTO:IsPair s.heap TO a b)
  (h1:SIt c1 s.heap i1 l1 k1) (h2:SIt c2 s.heap i2 l2 k2) (t1:SSq c1 s.heap l1 xs) (t2:SSq c2 s.heap l2 ys) (hend:xs[k1]? =none\/ys[k2]? =none)
  (q:∀h',(∀c o,c≠z->c≠TO->c≠i1->c≠i2->s.heap.get? c=some o->h'.get? c=some o)->Q none {s with heap:=h'}):wpAny (model prog w) A (pyNext (.ref z)) Q E s:=by
 have T:s.TypeIs (.ref z) "zip":=⟨_,hz,rfl⟩;unfold pyNext;refine zA (wpAny_attempt (qT (name:=Str.ofString "__next__") T F.slot_zip_next (qV F.slot_zip_next T F.entry_zip_next (a65 hh D hz hTI hTO h1 h2 t1 t2 hend fun h' c kp hc=>?_) (F.args_zip_next_1 _))));obtain⟨o,eo,co⟩:=hc;exact zA (wpAny_isInstance (T:="StopIteration") (b:=true) ⟨o,eo,co⟩ isSubtype_stop (zC (q _ kp)))
abbrev zp1 (b:Bool) (h:Heap) (l:Addr):Heap:=h.push {cls:=.type (itN b),data:=.fields #[.ref l,.int 0 0]}
abbrev zp3 (c1 c2:Bool) (h:Heap) (l m:Addr):Heap:=(zp1 c2 (zp1 c1 h l) m).push {cls:=.type "tuple",data:=.seq #[.ref h.objs.size,.ref (zp1 c1 h l).objs.size]}
abbrev zp4 (c1 c2:Bool) (h:Heap) (l m:Addr):Heap:=(zp3 c1 c2 h l m).push {cls:=.type "tuple",data:=.seq #[.none,.none]}
abbrev zp5 (c1 c2:Bool) (h:Heap) (l m:Addr):Heap:=(zp4 c1 c2 h l m).push {cls:=.type "zip",data:=.fields #[.none,.bool false,.bool false,.ref (zp1 c2 (zp1 c1 h l) m).objs.size,.ref (zp3 c1 c2 h l m).objs.size]}
theorem a7w (c1 c2:Bool)(l m:Addr)(xs ys:Array Value):Meets (Builtin.«zip.__new__» ⟨[.type "zip",.ref l,.ref m],[]⟩) (fun _ R s=>SSq c1 s.heap l xs/\SSq c2 s.heap m ys/\R (.ok (.ret (.ref (zp4 c1 c2 s.heap l m).objs.size))) {s with heap:=zp5 c1 c2 s.heap l m}):=
 .of_wp fun prog w A R s hh=>by
  obtain⟨hp,g,d,tk,os⟩:=s;obtain⟨p1,p2,hr⟩:=hh;have hsub:=sub_zip;have q1:SSq c1 (Shared.heap ⟨hp,g,d,tk,os⟩) l xs:=p1;have q2:SSq c2 (Shared.heap ⟨zp1 c1 hp l,g,d,tk,os⟩) m ys:=V1 p2 fun o e=>zE _ e
  wp_walk using iterS q1,iterS q2
  exact⟨_,rfl,hr⟩
theorem a5E {Q:Value->Shared->Prop}(p1:SSq c1 s.heap l1 xs)(p2:SSq c2 s.heap l2 ys)
  (q:∀h',IsZip h' (s.heap.objs.size+4) (s.heap.objs.size+2) (s.heap.objs.size+3) .none->IsPair h' (s.heap.objs.size+2) (.ref s.heap.objs.size) (.ref (s.heap.objs.size+1))->IsPair h' (s.heap.objs.size+3) .none .none->
   SIt c1 h' s.heap.objs.size l1 0->SIt c2 h' (s.heap.objs.size+1) l2 0->(∀c o,s.heap.get? c=some o->h'.get? c=some o)->Q (.ref (s.heap.objs.size+4)) {s with heap:=h'}):
  wpAny (model prog w) A (call (.type "zip") [.ref l1,.ref l2]) Q E s:=by
 refine callType_new F.called_zip (by decide) (F.typeCall_zip_2 _ _) (F.newCall_zip_2 _ _) (fun obj=>F.args_object_init_3 obj _ _) F.entry_zip_new (a7w c1 c2 l1 l2 xs ys) ⟨p1,p2,?_⟩
 have n1:(zp1 c1 s.heap l1).objs.size=s.heap.objs.size+1:=size_push ..;have n2:(zp1 c2 (zp1 c1 s.heap l1) l2).objs.size=s.heap.objs.size+2:=by rw[size_push,n1]
 have n3:(zp3 c1 c2 s.heap l1 l2).objs.size=s.heap.objs.size+3:=by rw[size_push,n2]
 have n4:(zp4 c1 c2 s.heap l1 l2).objs.size=s.heap.objs.size+4:=by rw[size_push,n3]
 have up:∀{h:Heap} {c:Addr} {o p:PySem.Obj},h.get? c=some o->(h.push p).get? c=some o:=fun e=>zE _ e;have r5:(zp5 c1 c2 s.heap l1 l2).get? (zp4 c1 c2 s.heap l1 l2).objs.size=some _:=qA _ rfl;have r4:(zp5 c1 c2 s.heap l1 l2).get? (zp3 c1 c2 s.heap l1 l2).objs.size=some _:=up (qA _ rfl);have r3:(zp5 c1 c2 s.heap l1 l2).get? (zp1 c2 (zp1 c1 s.heap l1) l2).objs.size=some _:=up (up (qA _ rfl));have r2:(zp5 c1 c2 s.heap l1 l2).get? (zp1 c1 s.heap l1).objs.size=some _:=up (up (up (qA _ rfl)));have r1:(zp5 c1 c2 s.heap l1 l2).get? s.heap.objs.size=some _:=up (up (up (up (qA _ rfl))));rw[n2,n3,n4] at r5;rw[n1,n2] at r3;rw[n3] at r4;rw[n1] at r2;show _/\_;rw[n4];exact⟨⟨_,r5,rfl⟩,q _ r5 r3 r4 (a47 r1) (a47 r2) fun c o e=>up (up (up (up (up e))))⟩
end
theorem a0T {xs:List V}{us:List Value}{i:Nat}(r:Vals xs us)(e:xs[i]? =none):us.toArray[i]? =none:=by
 have:=r.length
 rw[yJ] at e;rw[List.getElem?_toArray,yJ];walk_at "o"
def ItzT (c1 c2:Bool) (K:PySem.W.Frag) (l1 l2:Addr):It:=
 ⟨fun i H=>∃xs ys x y,SqK c1 K H l1 xs/\SqK c2 K H l2 ys/\xs[i]? =some x/\ys[i]? =some y,
  fun i H v H'=>∃T x y,v= .ref T/\H T=none/\H'=upd H T (.tup [x,y])/\(∀xs,SqK c1 K H l1 xs->xs[i]? =some x)/\∀ys,SqK c2 K H l2 ys->ys[i]? =some y,
  fun i H=>∃xs ys,SqK c1 K H l1 xs/\SqK c2 K H l2 ys/\(xs[i]? =none\/ys[i]? =none)⟩
def zipTt (c1 c2:Bool) (z TI TO i1 i2 l1 l2:Addr) (i:Nat) (h:Heap):Prop:=IsZip h z TI TO .none/\IsPair h TI (.ref i1) (.ref i2)/\(∃a b,IsPair h TO a b)/\SIt c1 h i1 l1 i/\SIt c2 h i2 l2 i
theorem a5W {P:Program}{w:World}{K:PySem.W.Frag}{es:List Expr}{kt:Nat}{pt:Pos}{c1 c2:Bool}{z TI TO i1 i2 l1 l2:Addr}(D:ZipApart z TI TO i1 i2 l1 l2):
  Turn P w K (.Tuple es kt pt) (ItzT c1 c2 K l1 l2) [z,TI,TO,i1,i2] z (zipTt c1 c2 z TI TO i1 i2 l1 l2) where
 mem:=by simp
 obj:=fun i h st b hb=>by
  obtain⟨hz,hTI,⟨a,b',hTO⟩,s1,s2⟩:=st;obtain⟨o1,e1,d1⟩:=N8 s1;obtain⟨o2,e2,d2⟩:=N8 s2;simp only[zS,yX,or_false] at hb;rcases hb with rfl|rfl|rfl|rfl|rfl
  ·exact⟨_,hz,fun v z=>nomatch z⟩
  ·exact⟨_,hTI,fun v z=>nomatch z⟩
  ·exact⟨_,hTO,fun v z=>nomatch z⟩
  ·exact⟨_,e1,d1⟩
  ·exact⟨_,e2,d2⟩
 keep:=fun i h h' st k=>by
  obtain⟨hz,hTI,⟨a,b',hTO⟩,h1,h2⟩:=st;exact⟨k z (by simp) _ hz,k TI (by simp) _ hTI,⟨a,b',k TO (by simp) _ hTO⟩,C1 h1 fun o e=>k i1 (by simp) o e,C1 h2 fun o e=>k i2 (by simp) o e⟩
 item:=by
  intro X hP hw hK hc i pins s σ H E I hf st hg;subst hP hw hK;obtain⟨xs,ys,x,y,q1,q2,ex,ey⟩:=hg;obtain⟨its1,r1,p1⟩:=sqk I q1;obtain⟨its2,r2,p2⟩:=sqk I q2;obtain⟨u,hu,ru⟩:=r1.get ex;obtain⟨v,hv,rv⟩:=r2.get ey;obtain⟨hz,hTI,⟨a,b,hTO⟩,h1,h2⟩:=st;have l1:∀{c o},s.heap.get? c=some o->c≠s.heap.objs.size:=fun e=>zV (zW e);refine a28 D hz hTI hTO h1 h2 p1 p2 (x:=u) (y:=v) (by simpa using hu) (by simpa using hv) fun h' a1 a2 a3 a4 a5 a6 hk=>⟨_,rfl,?_⟩
  refine wpAny_letOwnedTupleGo_zip a1 fun h2' b1 b2=>?_;have ez:z<s.heap.objs.size:=zW hz;have nT:s.heap.objs.size≠z:=Nat.ne_of_gt ez;have kp:∀c o,c∉[z,TI,TO,i1,i2]->s.heap.get? c=some o->h2'.get? c=some o:=fun c o hc e=>by
   simp only[zS,yX,or_false,not_or] at hc;exact(b2.2 c hc.1).trans (hk c o hc.1 hc.2.2.1 hc.2.2.2.1 hc.2.2.2.2 e)
  have fr:H s.heap.objs.size=none:=I.hok.fresh (zD _);have tr:∀c w,H c=some w->c∉[z,TI,TO,i1,i2]:=fun c w e hc=>by rw[(hf c hc).1] at e;cases e
  have st':zipTt c1 c2 z TI TO i1 i2 _ _ (i+1) h2':=⟨b1,(b2.2 _ D.TIz).trans (hk _ _ D.TIz D.TITO D.TIi1 D.TIi2 hTI),⟨_,_,(b2.2 _ D.TOz).trans a2⟩,C1 a3 fun o e=>(b2.2 _ D.i1z).trans e,C1 a4 fun o e=>(b2.2 _ D.i2z).trans e⟩;have five:∀c∈[z,TI,TO,i1,i2],∃o,h2'.get? c=some o:=fun c hc=>by
   obtain⟨q1,q2,⟨_,_,q3⟩,s4,s5⟩:=st';obtain⟨_,q4,_⟩:=N8 s4;obtain⟨_,q5,_⟩:=N8 s5;simp only[zS,yX,or_false] at hc;rcases hc with rfl|rfl|rfl|rfl|rfl
   ·exact⟨_,q1⟩
   ·exact⟨_,q2⟩
   ·exact⟨_,q3⟩
   ·exact⟨_,q4⟩
   ·exact⟨_,q5⟩
  have hb5:h2'.get? s.heap.objs.size=some {cls:=.type "tuple",data:=.seq #[u,v]}:=(b2.2 _ nT).trans a5
  have un:Un (frs X.stack) [z,TI,TO,i1,i2] H (upd H s.heap.objs.size (.tup [x,y])) s.heap h2':=⟨fun c o e n hfs hx=>kp c o hx e,fun c o e n hfs hx=>⟨o.slots,kp c o hx e⟩,fun c o e n hx=>by rw[g9 (l1 e)];exact n,fun c o e hx=>⟨o,kp c o hx e⟩,
   fun c ws e=>by rw[g9 (m9 e fr)];exact e,fun c o w e=>by rw[g9 (m9 e fr)];exact e,fun c ps e=>⟨#[],by rw[g9 (m9 e fr),e];simp⟩⟩
  have hok:HOk X.prog X.w (upd H s.heap.objs.size (.tup [x,y])) h2':=fun c w e=>by
   by_cases hc:c=s.heap.objs.size
   ·subst hc;rw[m6] at e;cases e;exact⟨by show 2<=sizeLine;rw[xD];decide,[u,v],.cons ru (.cons rv .nil),⟨_,hb5,rfl,⟨_,rfl⟩,rfl⟩⟩
   ·rw[g9 hc] at e
    refine(I.hok c w e).stay (fun c' o hc' e'=>kp c' o (by
     rcases hc' with rfl|hc'
     ·exact tr _ _ e
     ·exact tr _ _ hc') e') (fun c' q=>by rw[g9 (m9 q fr)];exact q) fun c' ws q=>by rw[g9 (m9 q fr)];exact q
  have I1:Inv X pins σ (upd H s.heap.objs.size (.tup [x,y])) {s with heap:=h2'}:=I.call' (s':={s with heap:=h2'}) (ch:=[z,TI,TO,i1,i2]) rfl un hok I.bare fun c hc=>⟨(hf c hc).2.2.2.1,(hf c hc).2.1,(hf c hc).2.2.2.2.1,(hf c hc).2.2.2.2.2⟩
  exact⟨.ref s.heap.objs.size,_,I1,rfl,⟨_,x,y,rfl,fr,rfl,fun ws hw=>by rw[a4T I hw q1];exact ex,fun ws hw=>by rw[a4T I hw q2];exact ey⟩,st',fun c hc=>by
   obtain⟨o,e⟩:=five c hc
   have:c≠s.heap.objs.size:=fun z=>by
    subst z
    have:=(hf _ hc)
    obtain⟨q1,q2,⟨_,_,q3⟩,s4,s5⟩:=(⟨hz,hTI,⟨a,b,hTO⟩,h1,h2⟩:zipTt c1 c2 z TI TO i1 i2 _ _ i s.heap);obtain⟨_,q4,_⟩:=N8 s4;obtain⟨_,q5,_⟩:=N8 s5;simp only[zS,yX,or_false] at hc;rcases hc with rfl|rfl|rfl|rfl|rfl
    ·exact l1 q1 rfl
    ·exact l1 q2 rfl
    ·exact l1 q3 rfl
    ·exact l1 q4 rfl
    ·exact l1 q5 rfl
   rw[g9 this];exact(hf c hc).1⟩
 done:=by
  intro X hP hw hK hc i pins s σ H E I hf st hg;subst hP hw hK;obtain⟨xs,ys,q1,q2,hend⟩:=hg;obtain⟨its1,r1,p1⟩:=sqk I q1;obtain⟨its2,r2,p2⟩:=sqk I q2;obtain⟨hz,hTI,⟨a,b,hTO⟩,h1,h2⟩:=st;refine a5w (I.ok.hd hc) D hz hTI hTO h1 h2 p1 p2 (hend.imp (a0T r1) (a0T r2)) fun h' hk=>⟨rfl,?_⟩;have kp:∀c o,c∉[z,TO,i1,i2]->s.heap.get? c=some o->h'.get? c=some o:=fun c o hc e=>by
   simp only[zS,yX,or_false,not_or] at hc;exact hk c o hc.1 hc.2.1 hc.2.2.1 hc.2.2.2 e
  have sub:∀c∈[z,TO,i1,i2],c∈[z,TI,TO,i1,i2]:=fun c hc=>by simp at hc ⊢;rcases hc with h|h|h|h<;>simp[h]
  have un:Un (frs X.stack) [z,TO,i1,i2] H H s.heap h':=⟨fun c o e n hfs hx=>kp c o hx e,fun c o e n hfs hx=>⟨o.slots,kp c o hx e⟩,fun c o e n hx=>n,fun c o e hx=>⟨o,kp c o hx e⟩,fun c ws e=>e,fun c o w e=>e,fun c ps e=>⟨#[],by rw[e];simp⟩⟩
  have tr:∀c w,H c=some w->c∉[z,TO,i1,i2]:=fun c w e hc=>by rw[(hf c (sub c hc)).1] at e;cases e
  have hok:HOk X.prog X.w H h':=fun c w e=>(I.hok c w e).stay (fun c' o hc' e'=>kp c' o (by
   rcases hc' with rfl|hc'
   ·exact tr _ _ e
   ·exact tr _ _ hc') e') (fun _ q=>q) fun _ _ q=>q
  exact I.call' (s':={s with heap:=h'}) (ch:=[z,TO,i1,i2]) rfl un hok I.bare fun c hc=>⟨(hf c (sub c hc)).2.2.2.1,(hf c (sub c hc)).2.1,(hf c (sub c hc)).2.2.2.2.1,(hf c (sub c hc)).2.2.2.2.2⟩
 self:=fun _ _ _ _ _ st h=>wpAny_pyIter_zip st.1 h
def kd:D->Bool
 | .lst _=>true
 | _=>false
theorem a10 {K:PySem.W.Frag}{A:Av}{H:Hp}{d:D}{v:V}{xs:List D}(e:items d=some xs)(h:Den K A H d v):∃a vs,v= .ref a/\SqK (kd d) K H a vs/\DenL K A H xs vs:=by
 cases d with
 | tup zs=>cases e;rw[Den] at h;exact h
 | lst zs=>cases e;obtain⟨a,vs,e,hq,l⟩:=D1 h;exact⟨a,vs,e,hq,l⟩
 | _=>cases e
section
variable {X:Cx}{a b:Expr}{p pos:Pos}{fa:FA}{es:List Expr}{kt:Nat}{pt:Pos}
def iZip (K:PySem.W.Frag) (ta:TA):TI:=fun σ H R=>ta σ H fun vs H1=>∃c1 c2 l1 l2,vs=[.ref l1,.ref l2]/\(∃xs,SqK c1 K H1 l1 xs)/\(∃ys,SqK c2 K H1 l2 ys)/\R (ItzT c1 c2 K l1 l2) H1
theorem b1p {ta:TA}(hg:Gl X "zip")(hm:X.mg "zip"=none)(ha:PA X [a,b] ta)(hs:starEach [a,b] X.env=(false,eval a X.env)::starEach [b] X.env:=by rfl)(hpl:(backTo pos (starEach [b] X.env)).any (·.1)=false:=by rfl)(hbt:bootBuiltins "zip"=some (.type "zip"):=by rfl):
  PI X (.Tuple es kt pt) (.Call (.Name "zip" p) [a,b] [] pos) (iZip X.K ta):=by
 intro pins s σ H R I h;refine Call_ (J5 I hg hm hbt (jF (thn (ha pos pins s σ H _ I h) fun us s1 ⟨vs,H1,I1,r1,q1⟩=>?_) hs hpl) (by decide) (by decide))
 obtain⟨c1,c2,l1,l2,rfl,⟨xs,h1⟩,⟨ys,h2⟩,q⟩:=q1;obtain⟨u1,u2,rfl,ru1,ru2⟩:=vals2 r1;cases ru1;cases ru2;obtain⟨its1,_,p1⟩:=sqk I1 h1;obtain⟨its2,_,p2⟩:=sqk I1 h2;refine a5E p1 p2 fun h' d1 d2 d3 d4 d5 d7=>?_;refine wpAny_pyIter_zip d1 ?_;refine⟨_,[s1.heap.objs.size+4,s1.heap.objs.size+2,s1.heap.objs.size+3,s1.heap.objs.size,s1.heap.objs.size+1],_,_,H1,rfl,I1.kept (t':=s1.toks) fun c o e0=>d7 c o e0,a5W (zipApart_new (a73 p1) (a73 p2)),⟨d1,d2,⟨_,_,d3⟩,d4,d5⟩,fun c hc=>?_,q⟩;have le:s1.heap.objs.size<=c:=by simp only[zS,yX,or_false] at hc;rcases hc with h|h|h|h|h<;>(rw[h];first|exact Nat.le_add_right _ _|exact zD _)
 exact I1.fpOk le (I1.hok.fresh le)
def zipD (xs ys:List D):List D:=List.zipWith (fun x y=>.tup [x,y]) xs ys
def enumD (xs:List D):List D:=xs.mapIdx fun(i:Nat) x=>.tup [.int i,x]
def fiZip (fa:FA):FI:=fun ρ=>(fa ρ).bind fun p=>(takeAll p.2 p.1).bind fun q=>match q.1 with
 | [x,y]=>(items x).bind fun xs=>(items y).map fun ys=>(zipD xs ys,q.2)
 | _=>none
def fiEnum (fa:FA):FI:=fun ρ=>(fa ρ).bind fun p=>(takeAll p.2 p.1).bind fun q=>match q.1 with
 | [x]=>(items x).map fun xs=>(enumD xs,q.2)
 | _=>none
theorem b1r (hm:X.mg "zip"=none)(ha:QA X [a,b] fa)(hg:Gl X "zip":=by rfl)(hs:starEach [a,b] X.env=(false,eval a X.env)::starEach [b] X.env:=by rfl)(hpl:(backTo pos (starEach [b] X.env)).any (·.1)=false:=by rfl)(hbt:bootBuiltins "zip"=some (.type "zip"):=by rfl):
  QI X (.Tuple es kt pt) (.Call (.Name "zip" p) [a,b] [] pos) (fiZip fa):=⟨PI.weak (b1p hg hm ha.to hs hpl hbt) fun σ H R h0=>tIe h0 fun P O L ρ xs ρ' r e q=>by
 unfold fiZip at e;obtain⟨⟨ws,ρ1⟩,e1,e⟩:=obs e;dsimp only at e;obtain⟨⟨ds,ρ2⟩,e2,e⟩:=obs e;dsimp only at e;split at e
 ·rename_i x y;cases e3:items x with
  | none=>rw[e3] at e;cases e
  | some xs'=>
   cases e4:items y with
   | none=>rw[e3,e4] at e;cases e
   | some ys'=>
    rw[e3,e4] at e;cases e;refine⟨P,O,L,ρ,ws,ρ1,r,e1,fun vs H1 r1 l1=>?_⟩;obtain⟨r2,l2,_⟩:=o4 r1 e2 l1;obtain⟨v,u,rfl,hv,hu⟩:=denL2 l2;obtain⟨a1,vs1,rfl,s1,m1⟩:=a10 e3 hv;obtain⟨a2,vs2,rfl,s2,m2⟩:=a10 e4 hu;have r3:=(r2.more (p:=(y,.ref a2)) hu).more (p:=(x,.ref a1)) hv;refine⟨kd x,kd y,a1,a2,rfl,⟨vs1,s1⟩,⟨vs2,s2⟩,q _ H1 _ r3 (fun p hp=>zL _ (zL _ hp)) fun Y O' L' ρ' σ' Hh hY rr=>?_⟩;have z1:=rr.prot _ zM;have z2:=rr.prot _ (zL _ zM);rw[hY] at z1 z2;obtain⟨b1,ws1,ev1,q1,n1⟩:=a10 e3 z1;obtain⟨b2,ws2,ev2,q2,n2⟩:=a10 e4 z2;cases ev1;cases ev2;refine⟨fun i z ez=>?_,ws1,ws2,q1,q2,?_⟩
    ·unfold zipD at ez;rw[List.getElem?_zipWith] at ez;cases g1:xs'[i]? with
     | none=>rw[g1] at ez;cases ez
     | some x0=>
      cases g2:ys'[i]? with
      | none=>rw[g1,g2] at ez;cases ez
      | some y0=>
       rw[g1,g2] at ez;cases ez;obtain⟨v1,k1,t1⟩:=z6 n1 g1;obtain⟨v2,k2,t2⟩:=z6 n2 g2;refine⟨⟨ws1,ws2,v1,v2,q1,q2,k1,k2⟩,fun w H' ⟨T,x1,y1,ew,hT,eH,f1,f2⟩=>?_⟩;subst ew eH;have g3:=f1 ws1 q1;have g4:=f2 ws2 q2;rw[k1] at g3;cases g3;rw[k2] at g4;cases g4;have sm:=j7 hT (.tup [v1,v2]);refine⟨sm,?_⟩;rw[Den];exact⟨T,[v1,v2],rfl,.inl (.inl m6),j4 (S3 sm t1) (j4 (S3 sm t2) j6)⟩
    ·have k1:=b9 n1;have k2:=b9 n2;unfold zipD;rw[List.length_zipWith,yJ,yJ];walk_at "o"
 ·cases e⟩
end
section
variable {X:Cx}{a b e e' o:Expr}{pos p p2 p3:Pos}{f h:FX}{t u:FT}{fa:FA}
theorem a3o {acc:Array Value}{n:Nat}(h:ItemsOf (fun i v=>∃t,v= .int (0+(i:Int)*1) t) acc n):Vals (((List.range n).map fun(i:Nat)=>(i:Int)).map V.int) acc.toList:=by
 have key:∀(l:List Value) (k:Nat),(∀i v,l[i]? =some v->∃t,v=Value.int ((k+i:Nat):Int) t)->Vals (((List.range' k l.length).map fun i=>((i:Nat):Int)).map V.int) l:=by
  intro l
  induction l with
  | nil=>intro k _;exact .nil
  | cons v l ih=>
   intro k hv;rw[qB,List.range'_succ,zP,zP];refine .cons ?_ (ih (k+1) fun i u e=>?_)
   ·obtain⟨t,e⟩:=hv 0 v rfl;exact⟨t,e⟩
   ·obtain⟨t,e'⟩:=hv (i+1) u (by simpa using e)
    exact⟨t,by rw[e'];congr 2;walk_at "o"⟩
 have z:=key acc.toList 0 fun i v e=>by
  obtain⟨t,ev⟩:=h.2 i v (by rw[<-zR];exact e)
  exact⟨t,by rw[ev];congr 1;walk_at "o"⟩
 rw[List.range_eq_range'];rw[zK,h.1] at z;exact z
def fListR (fa:FA):FX:=fun ρ=>(fa ρ).bind fun p=>match p.1 with
 | [.v (.int n)]=>if 0<=n/\n<=1000 then some (.o (.lst (rngD 0 n.toNat)),p.2) else none
 | _=>none
theorem a5n (n:Nat):rngD 0 n=((List.range n).map fun(i:Nat)=>(i:Int)).map D.int:=by
 unfold rngD;rw[qC];apply qS;intro i _;simp
theorem a6w (hc:X.calm=true)(hmL:X.mg "list"=none)(hmR:X.mg "range"=none)(ha:QA X [a] fa)(hbL:bootBuiltins "list"=some (.type "list"):=by rfl)(hgL:Gl X "list":=by rfl)(hgR:Gl X "range":=by rfl)
  (h1:starEach [.Call (.Name "range" p2) [a] [] p3] X.env=[(false,eval (.Call (.Name "range" p2) [a] [] p3) X.env)]:=by rfl) (h2:starEach [a] X.env=[(false,eval a X.env)]:=by rfl):
  QX X (.Call (.Name "list" p) [.Call (.Name "range" p2) [a] [] p3] [] pos) (fListR fa):=⟨fun pins s σ H Q I h0=>tXe h0 fun P O L ρ w ρ' rp e q=>by
 unfold fListR at e;obtain⟨⟨ws,ρ1⟩,e1,e⟩:=obs e;dsimp only at e;split at e
 ·rename_i n;split at e
  ·rename_i hn;cases e;refine yT (J5 I hgL hmL hbL ?_ (by decide) (by decide))
   refine jF ?_ h1 rfl;rw[h1];refine Calls.spliced_cons ?_;refine yT (J5 I hgR hmR boot_range ?_ (by decide) (by decide))
   refine jF (zZ (ha.to p3 pins s σ H (fun vs H1=>Rep X P O L ρ' σ H1/\vs=[.int n]) I ⟨P,O,L,ρ,_,_,rp,e1,fun vs H1 r1 l1=>⟨r1,?_⟩⟩) (fun us s1 ⟨vs,H1,I1,r1,rp1,l1⟩=>?_) fun _ _ z=>z) h2 rfl
   ·obtain⟨v,rs,rfl,h1,l1⟩:=l1;have l1:rs=[]:=l1;have h1:Den X.K (AvO O ρ' σ) H1 (.int n) v:=h1;subst l1;rw[w9.mp h1]
   subst l1;obtain⟨u,rfl,t,rfl⟩:=vals1 r1;refine call_range_1 (Calls.spliced_nil ?_);have I2:Inv X pins σ H1 {s1 with heap:=s1.heap.push {cls:=.type "range",data:=.fields #[.int 0 s1.toks,.int n t,.int 1 (s1.toks+1)]},toks:=s1.toks+1+1}:=I1.kept fun b o e=>zE _ e
   refine call_list_range (n:=n.toNat) (I.ok.hd hc) (IsRange.new ..) (small_one (by walk_at "o") (by walk_at "o") (by walk_at "o") (by walk_at "o")) (by rw[rangeSize_one];split<;>walk_at "o") (by walk_at "o") fun h' tk acc ep kp hl it=>?_
   have hv:=a3o it;refine⟨.ref _,_,I2.laid (t':=tk) (o:=.lst (((List.range n.toNat).map fun(i:Nat)=>(i:Int)).map V.int)) kp (zD _) ?_,rfl,q _ H1 _ rp1 (j7 (I2.hok.fresh (zD _)) _) (by rw[a5n];exact A5 (I2.hok.fresh (zD _)) (G5 _))⟩
   refine⟨?_,acc.toList,ep,hv,by rw[Array.toArray_toList];exact hl⟩
   rw[zB,zB,yC,xD];walk_at "o"
  ·cases e
 ·cases e⟩
def fCnt (f:FX) (fa:FA):FX:=fun ρ=>(f ρ).bind fun p=>(dr p.2 p.1.fz).bind fun d=>match d with
 | .tup _=>(fa p.2).bind fun q=>(dr q.2 p.1.fz).bind fun y=>match y,q.1 with
  | .tup xs,[.v (.int i)]=>(intsOf xs).map fun ns=>(.v (.int (ns.count i:Nat)),q.2)
  | _,_=>none
 | _=>none
def fDNew:FX:=fun ρ=>some (.o (.dK [] []),ρ)
def fDNewT:FX:=fun ρ=>some (.o (.dT [] []),ρ)
theorem a8g:QX X (.Dict [] [] pos) fDNew:=⟨PE.weak a7Q fun σ H Q h0=>tXe h0 fun P O L ρ w ρ' r e q=>by
 cases e
 exact fun p hp=>q _ H _ r (j7 hp _) ⟨p,rfl,hp,[],m6,rfl,j6⟩⟩
theorem a6O:QX X (.Dict [] [] pos) fDNewT:=⟨PE.weak a6m fun σ H Q h0=>tXe h0 fun P O L ρ w ρ' r e q=>by
 cases e
 exact fun p hp=>q _ H _ r (j7 hp _) ⟨p,rfl,hp,[],m6,rfl,j6⟩⟩
end
section
variable {f g:FX}{t:FT}{fa:FA}{ρ ρ1 ρ2:Ev}{w z:W}{ws:List W}{d e x y:D}{xs ys:List D}{i j k:Nat}{m n:Int}{b:Bool}
theorem it_t:items (.tup xs)=some xs:=rfl
theorem it_l:items (.lst xs)=some xs:=rfl
def iz2:Option (List W×Ev)->Option (List D×Ev)
 | some p=>(takeAll p.2 p.1).bind fun q=>match q.1 with
  | [x,y]=>(items x).bind fun xs=>(items y).map fun ys=>(zipD xs ys,q.2)
  | _=>none
 | none=>none
def iz3:Option (List D×Ev)->Option (List D×Ev)
 | some q=>match q.1 with
  | [x,y]=>(items x).bind fun xs=>(items y).map fun ys=>(zipD xs ys,q.2)
  | _=>none
 | none=>none
def iz4 (ρ:Ev):Option (List D)->Option (List D)->Option (List D×Ev)
 | some xs,some ys=>some (zipD xs ys,ρ)
 | _,_=>none
theorem r_iz:fiZip fa ρ=iz2 (fa ρ):=by unfold fiZip iz2;cases fa ρ<;>rfl
theorem a9U:iz2 (some (ws,ρ))=iz3 (takeAll ρ ws):=by unfold iz2 iz3;dsimp only;cases takeAll ρ ws<;>rfl
theorem b0p:iz3 (some ([x,y],ρ))=iz4 ρ (items x) (items y):=by unfold iz3 iz4;dsimp only;cases items x<;>cases items y<;>rfl
theorem a9B:iz4 ρ (some xs) (some ys)=some (zipD xs ys,ρ):=rfl
def ie2:Option (List W×Ev)->Option (List D×Ev)
 | some p=>(takeAll p.2 p.1).bind fun q=>match q.1 with
  | [x]=>(items x).map fun xs=>(enumD xs,q.2)
  | _=>none
 | none=>none
def ie3:Option (List D×Ev)->Option (List D×Ev)
 | some q=>match q.1 with
  | [x]=>(items x).map fun xs=>(enumD xs,q.2)
  | _=>none
 | none=>none
theorem r_ie:fiEnum fa ρ=ie2 (fa ρ):=by unfold fiEnum ie2;cases fa ρ<;>rfl
theorem r_ie2:ie2 (some (ws,ρ))=ie3 (takeAll ρ ws):=by unfold ie2 ie3;dsimp only;cases takeAll ρ ws<;>rfl
theorem r_ie3_t:ie3 (some ([.tup xs],ρ))=some (enumD xs,ρ):=rfl
theorem r_ie3_l:ie3 (some ([.lst xs],ρ))=some (enumD xs,ρ):=rfl
def jr1:Option (List W×Ev)->Option (List D×Ev)
 | some p=>match p.1 with
  | [.v (.int n)]=>if -(2^62)<=n/\n<2^62 then some (rngD 0 n.toNat,p.2) else none
  | _=>none
 | none=>none
def jr2:Option (List W×Ev)->Option (List D×Ev)
 | some p=>match p.1 with
  | [.v (.int m),.v (.int n)]=>if(-(2^62)<=m/\m<2^62)/\-(2^62)<=n/\n<2^62 then some (rngD m (n-m).toNat,p.2) else none
  | _=>none
 | none=>none
def lr2:Option (List W×Ev)->Option (W×Ev)
 | some p=>match p.1 with
  | [.v (.int n)]=>if 0<=n/\n<=1000 then some (.o (.lst (rngD 0 n.toNat)),p.2) else none
  | _=>none
 | none=>none
theorem r_r1:fiR1 fa ρ=jr1 (fa ρ):=by unfold fiR1 jr1;cases fa ρ<;>rfl
theorem a97:jr1 (some ([.v (.int n)],ρ))=if -(2^62)<=n/\n<2^62 then some (rngD 0 n.toNat,ρ) else none:=rfl
theorem r_r2:fiR2 fa ρ=jr2 (fa ρ):=by unfold fiR2 jr2;cases fa ρ<;>rfl
theorem a9D:jr2 (some ([.v (.int m),.v (.int n)],ρ))=if(-(2^62)<=m/\m<2^62)/\-(2^62)<=n/\n<2^62 then some (rngD m (n-m).toNat,ρ) else none:=rfl
theorem r_lr:fListR fa ρ=lr2 (fa ρ):=by unfold fListR lr2;cases fa ρ<;>rfl
theorem a9w:lr2 (some ([.v (.int n)],ρ))=if 0<=n/\n<=1000 then some (.o (.lst (rngD 0 n.toNat)),ρ) else none:=rfl
def cn2 (fa:FA):Option (W×Ev)->Option (W×Ev)
 | some p=>(dr p.2 p.1.fz).bind fun d=>match d with
  | .tup _=>(fa p.2).bind fun q=>(dr q.2 p.1.fz).bind fun y=>match y,q.1 with
   | .tup xs,[.v (.int i)]=>(intsOf xs).map fun ns=>(.v (.int (ns.count i:Nat)),q.2)
   | _,_=>none
  | _=>none
 | none=>none
def cn3 (fa:FA) (w:W) (ρ:Ev):Option D->Option (W×Ev)
 | some (.tup _)=>(fa ρ).bind fun q=>(dr q.2 w.fz).bind fun y=>match y,q.1 with
   | .tup xs,[.v (.int i)]=>(intsOf xs).map fun ns=>(.v (.int (ns.count i:Nat)),q.2)
   | _,_=>none
 | _=>none
def cn4 (w:W):Option (List W×Ev)->Option (W×Ev)
 | some q=>(dr q.2 w.fz).bind fun y=>match y,q.1 with
   | .tup xs,[.v (.int i)]=>(intsOf xs).map fun ns=>(.v (.int (ns.count i:Nat)),q.2)
   | _,_=>none
 | _=>none
def cn5 (ws:List W) (ρ:Ev):Option D->Option (W×Ev)
 | some y=>match y,ws with
   | .tup xs,[.v (.int i)]=>(intsOf xs).map fun ns=>(.v (.int (ns.count i:Nat)),ρ)
   | _,_=>none
 | _=>none
theorem r_cn:fCnt f fa ρ=cn2 fa (f ρ):=by unfold fCnt cn2;cases f ρ<;>rfl
theorem r_cn2:cn2 fa (some (w,ρ))=cn3 fa w ρ (dr ρ w.fz):=by
 unfold cn2 cn3;dsimp only;cases dr ρ w.fz with
 | none=>rfl
 | some d=>cases d<;>rfl
theorem r_cn3:cn3 fa w ρ (some (.tup xs))=cn4 w (fa ρ):=by unfold cn3 cn4;cases fa ρ<;>rfl
theorem r_cn4:cn4 w (some (ws,ρ))=cn5 ws ρ (dr ρ w.fz):=by unfold cn4 cn5;dsimp only;cases dr ρ w.fz<;>rfl
theorem a6R:fDNew ρ=some (.o (.dK [] []),ρ):=rfl
def ch2 (o o':D->D->Option W) (g h:FX):Option (W×Ev)->Option (W×Ev)
 | some p=>fChain o o' (fun _=>some p) g h p.2
 | none=>none
def ch3 (o o':D->D->Option W) (w:W) (h:FX):Option (W×Ev)->Option (W×Ev)
 | some q=>(dr q.2 w.fz).bind fun x=>(dr q.2 q.1.fz).bind fun y=>(o x y).bind fun d=>match d with
  | .v (.bl k)=>if k=true then(h q.2).bind fun z=>(dr z.2 q.1.fz).bind fun y=>(dr z.2 z.1.fz).bind fun z'=>(o' y z').map fun w=>(w,z.2) else some (.v (.bl false),q.2)
  | _=>none
 | none=>none
def ch4 (o o':D->D->Option W) (h:FX) (w:W) (ρ:Ev):Option D->Option D->Option (W×Ev)
 | some x,some y=>(o x y).bind fun d=>match d with
  | .v (.bl k)=>if k=true then(h ρ).bind fun z=>(dr z.2 w.fz).bind fun y=>(dr z.2 z.1.fz).bind fun z'=>(o' y z').map fun w=>(w,z.2) else some (.v (.bl false),ρ)
  | _=>none
 | _,_=>none
def ch5 (o':D->D->Option W) (h:FX) (w:W) (ρ:Ev):Option W->Option (W×Ev)
 | some (.v (.bl k))=>if k=true then bin3 o' w (h ρ) else some (.v (.bl false),ρ)
 | _=>none
theorem r_ch {o o':D->D->Option W}{h:FX}:fChain o o' f g h ρ=ch2 o o' g h (f ρ):=by unfold ch2;cases e:f ρ with
 | none=>unfold fChain;rw[e];rfl
 | some p=>unfold fChain;rw[e]
theorem r_ch2 {o o':D->D->Option W}{h:FX}:ch2 o o' g h (some (w,ρ))=ch3 o o' w h (g ρ):=by unfold ch2 ch3 fChain;dsimp only[bind_some];cases g ρ<;>rfl
theorem r_ch3 {o o':D->D->Option W}{h:FX}:ch3 o o' w h (some (z,ρ))=ch4 o o' h z ρ (dr ρ w.fz) (dr ρ z.fz):=by
 unfold ch3 ch4;dsimp only;cases dr ρ w.fz<;>cases dr ρ z.fz<;>rfl
theorem r_ch4 {o o':D->D->Option W}{h:FX}:ch4 o o' h w ρ (some x) (some y)=ch5 o' h w ρ (o x y):=by
 unfold ch4 ch5 bin3;dsimp only;cases o x y with
 | none=>rfl
 | some d=>
  dsimp only[bind_some];cases d with
  | v d=>cases d with
   | bl k=>cases h ρ<;>rfl
   | _=>rfl
  | _=>rfl
theorem r_ch5_t {o':D->D->Option W}{h:FX}:ch5 o' h w ρ (some (.v (.bl true)))=bin3 o' w (h ρ):=rfl
theorem r_ch5_f {o':D->D->Option W}{h:FX}:ch5 o' h w ρ (some (.v (.bl false)))=some (.v (.bl false),ρ):=rfl
def tc2 (k:Nat) (t:FT) (fe:FX):Option Ev->Option Ev
 | some ρ1=>(t ρ1).bind fun p=>if p.1=true then(fe p.2).bind (appTo k) else some p.2
 | none=>none
def tc3 (k:Nat) (fe:FX):Option (Bool×Ev)->Option Ev
 | some p=>if p.1=true then(fe p.2).bind (appTo k) else some p.2
 | none=>none
def tc4 (k:Nat):Option (W×Ev)->Option Ev
 | some p=>appTo k p
 | none=>none
def ap2 (k:Nat):Option (List D×Ev)->Option Ev
 | some q=>match q.1,ownAt q.2 k with
  | [d],some (.lst zs)=>if zs.length<lim then some (setOwn q.2 k (.lst (zs++[d]))) else none
  | _,_=>none
 | none=>none
def ap3 (k:Nat) (d:D) (ρ:Ev):Option D->Option Ev
 | some (.lst zs)=>if zs.length<lim then some (setOwn ρ k (.lst (zs++[d]))) else none
 | _=>none
theorem r_tc {gf:FG}{fe:FX}:turnC k gf t fe d ρ=tc2 k t fe (gf d ρ):=by unfold turnC tc2;cases gf d ρ<;>rfl
theorem a9K {fe:FX}:tc2 k t fe (some ρ)=tc3 k fe (t ρ):=by unfold tc2 tc3;dsimp only;cases t ρ<;>rfl
theorem a4l {fe:FX}:tc3 k fe (some (true,ρ))=tc4 k (fe ρ):=by unfold tc3 tc4;simp only[jL];cases fe ρ<;>rfl
theorem a4c {fe:FX}:tc3 k fe (some (false,ρ))=some ρ:=rfl
theorem a9k:tc4 k (some (w,ρ))=ap2 k (takeAll ρ [w.fz]):=by
 unfold tc4 appTo ap2;dsimp only;cases takeAll ρ [w.fz]<;>rfl
theorem b0n:ap2 k (some ([d],ρ))=ap3 k d ρ (ownAt ρ k):=by
 unfold ap2 ap3;dsimp only;cases ownAt ρ k with
 | none=>rfl
 | some x=>cases x<;>rfl
theorem a9u:ap3 k d ρ (some (.lst xs))=if xs.length<lim then some (setOwn ρ k (.lst (xs++[d]))) else none:=rfl
theorem a5K {C:Prop}{b:D->FS}{r:Option R}(e:loopF b xs ρ=r)(I:List D->Ev->Prop)(h0:I [] ρ)(st:∀d x ρ,x∈xs->d.length<xs.length->I d ρ->∃ρ',b x ρ=some (.nx ρ')/\I (d++[x]) ρ')(c:∀ρ',r=some (.nx ρ')->I xs ρ'->C):C:=by
 have key:∀(ys done:List D) (ρ:Ev),(∀y∈ys,y∈xs)->done.length+ys.length=xs.length->I done ρ->∃ρ',loopF b ys ρ=some (.nx ρ')/\I (done++ys) ρ':=by
  intro ys
  induction ys with
  | nil=>intro done ρ _ _ h;exact⟨ρ,rfl,by rw[jZ];exact h⟩
  | cons y ys ih=>
   intro done ρ hm hl h;rw[qB] at hl;obtain⟨ρ1,e1,i1⟩:=st done y ρ (hm y zM) (by walk_at "o") h
   obtain⟨ρ2,e2,i2⟩:=ih (done++[y]) ρ1 (fun a ha=>hm a (zL _ ha)) (by rw[zH,length_singleton];walk_at "o") i1
   exact⟨ρ2,by rw[loopF,e1];exact e2,by rw[qU] at i2;exact i2⟩
 obtain⟨ρ',e',i⟩:=key xs [] ρ (fun _ h=>h) (by simp) h0
 exact c ρ' (e.symm.trans e') (by simpa using i)
theorem U8 {C:Prop}{fi:FI}{js:List (Option Nat)}{gf:FG}{fe:FX}{r:Option (W×Ev)}(e:fComp fi (some (i,j)) js gf t fe ρ=r)(I:List D->Ev->List D->Prop)(ei:fi ρ=some (xs,ρ1))(hl:xs.length<=lim)(hj:(ownAt ρ1 j).isSome=true)
  (hI:∀d B zs,I d B zs->B.length=js.length) (h0:I [] (capE (some j) js ρ1) []) (st:∀d x B zs,x∈xs->I d B zs->zs.length<lim->∃B' zs',turnC js.length gf t fe x (B++acc zs)=some (B'++acc zs')/\I (d++[x]) B' zs'/\zs'.length<=zs.length+1)
  (fin:∀B zs,I xs B zs->lfL zs=true/\∃c,ownAt (B++acc zs) i=some c/\lfC c=true) (c:∀B zs c,I xs B zs->ownAt (B++acc zs) i=some c->r=some (.o (.lst zs),setOwn ρ1 j c)->C):C:=by
 have key:∀(ys done:List D) (B:Ev) (zs:List D),(∀y∈ys,y∈xs)->I done B zs->zs.length+ys.length<=lim->∃B' zs',loopC (turnC js.length gf t fe) ys (B++acc zs)=some (B'++acc zs')/\I (done++ys) B' zs':=by
  intro ys
  induction ys with
  | nil=>intro done B zs _ h _;exact⟨B,zs,rfl,by rw[jZ];exact h⟩
  | cons y ys ih=>
   intro done B zs hm h hl;rw[qB] at hl;obtain⟨B1,z1,e1,i1,l1⟩:=st done y B zs (hm y zM) h (by walk_at "o")
   obtain⟨B2,z2,e2,i2⟩:=ih (done++[y]) B1 z1 (fun a ha=>hm a (zL _ ha)) i1 (by walk_at "o")
   exact⟨B2,z2,by rw[loopC,e1];exact e2,by rw[qU] at i2;exact i2⟩
 obtain⟨B,zs,e1,i1⟩:=key xs [] _ [] (fun _ h=>h) h0 (by rw[yI];walk_at "o")
 rw[nil_append] at i1;obtain⟨l1,c0,o1,lc⟩:=fin B zs i1;refine c B zs c0 i1 o1 ?_;rw[<-e];unfold fComp;rw[ei];simp only[bind_some,liB,hj,jL,jS];rw[show capE (some j) js ρ1++[some (.l (.lst []))]=capE (some j) js ρ1++acc [] from rfl,e1];simp only[bind_some,a3d (hI _ _ _ i1),backG,show lfC (.lst zs)=true from l1,jL,o1,lc]
theorem t4 (ns:List Int):lfL (ns.map D.int)=true:=by
 induction ns with
 | nil=>rfl
 | cons n ns ih=>rw[zP,lfL,ih];rfl
theorem z3 (m:Int)(n:Nat):(rngD m n).length=n:=by unfold rngD;simp
theorem J2 {m:Int}{n:Nat}(h:x∈rngD m n):∃i:Int,x= .int i/\m<=i/\i<m+n:=by
 unfold rngD at h;obtain⟨i,hi,rfl⟩:=zG.mp h;rw[xO] at hi;exact⟨_,rfl,by walk_at "o",by walk_at "o"⟩
theorem o7 (h:0<n)(h2:n.natAbs<2^64):dOk n:=⟨h,zJ h2 (jV (by decide) (by decide))⟩
end
theorem a2d {o:Option D}:freeO (o.map W.v)=true:=by cases o<;>rfl
def whole:D->Bool
 | .int _=>true
 | _=>false
def rise:List Int->Bool
 | a::b::r=>decide (a<b)&&rise (b::r)
 | _=>true
theorem b05 {xs:List D}{i:Int}{d:D}(h:0<=i)(e:xs[i.toNat]? =some d):atI xs i=some d:=by
 have:=v6 (j:=i.toNat) e
 rwa [show((i.toNat:Nat):Int)=i by walk_at "o"] at this
theorem a4t {ns:List Int}{i:Int}(h:0<=i)(l:i<ns.length):atI (ns.map D.int) i=some (.int (ns.getD i.toNat 0)):=by
 refine b05 h ?_;rw[qH,yE,xS (by walk_at "o")]
 rfl
theorem t9:∀{xs:List D},(∀x∈xs,lf x=true)->lfL xs=true
 | [],_=>rfl
 | x::xs,h=>by rw[lfL,h x zM,t9 fun y hy=>h y (zL _ hy)];rfl
section
variable {d:D}{ds:List D}{x0:D}{x1:D}{x2:D}{x3:D}{x4:D}{x5:D}{x6:D}{x7:D}{x8:D}{x9:D}{x10:D}{x11:D}{x12:D}
theorem a_3:atI (x0::x1::x2::d::ds) 3=some d:=v6 (j:=3) rfl
theorem a_4:atI (x0::x1::x2::x3::d::ds) 4=some d:=v6 (j:=4) rfl
theorem a_5:atI (x0::x1::x2::x3::x4::d::ds) 5=some d:=v6 (j:=5) rfl
theorem a_6:atI (x0::x1::x2::x3::x4::x5::d::ds) 6=some d:=v6 (j:=6) rfl
theorem a_7:atI (x0::x1::x2::x3::x4::x5::x6::d::ds) 7=some d:=v6 (j:=7) rfl
theorem a_8:atI (x0::x1::x2::x3::x4::x5::x6::x7::d::ds) 8=some d:=v6 (j:=8) rfl
theorem a_9:atI (x0::x1::x2::x3::x4::x5::x6::x7::x8::d::ds) 9=some d:=v6 (j:=9) rfl
theorem a_10:atI (x0::x1::x2::x3::x4::x5::x6::x7::x8::x9::d::ds) 10=some d:=v6 (j:=10) rfl
theorem a_11:atI (x0::x1::x2::x3::x4::x5::x6::x7::x8::x9::x10::d::ds) 11=some d:=v6 (j:=11) rfl
theorem a_12:atI (x0::x1::x2::x3::x4::x5::x6::x7::x8::x9::x10::x11::d::ds) 12=some d:=v6 (j:=12) rfl
theorem a_13:atI (x0::x1::x2::x3::x4::x5::x6::x7::x8::x9::x10::x11::x12::d::ds) 13=some d:=v6 (j:=13) rfl
theorem ix_0 {n:Nat}:ixN (n+1) 0=some 0:=by unfold ixN;rw[if_pos (Int.le_refl _),if_pos (by walk_at "o")];rfl
end
def dkey:D->Option Key
 | .int i=>some (Sum.inl i)
 | .str x=>some (Sum.inr x)
 | _=>none
def dkeys:List D->Option (List Key)
 | []=>some []
 | d::ds=>(dkey d).bind fun k=>(dkeys ds).map fun ks=>k::ks
def tkey:D->Option (List Key)
 | .tup ds=>dkeys ds
 | _=>none
def look {κ:Type} [DecidableEq κ]:List κ->List D->κ->Option D
 | k'::ks,x::xs,k=>if k'=k then some x else look ks xs k
 | _,_,_=>none
def putKs {κ:Type} [DecidableEq κ] (ks:List κ) (k:κ):List κ:=if k∈ks then ks else ks++[k]
def putX {κ α:Type} [DecidableEq κ] (ks:List κ) (xs:List α) (k:κ) (d:α):List α:=if k∈ks then List.zipWith (fun k' x=>if k'=k then d else x) ks xs else xs++[d]
theorem a0y {K:PySem.W.Frag}{A:Av}{H:Hp}{d:D}{k:Key}{v:V}(e:dkey d=some k)(h:DenR K A H d v):v=kV k:=by
 cases d with
 | int i=>cases e;exact k8 h
 | str x=>cases e;exact a2J h
 | _=>cases e
theorem N6 {K:PySem.W.Frag}{A:Av}{H:Hp}:∀{ds:List D} {ks:List Key} {vs:List V},dkeys ds=some ks->DenL K A H ds vs->vs=ks.map kV
 | [],ks,vs,e,l=>by cases e;rw[DenL] at l;rw[l];rfl
 | d::ds,ks,vs,e,l=>by
  rw[DenL] at l;obtain⟨v,r,rfl,h,l⟩:=l;rw[dkeys] at e;cases e1:dkey d with
  | none=>rw[e1] at e;cases e
  | some k=>
   cases e2:dkeys ds with
   | none=>rw[e1,e2] at e;cases e
   | some js=>
    rw[e1,e2] at e;cases e;rw[zP,<-a0y e1 (D1 h),<-N6 e2 l]
theorem a6q {K:PySem.W.Frag}{A:Av}{H:Hp}{d:D}{k:List Key}{v:V}(e:tkey d=some k)(h:DenR K A H d v):∃b,v= .ref b/\SqT K H b (k.map kV):=by
 cases d with
 | tup ds=>
  obtain⟨b,vs,ev,hq,l⟩:=B6 h;rw[N6 e l] at hq;exact⟨b,ev,hq⟩
 | _=>cases e
theorem a0D {κ:Type} [DecidableEq κ] {K:PySem.W.Frag}{A:Av}{H:Hp}:∀{ks:List κ} {xs:List D} {vs:List V} {k:κ} {x:D},DenL K A H xs vs->look ks xs k=some x->∃v,valV (ks.zip vs) k=some v/\Den K A H x v
 | [],_,_,_,_,_,e=>by simp[look] at e
 | _::_,[],_,_,_,_,e=>by simp[look] at e
 | k'::ks,x0::xs,vs,k,x,l,e=>by
  rw[DenL] at l;obtain⟨v,r,rfl,h,l⟩:=l;simp only[look] at e;rw[jN];split at e
  ·rename_i q;cases e;exact⟨v,T9 (by simpa using q),h⟩
  ·rename_i q;rw[M4 (by simpa using q)]
   exact a0D l e
theorem V4 {κ:Type} [DecidableEq κ] {K:PySem.W.Frag}{A:Av}{H:Hp}:∀{ks:List κ} {xs:List D} {vs:List V} {k:κ},DenL K A H xs vs->ks.length=xs.length->look ks xs k=none->valV (ks.zip vs) k=none
 | [],_,_,_,_,_,_=>by simp[valV]
 | _::_,[],_,_,_,hl,_=>by simp at hl
 | k'::ks,x0::xs,vs,k,l,hl,e=>by
  rw[DenL] at l;obtain⟨v,r,rfl,h,l⟩:=l;simp only[look] at e;rw[jN];split at e
  ·cases e
  ·rename_i q;rw[M4 (by simpa using q)]
   exact V4 l (by simpa using hl) e
theorem a2O {κ:Type} [DecidableEq κ]:∀{ks:List κ} {xs:List D} {k:κ},ks.length=xs.length->(look ks xs k).isSome=decide (k∈ks)
 | [],_,_,_=>by simp[look]
 | _::_,[],_,hl=>by simp at hl
 | k'::ks,x::xs,k,hl=>by
  rw[look]
  by_cases q:k'=k
  ·rw[if_pos q];simp[q]
  ·have q2:¬k=k':=fun z=>q z.symm;rw[if_neg q,a2O (by simpa using hl)];simp[q2]
theorem a32 {κ:Type} [DecidableEq κ]:∀{ks:List κ} {vs:List V} {k:κ},ks.length=vs.length->((ks.zip vs).any fun kv=>decide (kv.1=k))=decide (k∈ks)
 | [],_,_,_=>by simp
 | _::_,[],_,hl=>by simp at hl
 | k'::ks,v::vs,k,hl=>by
  rw[jN,any_cons,a32 (by simpa using hl)]
  by_cases q:k'=k
  ·simp[q]
  ·have q2:¬k=k':=fun z=>q z.symm;simp[q,q2]
theorem a15 {κ:Type} [DecidableEq κ] {ks:List κ}{vs:List V}{k:κ}{v:V}(hl:ks.length=vs.length):putK (ks.zip vs) k v=(putKs ks k).zip (putX ks vs k v):=by
 unfold putK putKs putX;rw[a32 hl]
 by_cases q:k∈ks
 ·rw[if_pos (by simpa using q),if_pos q,if_pos q]
  clear q
  induction ks generalizing vs with
  | nil=>simp
  | cons k' ks ih=>
   cases vs with
   | nil=>simp at hl
   | cons w vs=>
    have ih':=ih (vs:=vs) (by simpa using hl)
    rw[jN,zP,yY,jN,ih']
    by_cases q:k'=k
    ·simp[q]
    ·simp[q]
 ·rw[if_neg (by simpa using q),if_neg q,if_neg q,List.zip_append hl]
  rfl
theorem L4 {κ α:Type} [DecidableEq κ] {ks:List κ}{xs:List α}{k:κ}{d:α}(hl:ks.length=xs.length):(putKs ks k).length=(putX ks xs k d).length:=by
 unfold putKs putX
 split
 ·rw[List.length_zipWith,hl];simp
 ·simp[hl]
theorem a0B {κ:Type} [DecidableEq κ] {K:PySem.W.Frag}{A:Av}{H:Hp}{ks:List κ}{xs:List D}{vs:List V}{k:κ}{d:D}{v:V}(l:DenL K A H xs vs)(h:Den K A H d v):DenL K A H (putX ks xs k d) (putX ks vs k v):=by
 unfold putX
 split
 ·rename_i q;clear q
  induction ks generalizing xs vs with
  | nil=>simp;exact j6
  | cons k' ks ih=>
   cases xs with
   | nil=>rw[DenL] at l;subst l;simp;exact j6
   | cons x xs=>
    rw[DenL] at l;obtain⟨u,r,rfl,hx,l⟩:=l;rw[yY,yY];refine j4 ?_ (ih l)
    split
    ·exact h
    ·exact hx
 ·exact v3 l (j4 h j6)
section
variable {X:Cx}{a b c e o:Expr}{es:List Expr}{pos p apos:Pos}{f g h:FX}{t u:FT}{fa:FA}{x:Str}
theorem Y8 {pins:List (Addr×PySem.Obj)}{σ:L2.St}{H:Hp}{s:Shared}{b:Addr}{ks:List Key}(I:Inv X pins σ H s)(q:SqT X.K H b (ks.map kV)):(tupleKind (mixKind X.prog X.w)).is s.heap ks b:=by
 obtain⟨its,r,⟨o,h1,h2,n,h3⟩,_⟩:=I.tuple q;exact⟨o,its.toArray,n,h1,h2,h3,by simpa using V2 r⟩
def DGe (K:PySem.W.Frag) (H:Hp) (a:Addr) (y:V) (r:Option V):Prop:=
 (∃kvs k,H a=some (.dK kvs)/\y=kV k/\r=valV kvs k)\/∃kvs k b,H a=some (.dT kvs)/\y= .ref b/\SqT K H b (k.map kV)/\r=valV kvs k
def lookG (x y:D):Option (Option D):=match x with
 | .dT ks xs=>(tkey y).map fun k=>look ks xs k
 | .dK ks xs=>(dkey y).map fun k=>look ks xs k
 | _=>none
def LkOk (K:PySem.W.Frag) (A:Av) (H:Hp):Option D->Option V->Prop
 | some d,w=>∃z,w=some z/\Den K A H d z
 | none,w=>w=none
theorem W8 {A:Av}{H:Hp}{x y:D}{r:Option D}{v u:V}(e:lookG x y=some r)(hx:DenR X.K A H x v)(hy:DenR X.K A H y u):∃a w,v= .ref a/\DGe X.K H a u w/\LkOk X.K A H r w:=by
 cases x with
 | dT ks xs=>
  simp only[lookG] at e;cases e1:tkey y with
  | none=>rw[e1] at e;cases e
  | some k=>
   rw[e1] at e;obtain⟨b,rfl,hb⟩:=a6q e1 hy;obtain⟨a,vs,rfl,ha,hl,l⟩:=hx;refine⟨a,_,rfl,.inr ⟨_,k,b,ha,rfl,hb,rfl⟩,?_⟩;cases(show look ks xs k=r from jB e);cases e2:look ks xs k with
   | none=>exact V4 l hl e2
   | some d=>exact a0D l e2
 | dK ks xs=>
  simp only[lookG] at e;cases e1:dkey y with
  | none=>rw[e1] at e;cases e
  | some k=>
   rw[e1] at e;obtain⟨a,vs,rfl,ha,hl,l⟩:=hx;refine⟨a,_,rfl,.inl ⟨_,k,ha,a0y e1 hy,rfl⟩,?_⟩;cases(show look ks xs k=r from jB e);cases e2:look ks xs k with
   | none=>exact V4 l hl e2
   | some d=>exact a0D l e2
 | _=>cases e
def rIxD (K:PySem.W.Frag):R2:=fun x y H Q=>∃a v,x= .ref a/\DGe K H a y (some v)/\Q v H
theorem a8r {k:Nat}(hr:Room k X.A):IxR X (rIxD X.K):=by
 intro value slice pins s σ H x y v u Q I rx ry h hs;obtain⟨a,z,rfl,hg,q⟩:=h;cases rx;rcases hg with ⟨kvs,k,ha,rfl,hv⟩|⟨kvs,k,b,ha,rfl,hq,hv⟩
 ·obtain⟨_,hd,vs,rel,dd⟩:=a3O I.hok ha;obtain⟨w',hw,rw'⟩:=RelO.some_of (v:=z) (o:=valueAt vs k) (by rw[hv];exact rel.val k)
  refine yW (x:=w') dd.typeIs PySem.F.slot_dict_getitem.lookup ?_ hs;exact wpAny_getItem_of (a04 ry) dd.mapOf hw ⟨rfl,z,H,I.tok _,rw',q⟩
 ·cases(show u=Value.ref b from ry);obtain⟨_,hd,xs,rel,dd⟩:=a38 I.hok ha;obtain⟨w',hw,rw'⟩:=RelO.some_of (v:=z) (o:=(atKey xs k).map (·.2)) (by rw[hv];exact rel.val k)
  obtain⟨p,hp,hp2⟩:=Option.map_eq_some_iff.mp hw;refine yW (x:=w') dd.typeIs PySem.F.slot_dict_getitem.lookup ?_ hs;refine wpAny_getItem_heap (yU (a0o hr)) (Y8 I hq) dd hp ?_;rw[hp2];exact⟨rfl,z,H,I.tok _,rw',q⟩
def isDi:D->Bool
 | .dT _ _=>true
 | .dK _ _=>true
 | _=>false
def oIxG (x y:D):Option W:=if isDi x=true then(lookG x y).bind fun r=>r.map .v else oIx x y
theorem n9 {k:Nat}(hr:Room k X.A)(ha:QX X a f)(hb:QX X b g)(hs:PlainIx b:=by intro _ _;rfl):QX X (.Subscript a b pos) (fBin oIxG f g):=⟨PE.weak (pe_ix (b00.or (a8r hr)) ha.to hb.to hs) (R7 (by
 intro A x y w v u H Q hA e hx hy q;unfold oIxG at e;split at e
 ·obtain⟨r,e1,e⟩:=obs e;obtain⟨a,w',rfl,hg,hm⟩:=W8 e1 hx hy;cases r with
  | none=>cases e
  | some d=>
   cases e;obtain⟨z,rfl,dz⟩:=hm;exact .inr ⟨a,z,rfl,hg,q z H (Same.refl H) dz⟩
 ·exact .inl (k_ix A x y w v u H Q hA e hx hy q)))⟩
def rInD (K:PySem.W.Frag) (neg:Bool):R2:=fun y x H Q=>∃a r,x= .ref a/\DGe K H a y r/\Q (.bl (if neg then !r.isSome else r.isSome)) H
theorem b0R {k:Nat}(hr:Room k X.A):OpR X (compareOp .In) (rInD X.K false):=by
 intro pins s σ H y x u v Q I ry rx h;obtain⟨a,r,rfl,hg,q⟩:=h;cases rx;rcases hg with ⟨kvs,k,e,rfl,rfl⟩|⟨kvs,k,b,e,rfl,hq,rfl⟩
 ·obtain⟨_,hd,vs,rel,dd⟩:=a3O I.hok e;refine wpAny_in_of (a04 ry) hd dd.mapOf ?_;rw[<-(rel.val k).isSome_eq];exact⟨.bl _,H,I.tok _,rfl,q⟩
 ·cases(show u=Value.ref b from ry);obtain⟨_,hd,xs,rel,dd⟩:=a38 I.hok e;refine wpAny_in_heap (yU (a0o hr)) (Y8 I hq) hd dd ?_;have z:=(rel.val k).isSome_eq;rw[isSome_map] at z;rw[<-z];exact⟨.bl _,H,I.tok _,rfl,q⟩
theorem a5i {k:Nat}(hr:Room k X.A):OpR X (compareOp .NotIn) (rInD X.K true):=by
 intro pins s σ H y x u v Q I ry rx h;obtain⟨a,r,rfl,hg,q⟩:=h;cases rx;rcases hg with ⟨kvs,k,e,rfl,rfl⟩|⟨kvs,k,b,e,rfl,hq,rfl⟩
 ·obtain⟨_,hd,vs,rel,dd⟩:=a3O I.hok e;refine wpAny_notIn_of (a04 ry) hd dd.mapOf ?_;rw[<-(rel.val k).isSome_eq];exact⟨.bl _,H,I.tok _,rfl,q⟩
 ·cases(show u=Value.ref b from ry);obtain⟨_,hd,xs,rel,dd⟩:=a38 I.hok e;refine wpAny_notIn_heap (yU (a0o hr)) (Y8 I hq) hd dd ?_;have z:=(rel.val k).isSome_eq;rw[isSome_map] at z;rw[<-z];exact⟨.bl _,H,I.tok _,rfl,q⟩
def intV:Value->Int
 | .int i _=>i
 | _=>0
def readI (h:Heap):Value->Option (List Int)
 | .ref a=>match h.get? a with
  | some o=>match o.data with
   | .seq its _=>some (its.toList.map intV)
   | _=>none
  | none=>none
 | _=>none
theorem a01:∀{k:List Int} {its:List Value},Vals (k.map V.int) its->its.map intV=k
 | [],_,r=>by cases r;rfl
 | i::k,_,r=>by
  cases r with
  | cons r1 r2=>
   obtain⟨t,rfl⟩:=r1;rw[zP,a01 r2];rfl
theorem a1m {m:Nat}:∀(a b:List Int),deqL (deq m) (a.map D.int) (b.map D.int)=some (decide (a=b))
 | [],[]=>rfl
 | [],_::_=>rfl
 | _::_,[]=>rfl
 | x::a,y::b=>by
  have ih:=a1m (m:=m) a b;have e:deq m (.int x) (.int y)=some (x==y):=by cases m<;>rfl
  simp only[zP,deqL,e,ih,bind_some,jS];congr 1
  by_cases h:x=y
  ·simp[h]
  ·simp[h]
def tupI (k:List Int):D:=.tup (k.map D.int)
theorem a22 {m:Nat}(a b:List Int):deq (m+1) (tupI a) (tupI b)=some (decide (a=b)):=a1m a b
def tupsOf:List D->Option (List (List Int))
 | []=>some []
 | .tup ds::xs=>(intsOf ds).bind fun k=>(tupsOf xs).map fun ks=>k::ks
 | _=>none
theorem a1f:∀{ds:List D} {ks:List (List Int)},tupsOf ds=some ks->ds=ks.map tupI
 | [],ks,e=>by cases e;rfl
 | .tup d::ds,ks,e=>by
  rw[tupsOf] at e;cases e1:intsOf d with
  | none=>rw[e1] at e;cases e
  | some k=>
   cases e2:tupsOf ds with
   | none=>rw[e1,e2] at e;cases e
   | some js=>rw[e1,e2] at e;cases e;rw[zP,<-a1f e2,u7 e1];rfl
 | .non::ds,_,e=>by cases e
 | .bl _::ds,_,e=>by cases e
 | .int _::ds,_,e=>by cases e
 | .str _::ds,_,e=>by cases e
 | .lst _::ds,_,e=>by cases e
 | .dT _ _::ds,_,e=>by cases e
 | .dK _ _::ds,_,e=>by cases e
 | .exn _::ds,_,e=>by cases e
 | .fn _::ds,_,e=>by cases e
theorem J4:∀ks:List (List Int),tupsOf (ks.map tupI)=some ks
 | []=>rfl
 | k::ks=>by rw[zP,show tupI k= .tup (k.map D.int) from rfl,tupsOf,m8,J4 ks];rfl
def rInT (K:PySem.W.Frag) (neg:Bool):R2:=fun x y H Q=>∃(A:Av) (k:List Int) (ks:List (List Int)) (p:Addr) (vs:List V),DenR K A H (tupI k) x/\y= .ref p/\(SqL K H p vs\/SqT K H p vs)/\DenL K A H (ks.map tupI) vs/\Q (.bl (if neg then !decide (k∈ks) else decide (k∈ks))) H
theorem K6 {k0:Nat}{A:Av}(hr:Room k0 X.A){pins:List (Addr×PySem.Obj)}{σ:L2.St}{H:Hp}{s:Shared}(I:Inv X pins σ H s){k:List Int}{x:V}{v:Value}(hx:DenR X.K A H (tupI k) x)(rx:RelV x v):∀{ks:List (List Int)} {vs:List V} {us:List Value},DenL X.K A H (ks.map tupI) vs->Vals vs us->
  (∀y∈us,SeqAt.EqAt X.A.in1 s y v (decide (readI s.heap y=some k)))/\(us.any fun y=>decide (readI s.heap y=some k))=decide (k∈ks)
 | [],vs,us,l,r=>by
  rw[yL,DenL] at l;subst l;cases r;exact⟨fun y hy=>by simp at hy,by simp⟩
 | k'::ks,vs,us,l,r=>by
  rw[zP,DenL] at l;obtain⟨z,rs,rfl,hz,l⟩:=l;cases r with
  | cons r1 r2=>
   rename_i u us;obtain⟨i1,i2⟩:=K6 hr I hx rx l r2;have hz':=hz;rw[show tupI k'= .tup (k'.map D.int) from rfl,Den] at hz';obtain⟨c,ws,rfl,hq,lw⟩:=hz';rw[n5 lw] at hq;cases(show u=Value.ref c from r1);obtain⟨its,r3,⟨o,ho,_,n,hd⟩,_⟩:=I.tuple hq;have er:readI s.heap (.ref c)=some k':=by
    unfold readI;dsimp only;rw[ho];dsimp only;rw[hd];dsimp only;rw[a01 r3]
   have eq:SeqAt.EqAt X.A.in1 s (.ref c) v (decide (readI s.heap (.ref c)=some k)):=by
    rw[er];have z:=(a1T I 20 X.A.in1 (by have:=hr.units;show X.A.units+1+20+1<_;walk_at "o") (tupI k') (tupI k) (.ref c) x (.ref c) v _ (a22 k' k) (D1 hz) hx rfl rx).1
    have e2:decide (some k'=some k)=decide (k'=k):=by simp
    rw[e2];exact z
   refine⟨fun y hy=>?_,?_⟩
   ·rcases zS.mp hy with rfl|hy
    ·exact eq
    ·exact i1 y hy
   ·rw[any_cons,i2,er]
    by_cases h:k'=k
    ·simp[h]
    ·have h':¬k=k':=fun z=>h z.symm;simp[h,h']
theorem b0O {k0:Nat}(hr:Room k0 X.A):OpR X (compareOp .In) (rInT X.K false):=by
 intro pins s σ H x y v u Q I rx ry ⟨A,k,ks,p,vs,hx,ey,hq,l,q⟩;subst ey;cases ry;rcases hq with hq|hq
 ·obtain⟨its,r,pl,hz⟩:=I.list hq;obtain⟨c1,c2⟩:=K6 hr I hx rx l r;refine SeqAt.in_listAt (fun y=>decide (readI s.heap y=some k)) pl.isList (fun w hw=>c1 w (by simpa using hw)) ⟨.bl _,H,I,rfl,?_⟩
  rw[show(its.toArray.any fun y=>decide (readI s.heap y=some k))=(its.any fun y=>decide (readI s.heap y=some k)) by simp,c2]
  exact q
 ·obtain⟨its,r,pl,hz⟩:=I.tuple hq;obtain⟨c1,c2⟩:=K6 hr I hx rx l r;refine SeqAt.in_tupleAt (fun y=>decide (readI s.heap y=some k)) pl (fun w hw=>c1 w (by simpa using hw)) ⟨.bl _,H,I,rfl,?_⟩
  rw[show(its.toArray.any fun y=>decide (readI s.heap y=some k))=(its.any fun y=>decide (readI s.heap y=some k)) by simp,c2]
  exact q
theorem a5v {k0:Nat}(hr:Room k0 X.A):OpR X (compareOp .NotIn) (rInT X.K true):=by
 intro pins s σ H x y v u Q I rx ry ⟨A,k,ks,p,vs,hx,ey,hq,l,q⟩;subst ey;cases ry;rcases hq with hq|hq
 ·obtain⟨its,r,pl,hz⟩:=I.list hq;obtain⟨c1,c2⟩:=K6 hr I hx rx l r;refine SeqAt.notIn_listAt (fun y=>decide (readI s.heap y=some k)) pl.isList (fun w hw=>c1 w (by simpa using hw)) ⟨.bl _,H,I,rfl,?_⟩
  rw[show(its.toArray.any fun y=>decide (readI s.heap y=some k))=(its.any fun y=>decide (readI s.heap y=some k)) by simp,c2]
  exact q
 ·obtain⟨its,r,pl,hz⟩:=I.tuple hq;obtain⟨c1,c2⟩:=K6 hr I hx rx l r;refine SeqAt.notIn_tupleAt (fun y=>decide (readI s.heap y=some k)) pl (fun w hw=>c1 w (by simpa using hw)) ⟨.bl _,H,I,rfl,?_⟩
  rw[show(its.toArray.any fun y=>decide (readI s.heap y=some k))=(its.any fun y=>decide (readI s.heap y=some k)) by simp,c2]
  exact q
def nb (neg k:Bool):W:=.v (.bl (if neg then !k else k))
def oInG (neg:Bool) (x y:D):Option W:=if isDi y=true then(lookG y x).map fun r=>nb neg r.isSome else match x with
 | .int i=>(items y).bind fun ys=>(intsOf ys).map fun ns=>nb neg (decide (i∈ns))
 | .tup ds=>(intsOf ds).bind fun k=>(items y).bind fun ys=>(tupsOf ys).map fun ks=>nb neg (decide (k∈ks))
 | _=>none
theorem kInG {neg:Bool}:Pr2 X (oInG neg) (fun x y H Q=>rIn X.K neg x y H Q\/rInD X.K neg x y H Q\/rInT X.K neg x y H Q):=by
 intro A x y w v u H Q hA e hx hy q;unfold oInG at e;split at e
 ·obtain⟨r,e1,e⟩:=oms e;cases e;obtain⟨a,w',rfl,hg,hm⟩:=W8 e1 hy hx;have es:w'.isSome=r.isSome:=by
   cases r with
   | none=>rw[show w'=none from hm];rfl
   | some d=>obtain⟨z,rfl,_⟩:=hm;rfl
  refine .inr (.inl ⟨a,w',rfl,hg,?_⟩);rw[es];exact q _ H (Same.refl H) D4
 ·split at e
  ·rename_i i;refine .inl (kInI A (.int i) y w v u H Q hA ?_ hx hy q);unfold oInI;exact e
  ·rename_i ds;cases e1:intsOf ds with
   | none=>rw[e1] at e;cases e
   | some k=>
    rw[e1] at e;simp only[bind_some] at e;cases e2:items y with
    | none=>rw[e2] at e;cases e
    | some ys=>
     rw[e2] at e;simp only[bind_some] at e;obtain⟨ks,e3,e⟩:=oms e;cases e;obtain⟨p,vs,rfl,hq,l⟩:=D7 e2 hy;rw[a1f e3] at l;rw[u7 e1] at hx;exact .inr (.inr ⟨A,k,ks,p,vs,hx,rfl,hq,l,q _ H (Same.refl H) D4⟩)
  ·cases e
theorem b1m {k:Nat}(hr:Room k X.A)(ha:QX X a f)(hb:QX X b g)(hm:behindInMarks .In b=false:=by rfl):QT X (.Compare a [.In] [b] pos) (fTest (fBin (oInG false) f g)):=P9 (a5p.or ((b0R hr).or (b0O hr))) kInG ha hb hm
theorem N7 {k:Nat}(hr:Room k X.A)(ha:QX X a f)(hb:QX X b g)(hm:behindInMarks .NotIn b=false:=by rfl):QT X (.Compare a [.NotIn] [b] pos) (fTest (fBin (oInG true) f g)):=P9 (a1P.or ((a5i hr).or (a5v hr))) kInG ha hb hm
def rGet (K:PySem.W.Frag):V->List V->Hp->VK->Prop:=fun x vs H Q=>∃a y r w,x= .ref a/\vs=[y,w]/\DGe K H a y r/\Q (r.getD w) H
theorem a8I {k0:Nat}(hr:Room k0 X.A):MtR X "dict.get" (rGet X.K):=by
 intro pins s σ H x xs v us Q I rx rv ⟨a,y,r,w,ex,evs,hg,q⟩;subst ex evs;cases rx;obtain⟨u,w',rfl,ru,rw'⟩:=vals2 rv;rcases hg with ⟨kvs,k,e,rfl,rfl⟩|⟨kvs,k,b,e,rfl,hq,rfl⟩
 ·obtain⟨z,hd,ys,rel,dd⟩:=a3O I.hok e;refine call_meetsIn PySem.F.slot_dict_get dd.typeIs PySem.F.entry_dict_get (PySem.F.args_dict_get_3 _ _ _) (meets_dict_get_default (mixKind X.prog X.w) a (a04 ru) hd w') ⟨_,dd.mapOf,?_⟩;exact⟨_,H,I.tok _,(rel.val k).getD rw',q⟩
 ·cases(show u=Value.ref b from ru);obtain⟨z,hd,ys,rel,dd⟩:=a38 I.hok e;refine call_meetsIn PySem.F.slot_dict_get dd.typeIs PySem.F.entry_dict_get (PySem.F.args_dict_get_3 _ _ _) (meetsH_dict_get_default (tupleKind (mixKind X.prog X.w)) a b hd w') ⟨yU (a0o hr),k,ys,Y8 I hq,dd,?_⟩;exact⟨_,H,I.tok _,(rel.val k).getD rw',q⟩
def fGet (f:FX) (fa:FA):FX:=fun ρ=>(f ρ).bind fun p=>(dr p.2 p.1.fz).bind fun d=>if isDi d=true then(fa p.2).bind fun q=>(takeAll q.2 q.1).bind fun z=>(dr z.2 p.1.fz).bind fun x=>match z.1 with
  | [y,e]=>(lookG x y).map fun r=>(.v (r.getD e),z.2)
  | _=>none
 else none
theorem b04 {k0:Nat}(hr:Room k0 X.A)(ha:QX X o f)(hb:QA X (e::es) fa)(hbase:attributeBase o "get" X.env (eval o X.env)=eval o X.env:=by rfl)
  (hfew:((backTo pos (starEach (e::es) X.env)).all (fun x=>!x.1)&&(backToKw pos (keywordEach [] X.env)).all (fun x=>x.1.isSome)&&decide ((e::es).length+([]:List Keyword).length+(if([]:List Keyword).isEmpty then 0 else 1)<30))=true:=by rfl)
  (hline:(apos.endLine==pos.line)=true:=by rfl) (hs:starEach (e::es) X.env=(false,eval e X.env)::starEach es X.env:=by rfl) (hpl:(backTo pos (starEach es X.env)).any (·.1)=false:=by rfl):
  QX X (.Call (.Attribute o "get" apos) (e::es) [] pos) (fGet f fa):=
 ⟨PE.weak (a7T PySem.F.plainAttrs_dict PySem.F.slot_dict_get PySem.F.type_dict_get (a8I hr) ha.to hb.to hbase hfew hline hs hpl) fun σ H Q h0=>tXe h0 fun P O L ρ w ρ' rp e q=>by
 unfold fGet at e;obtain⟨⟨w1,ρ1⟩,e1,e⟩:=obs e;dsimp only at e;cases e2:dr ρ1 w1.fz with
 | none=>rw[e2] at e;cases e
 | some d=>
  rw[e2] at e;simp only[bind_some] at e;split at e
  ·rename_i hdi;obtain⟨⟨ws,ρ2⟩,e3,e⟩:=obs e;dsimp only at e;obtain⟨⟨ds,ρ3⟩,e5,e⟩:=obs e;dsimp only at e;cases e4:dr ρ3 w1.fz with
   | none=>rw[e4] at e;cases e
   | some x=>
    rw[e4] at e;simp only[bind_some] at e;split at e
    ·rename_i y e0;obtain⟨r,e6,e⟩:=oms e;cases e;refine⟨P,O,L,ρ,w1,ρ1,rp,e1,fun v H1 H1' r1 s1 d1=>?_⟩;have r1g:=r1.grow s1;have dd:=I0 r1g e2 (d1.fz r1 s1);obtain⟨P',r1',k1⟩:=hold r1g (d1.fz r1 s1);refine⟨?_,P',O,L,ρ1,_,_,r1',e3,fun vs H2 r2 l2=>?_⟩
     ·cases d with
      | dT ks xs=>obtain⟨a,us,rfl,ha,_⟩:=dd;exact .inr (.inr (.inl ⟨rfl,.inr ⟨_,ha⟩⟩))
      | dK ks xs=>obtain⟨a,us,rfl,ha,_⟩:=dd;exact .inr (.inr (.inl ⟨rfl,.inl ⟨_,ha⟩⟩))
      | _=>cases hdi
     ·obtain⟨r4,l4,_⟩:=o4 r2 e5 l2;obtain⟨r3,d3⟩:=k1 _ H2 r4;have dx:=I0 r3 e4 d3;obtain⟨v1,v2,rfl,g1,g2⟩:=denL2 l4;obtain⟨a,w',rfl,hg,hm⟩:=W8 e6 dx (D1 g1);refine⟨a,v1,w',v2,rfl,rfl,hg,q _ H2 H2 r3 (Same.refl _) ?_⟩;cases r with
      | none=>rw[show w'=none from hm];exact g2
      | some d=>obtain⟨z,rfl,dz⟩:=hm;exact dz
    ·cases e
  ·cases e⟩
end
open PySem PySem.W PyProof.Rows
def TWp {α:Type} (n:Nat) (lt:Nat->Nat->Bool):KasT α->(α->Prop)->Prop
 | .ret a,Q=>Q a
 | .ask i j k,Q=>i<n/\j<n/\TWp n lt (k (lt i j)) Q
theorem F7 {α β:Type}{n:Nat}{lt:Nat->Nat->Bool}{g:α->KasT β}{Q:β->Prop}:∀(t:KasT α),TWp n lt t (fun a=>TWp n lt (g a) Q)->TWp n lt (t.bind g) Q
 | .ret _,h=>h
 | .ask i j k,⟨h1,h2,h⟩=>⟨h1,h2,F7 (k (lt i j)) h⟩
theorem a3L {α:Type}{n:Nat}{lt:Nat->Nat->Bool}{cmp:Nat->Nat->(Bool->Shared->Prop)->Shared->Prop}{s:Shared}{Q:α->Shared->Prop}
  (hc:∀i j (C:Bool->Shared->Prop),i<n->j<n->C (lt i j) s->cmp i j C s):∀(t:KasT α),TWp n lt t (fun a=>Q a s)->t.kasWp cmp Q s
 | .ret a,h=>h
 | .ask i j k,⟨h1,h2,h⟩=>hc i j _ h1 h2 (a3L hc (k (lt i j)) h)
section
variable {O:KeyOrd}{f:Nat->O.α}{n:Nat}
def Ky (f:Nat->O.α) (p:Array Nat) (i:Nat):O.α:=f (p.getD i 0)
def SoTo (f:Nat->O.α) (p:Array Nat) (k:Nat):Prop:=∀i j,i<=j->j<k->O.kle (Ky f p i) (Ky f p j)
def NoIn (f:Nat->O.α) (p:Array Nat) (k:Nat):Prop:=∀i j,i<=j->j<k->O.kle (Ky f p j) (Ky f p i)
structure PB (n:Nat) (p:Array Nat):Prop where
 perm:p.Perm (List.toArray (List.range n))
 pos:0<n
theorem PB.size {p:Array Nat}(h:PB n p):p.size=n:=by rw[h.perm.size_eq];simp
theorem PB.lt {p:Array Nat}(h:PB n p)(i:Nat):p.getD i 0<n:=by
 by_cases q:i<p.size
 ·have e:p.getD i 0=p[i]:=by simp[Array.getD,q]
  rw[e];have m:p[i]∈p.toList:=by simp
  have:=(jI.mp h.perm).mem_iff.mp m
  simpa using this
 ·have e:p.getD i 0=0:=by simp[Array.getD,q]
  rw[e];exact h.pos
theorem J8 {p q:Array Nat}{i j:Nat}(h:p[i]? =q[j]?):Ky f p i=Ky f q j:=by
 unfold Ky;congr 1;rw[Array.getD_eq_getD_getElem?,Array.getD_eq_getD_getElem?,h]
theorem a1q {xs:Array Nat}{src d:Nat}(hs:src<xs.size)(hd:d<=src)(k:Nat):
  Ky f (bubble xs src d) k=if k=src-d then Ky f xs src else if src-d<k/\k<=src then Ky f xs (k-1) else Ky f xs k:=by
 have e:=getElem?_bubble hs d hd k
 by_cases h1:k=src-d
 ·rw[if_pos h1] at e ⊢;exact J8 e
 ·rw[if_neg h1] at e ⊢
  by_cases h2:src-d<k/\k<=src
  ·rw[if_pos h2] at e ⊢;exact J8 e
  ·rw[if_neg h2] at e ⊢;exact J8 e
theorem U4 {xs:Array Nat}{i j:Nat}(hj:j<=xs.size)(k:Nat):
  Ky f (kas_rev xs i j) k=if i<=k/\k<j then Ky f xs (i+j-1-k) else Ky f xs k:=by
 have e:=getElem?_mirror_all (i:=i) hj k;unfold kas_rev
 by_cases h1:i<=k/\k<j
 ·rw[if_pos h1] at e ⊢;exact J8 e
 ·rw[if_neg h1] at e ⊢;exact J8 e
theorem w5 {xs:Array Nat}{i j:Nat}(hj:j<=xs.size)(heq:∀k,i<=k->k<j->Ky f xs k=Ky f xs (j-1))(k:Nat):Ky f (kas_rev xs i j) k=Ky f xs k:=by
 rw[U4 hj]
 split
 ·rw[heq _ (by omega) (by omega),heq k (by omega) (by omega)]
 ·rfl
theorem PB.rev {p:Array Nat}(h:PB n p)(i j:Nat):PB n (kas_rev p i j):=⟨(mirror_perm _ _ _ _).trans h.perm,h.pos⟩
theorem PB.bub {p:Array Nat}(h:PB n p)(i j:Nat):PB n (bubble p i j):=⟨(bubble_perm _ _ _).trans h.perm,h.pos⟩
abbrev ltK (f:Nat->O.α):Nat->Nat->Bool:=fun i j=>O.blt (f i) (f j)
theorem a17 {p:Array Nat}(hB:PB n p){Q:Nat->Prop}:∀(c a:Nat),1<=a->SoTo f p a->(∀m,a<=m->m<=a+c->SoTo f p m->(m=a+c\/O.klt (Ky f p m) (Ky f p (m-1)))->Q m)->TWp n (ltK f) (kas_asc p c a) Q
 | 0,a,_,hs,h=>h a (zD _) (zD _) hs (.inl rfl)
 | c+1,a,h1,hs,h=>by
  refine⟨hB.lt _,hB.lt _,?_⟩;cases hless:O.blt (Ky f p a) (Ky f p (a-1))
  case true=>
   rw[show ltK f (p.getD a 0) (p.getD (a-1) 0)=true from hless];dsimp only;rw[if_pos rfl];exact h a (zD _) (by walk_at "o") hs (.inr hless)
  case false=>
   rw[show ltK f (p.getD a 0) (p.getD (a-1) 0)=false from hless];dsimp only;rw[if_neg (by simp)]
   refine a17 hB c (a+1) (by walk_at "o") (fun i j hij hj=>?_) fun m x1 x2 x3 x4=>h m (by walk_at "o") (by walk_at "o") x3 (x4.imp (fun q=>by walk_at "o") id)
   by_cases hjx:j<a
   ·exact hs i j hij hjx
   ·have hj':j=a:=by walk_at "o"
    subst hj'
    by_cases hi':i=j
    ·subst hi';exact xI _
    ·exact KeyOrd.kle_trans (hs i (j-1) (by walk_at "o") (by walk_at "o")) hless
theorem a1l {p:Array Nat}(hB:PB n p){Q:Nat×Array Nat->Prop}{a m:Nat}(h1:1<=a)(ha:a<=m)(hm:m<=n)(hs:NoIn f p a)(h:∀k q,PB n q->1<=k->k<=m->SoTo f q k->Q (k,q)):TWp n (ltK f) (kas_tail3 a m p) Q:=by
 have hsz:a<=p.size:=by rw[hB.size];walk_at "o"
 refine F7 _ (a17 (hB.rev 0 a) (m-a) a h1 (fun i j hij hj=>?_) fun k x1 x2 x3 _=>h k _ (hB.rev 0 a) (by walk_at "o") (by walk_at "o") x3)
 rw[U4 hsz,U4 hsz,if_pos (by walk_at "o"),if_pos (by walk_at "o")]
 exact hs _ _ (by walk_at "o") (by walk_at "o")
theorem T4 {Q:Array Nat×Nat×Nat->Prop}{m:Nat}(hm:m<=n):∀(c:Nat) (p:Array Nat) (a q:Nat),a+c=m->PB n p->1<=a->NoIn f p a->q+1<=a->(∀i,a-(q+1)<=i->i<a->Ky f p i=Ky f p (a-1))->
  (∀k r p',PB n p'->a<=k->k<=m->NoIn f p' k->r+1<=k->(∀i,k-(r+1)<=i->i<k->Ky f p' i=Ky f p' (k-1))->Q (p',k,r))->TWp n (ltK f) (kas_desc c p a q) Q
 | 0,p,a,q,hc,hB,h1,hs,hq,he,h=>h a q p hB (zD _) (by walk_at "o") hs hq he
 | c+1,p,a,q,hc,hB,h1,hs,hq,he,h=>by
  have hsz:a<=p.size:=by rw[hB.size];walk_at "o"
  refine⟨hB.lt _,hB.lt _,?_⟩;cases hless:O.blt (Ky f p a) (Ky f p (a-1))
  case true=>
   rw[show ltK f (p.getD a 0) (p.getD (a-1) 0)=true from hless];dsimp only;rw[if_pos rfl];have step1:∀xs:Array Nat,(∀k,Ky f xs k=Ky f p k)->NoIn f xs (a+1):=by
    intro xs hk i j hij hj;rw[hk,hk]
    by_cases hjx:j<a
    ·exact hs i j hij hjx
    ·have hj':j=a:=by walk_at "o"
     subst hj'
     by_cases hi':i=j
     ·subst hi';exact xI _
     ·exact KeyOrd.kle_trans (KeyOrd.kle_of_klt hless) (hs i (j-1) (by walk_at "o") (by walk_at "o"))
   by_cases hneq:q>0
   ·rw[if_pos hneq];exact T4 hm c _ (a+1) 0 (by walk_at "o") (hB.rev _ _) (by walk_at "o") (step1 _ (w5 hsz he)) (by walk_at "o") (fun i h1 h2=>by congr 1;walk_at "o") fun k r p' x1 x2=>h k r p' x1 (by walk_at "o")
   ·rw[if_neg hneq];exact T4 hm c _ (a+1) 0 (by walk_at "o") hB (by walk_at "o") (step1 _ (fun _=>rfl)) (by walk_at "o") (fun i h1 h2=>by congr 1;walk_at "o") fun k r p' x1 x2=>h k r p' x1 (by walk_at "o")
  case false=>
   rw[show ltK f (p.getD a 0) (p.getD (a-1) 0)=false from hless];dsimp only;rw[if_neg (by simp)]
   refine⟨hB.lt _,hB.lt _,?_⟩;cases hlarger:O.blt (Ky f p (a-1)) (Ky f p a)
   case true=>
    rw[show ltK f (p.getD (a-1) 0) (p.getD a 0)=true from hlarger];dsimp only;rw[if_pos rfl];exact h a q p hB (zD _) (by walk_at "o") hs hq he
   case false=>
    rw[show ltK f (p.getD (a-1) 0) (p.getD a 0)=false from hlarger];dsimp only;rw[if_neg (by simp)]
    have heqx:Ky f p a=Ky f p (a-1):=KeyOrd.kle_antisymm hlarger hless;refine T4 hm c p (a+1) (q+1) (by walk_at "o") hB (by walk_at "o") (fun i j hij hj=>?_) (by walk_at "o") (fun i h1 h2=>?_) fun k r p' x1 x2=>h k r p' x1 (by walk_at "o")
    ·by_cases hjx:j<a
     ·exact hs i j hij hjx
     ·have hj':j=a:=by walk_at "o"
      subst hj'
      by_cases hi':i=j
      ·subst hi';exact xI _
      ·rw[heqx];exact hs i (j-1) (by walk_at "o") (by walk_at "o")
    ·rw[show a+1-1=a by walk_at "o"]
     by_cases hix:i=a
     ·subst hix;rfl
     ·rw[heqx];exact he i (by walk_at "o") (by walk_at "o")
theorem R8 {p:Array Nat}(hB:PB n p){Q:Nat×Array Nat->Prop}{a m:Nat}(ha:a+1<=m)(hm:m<=n)(hs:NoIn f p (a+1))(h:∀k q,PB n q->1<=k->k<=m->SoTo f q k->Q (k,q)):TWp n (ltK f) (kas_descPart a m p) Q:=by
 refine F7 _ (T4 hm (m-(a+1)) p (a+1) 0 (by walk_at "o") hB (by walk_at "o") hs (by walk_at "o") (fun i h1 h2=>by congr 1;walk_at "o") fun k r p' hB' x2 x3 hs' x5 he=>?_)
 have hsz:k<=p'.size:=by rw[hB'.size];walk_at "o"
 dsimp only
 by_cases hneq:r>0
 ·rw[if_pos hneq];refine a1l (hB'.rev _ _) (by walk_at "o") x3 hm (fun i j hij hj=>?_) h
  rw[w5 hsz he,w5 hsz he];exact hs' i j hij hj
 ·rw[if_neg hneq];exact a1l hB' (by walk_at "o") x3 hm hs' h
theorem a5o {p:Array Nat}(hB:PB n p){Q:Nat×Array Nat->Prop}{m:Nat}(h1:1<=m)(hm:m<=n)(h:∀k q,PB n q->1<=k->k<=m->SoTo f q k->Q (k,q)):TWp n (ltK f) (kas_count m p) Q:=by
 refine F7 _ (a17 hB (m-1) 1 (zD 1) (fun i j hij hj=>by have:i=j:=(by walk_at "o");subst this;exact xI _) fun a ha1 ha2 hsn hor=>?_)
 by_cases hnn:a=m
 ·rw[if_pos (by simpa using hnn)]
  exact h a p hB ha1 (by walk_at "o") hsn
 ·rw[if_neg (by simpa using hnn)]
  have hlt:O.klt (Ky f p a) (Ky f p (a-1)):=hor.resolve_left (by walk_at "o")
  by_cases hgt:a>1
  ·rw[if_pos hgt];refine⟨hB.lt _,hB.lt _,?_⟩;cases hrose:O.blt (Ky f p 0) (Ky f p (a-1))
   case true=>
    rw[show ltK f (p.getD 0 0) (p.getD (a-1) 0)=true from hrose];dsimp only;rw[if_pos rfl];exact h a p hB ha1 (by walk_at "o") hsn
   case false=>
    rw[show ltK f (p.getD 0 0) (p.getD (a-1) 0)=false from hrose];dsimp only;rw[if_neg (by simp)]
    have hsz:a<=p.size:=by rw[hB.size];walk_at "o"
    have hall:∀k,0<=k->k<a->Ky f p k=Ky f p (a-1):=by
     intro k _ hk;have a1:=hsn 0 k (by walk_at "o") hk
     have a2:=hsn k (a-1) (by walk_at "o") (by walk_at "o")
     exact KeyOrd.kle_antisymm a2 (KeyOrd.kle_trans hrose a1)
    refine R8 (hB.rev _ _) (by walk_at "o") hm (fun i j hij hj=>?_) h
    rw[w5 hsz hall,w5 hsz hall]
    by_cases hjn:j<a
    ·rw[hall i (by walk_at "o") (by walk_at "o"),hall j (by walk_at "o") hjn];exact xI _
    ·have hj':j=a:=by walk_at "o"
     subst hj'
     by_cases hi':i=j
     ·subst hi';exact xI _
     ·rw[hall i (by walk_at "o") (by walk_at "o")];exact KeyOrd.kle_of_klt hlt
  ·rw[if_neg hgt];have hn1':a=1:=by walk_at "o"
   subst hn1';refine R8 hB (by walk_at "o") hm (fun i j hij hj=>?_) h
   by_cases hi':i=j
   ·subst hi';exact xI _
   ·have hi0:i=0:=by walk_at "o"
    have hj1:j=1:=by walk_at "o"
    subst hi0;subst hj1;exact KeyOrd.kle_of_klt hlt
theorem W5 {p:Array Nat}(hB:PB n p){Q:Nat->Prop}{k:Nat}(hk:k<n)(hs:SoTo f p k)
  (h:∀l,l<=k->(∀i,i<l->O.kle (Ky f p i) (Ky f p k))->(∀i,l<=i->i<k->O.klt (Ky f p k) (Ky f p i))->Q l):
  ∀(c l r:Nat),l<=r->r<=k->r-l<=c->(∀i,i<l->O.kle (Ky f p i) (Ky f p k))->(∀i,r<=i->i<k->O.klt (Ky f p k) (Ky f p i))->TWp n (ltK f) (kas_place p k c l r) Q
 | 0,l,r,hlr,hrk,hc,hlo,hhi=>h l (by omega) hlo (fun i h1 h2=>hhi i (by omega) h2)
 | c+1,l,r,hlr,hrk,hc,hlo,hhi=>by
  unfold kas_place
  by_cases hge:l≥r
  ·rw[if_pos hge]
   have:l=r:=by omega
   subst this;exact h l hrk hlo hhi
  ·rw[if_neg hge];refine⟨hB.lt _,hB.lt _,?_⟩;cases hless:O.blt (Ky f p k) (Ky f p ((l+r)/2))
   case true=>
    rw[show ltK f (p.getD k 0) (p.getD ((l+r)/2) 0)=true from hless];dsimp only;rw[if_pos rfl];exact W5 hB hk hs h c l ((l+r)/2) (by omega) (by omega) (by omega) hlo fun i h1 h2=>KeyOrd.klt_of_klt_of_kle hless (hs _ _ h1 h2)
   case false=>
    rw[show ltK f (p.getD k 0) (p.getD ((l+r)/2) 0)=false from hless];dsimp only;rw[if_neg (by simp)]
    exact W5 hB hk hs h c ((l+r)/2+1) r (by omega) (by omega) (by omega) (fun i h1=>KeyOrd.kle_trans (hs i ((l+r)/2) (by omega) (by omega)) (show O.kle _ _ from hless)) hhi
theorem a40 {Q:Array Nat->Prop}(h:∀p,PB n p->SoTo f p n->Q p):∀(c k:Nat) (p:Array Nat),c+k=n->PB n p->SoTo f p k->TWp n (ltK f) (kas_bin c p k) Q
 | 0,k,p,hc,hB,hs=>h p hB (by rw[<-hc];rw[xZ];exact hs)
 | c+1,k,p,hc,hB,hs=>by
  refine F7 _ (W5 hB (by walk_at "o") hs (fun l hlk hlo hhi=>?_) k 0 k (by walk_at "o") (by walk_at "o") (by walk_at "o") (fun i hi=>by walk_at "o") fun i h1 h2=>by walk_at "o")
  refine a40 h c (k+1) _ (by walk_at "o") (hB.bub _ _) fun i j hij hj=>?_
  have hks:k<p.size:=by rw[hB.size];walk_at "o"
  rw[a1q hks (by walk_at "o"),a1q hks (by walk_at "o"),show k-(k-l)=l by walk_at "o"]
  repeat' split
  all_goals first
   | (exfalso;walk_at "o")
   | exact xI _
   | exact hlo _ (by walk_at "o")
   | exact KeyOrd.kle_of_klt (hhi _ (by walk_at "o") (by walk_at "o"))
   | exact hs _ _ (by walk_at "o") (by walk_at "o")
theorem a63 {Q:Array Nat->Prop}(hn:1<=n)(h:∀p,PB n p->SoTo f p n->Q p):TWp n (ltK f) (kas_sort n) Q:=by
 refine F7 _ (a5o ⟨Array.Perm.refl _,hn⟩ hn (zD _) fun k q hB x1 x2 hs=>?_);dsimp only
 split
 ·rw[show max k 1=k by walk_at "o"]
  exact a40 h (n-k) k q (by walk_at "o") hB hs
 ·exact h q hB (by rw[show n=k by walk_at "o"];exact hs)
end
def DRaw (h:Heap) (d:Addr) (es:Array DictEntry) (ep:Nat):Prop:=∃o,h.get? d=some o/\o.ExactDict/\o.data= .dict es ep
theorem DRaw.typeIs {s:Shared}{d:Addr}{es:Array DictEntry}{ep:Nat}(x:DRaw s.heap d es ep):s.TypeIs (.ref d) "dict":=let ⟨o,e,c,_⟩:=x;⟨o,e,c.1⟩
theorem DRaw.lt {h:Heap}{d:Addr}{es:Array DictEntry}{ep:Nat}(x:DRaw h d es ep):d<h.objs.size:=let ⟨_,e,_⟩:=x;zW e
theorem DRaw.on {h h':Heap}{d:Addr}{es:Array DictEntry}{ep:Nat}(x:DRaw h d es ep)(k:∀o,h.get? d=some o->h'.get? d=some o):DRaw h' d es ep:=let ⟨o,e,r⟩:=x;⟨o,k o e,r⟩
section
variable {prog:Program}{w:World}{A:Around}{E:Value->Shared->Prop}{s:Shared}{it d:Addr}{es:Array DictEntry}{i ep:Nat}
theorem a6C {Q:Value->Shared->Prop}(ns:(d==sysModules)=false)(hm:DRaw s.heap d es ep)
  (q:Q (.ref s.heap.objs.size) {s with heap:=s.heap.push {cls:=.type "dict_keyiterator",data:=.fields #[.ref d,.int 0 0,.int es.size 0,.int ep 0]}}):wpAny (model prog w) A (pyIter (.ref d)) Q E s:=by
 obtain⟨o,g0,gx,gd⟩:=id hm;have T:=hm.typeIs;refine wpAny_pyIter_slot T F.slot_dict_iter (qV F.slot_dict_iter T F.entry_dict_iter ?_ (F.args_dict_iter_1 _));unfold Builtin.«dict.__iter__»;refine zA ?_;unfold Builtin.Dict.dictSlotNone;refine zA (wpAny_notOrdered_dict T (zC ?_));show wpAny _ _ (Builtin.Dict.showsAll d >>=_) _ _ s;unfold Builtin.Dict.showsAll;rw[if_neg (by rw[ns];simp)]
 refine zA (zC (zA (wpAny_dictEntries g0 gd (zA (wpAny_dictEpoch g0 gd ?_)))));refine zA (jG (zC ⟨_,rfl,"dict_keyiterator",_,⟨_,qA _ rfl,rfl⟩,F.slot_dict_keyiterator_next.lookup,?_⟩));simpa [rawInt] using q
theorem a7O {Q:Option Value->Shared->Prop}{e:DictEntry}(hit:s.heap.IsKeyIter it d i es.size ep)(hm:DRaw s.heap d es ep)(he:es[i]? =some e)
  (q:∀h',h'.IsKeyIter it d (i+1) es.size ep->Heap.SameBut it s.heap h'->Q (some e.key) {s with heap:=h'}):wpAny (model prog w) A (pyNext (.ref it)) Q E s:=by
 obtain⟨o,t0,tc,td⟩:=id hit;obtain⟨od,g0,gx,gd⟩:=id hm;unfold pyNext;refine zA (wpAny_attempt (qT (name:=Str.ofString "__next__") hit.typeIs jW (qV jW hit.typeIs F.entry_dict_keyiterator_next ?_ (F.args_dict_keyiterator_next_1 _))));refine zA (zC (zA (zA ?_)))
 first|refine zA (xR hit.typeIs (zC (zA (wpAny_fieldsOf t0 td ?_))))|refine zA (yM hit.typeIs (zC (zA (wpAny_fieldsOf t0 td ?_))))
 have own:Builtin.Dict_items.ownsTuple "dict_keyiterator"=false:=by decide
 simp only[own,jJ,xF];show wpAny _ _ (if(Value.ref d==Value.none)=true then _ else _) _ _ s;rw[if_neg (show ¬((Value.ref d==Value.none)=true) from qD)];refine zA (zC (zA (wpAny_dictEntries g0 gd ?_)));rw[if_neg (by simp)]
 refine zA (zC (zA (wpAny_dictEpoch g0 gd ?_)));rw[if_neg (by simp)]
 refine zC ?_;have lt:i<es.size:=by
  rcases Nat.lt_or_ge i es.size with z|z
  ·exact z
  ·rw[xX z] at he;cases he
 simp only[show ¬((i:Int)<0) from by walk_at "o",xF,Int.toNat_natCast,he]
 refine zA ?_
 first|refine zA (xR hit.typeIs (zC (zA (wpAny_isOneOf_keyiter hit.typeIs ?_))))|refine zA (yM hit.typeIs (zC (zA (wpAny_isOneOf_keyiter hit.typeIs ?_))))
 show wpAny _ _ (setField (.ref it) 1 (rawInt ((i:Int)+1)) >>=_) _ _ s;refine zA (wpAny_setField t0 td (by simp) ?_)
 have up:(s.heap.update it (PySem.Obj.mapFields (·.setIfInBounds 1 (rawInt ((i:Int)+1))))).IsKeyIter it d (i+1) es.size ep:=⟨_,xU _ t0 (Obj.isFreed_of_fields (Obj.data_mapFields td _)),(Obj.cls_mapFields ..).trans tc,by rw[Obj.data_mapFields td];simp[rawInt]⟩
 refine zA (qN (zA (wpAny_isOneOf_keyiter (s:={s with heap:=s.heap.update it (PySem.Obj.mapFields (·.setIfInBounds 1 (rawInt ((i:Int)+1))))}) up.typeIs ?_)))
 show wpAny _ _ (pure e.key) _ _ _;exact zC (zC ⟨_,rfl,zC (q _ up (qY ..))⟩)
theorem a8C {Q:Option Value->Shared->Prop}(hh:A.handled=none)(hit:s.heap.IsKeyIter it d i es.size ep)(hm:DRaw s.heap d es ep)(he:es[i]? =none)
  (q:∀h',Heap.ExtBut it s.heap h'->Q none {s with heap:=h'}):wpAny (model prog w) A (pyNext (.ref it)) Q E s:=by
 obtain⟨o,t0,tc,td⟩:=id hit;obtain⟨od,g0,gx,gd⟩:=id hm;unfold pyNext;refine zA (wpAny_attempt (qT (name:=Str.ofString "__next__") hit.typeIs jW (qV jW hit.typeIs F.entry_dict_keyiterator_next ?_ (F.args_dict_keyiterator_next_1 _))));refine zA (zC (zA (zA ?_)))
 first|refine zA (xR hit.typeIs (zC (zA (wpAny_fieldsOf t0 td ?_))))|refine zA (yM hit.typeIs (zC (zA (wpAny_fieldsOf t0 td ?_))))
 have own:Builtin.Dict_items.ownsTuple "dict_keyiterator"=false:=by decide
 simp only[own,jJ,xF];show wpAny _ _ (if(Value.ref d==Value.none)=true then _ else _) _ _ s;rw[if_neg (show ¬((Value.ref d==Value.none)=true) from qD)];refine zA (zC (zA (wpAny_dictEntries g0 gd ?_)));rw[if_neg (by simp)]
 refine zA (zC (zA (wpAny_dictEpoch g0 gd ?_)));rw[if_neg (by simp)]
 refine zC ?_;simp only[show ¬((i:Int)<0) from by walk_at "o",xF,Int.toNat_natCast,he]
 refine zA ?_
 first|refine zA (xR hit.typeIs (zC ?_))|refine zA (yM hit.typeIs (zC ?_))
 show wpAny _ _ (setField (.ref it) 0 .none >>=_) _ _ s;refine zA (wpAny_setField t0 td (by simp) ?_)
 show wpAny _ _ (newExc (.type "StopIteration") [] >>=_) _ _ _;refine zA ?_;simp only[newExc,newTuple];refine zA (jG ?_ (by size_fits))
 refine zA (m:=firstArgMember _ _) (wpAny_of_eq (a:=Value.none) (by first|rfl|(simp only[firstArgMember];rfl)) (jG ?_ (by size_fits)))
 simp only[raiseNew];refine zA (wpAny_handled ?_);rw[show A.in1.handled=none from hh];refine zA (zC (wpAny_throw ?_));refine zA (wpAny_isInstance (b:=true) (T:="StopIteration") ⟨_,qA _ rfl,rfl⟩ isSubtype_stop ?_);exact zC (q _ (((qY ..).extBut.push _).push _))
theorem a5I (hh:A.handled=none)(I d:Addr)(hne:d≠I)(es:Array DictEntry)(ep:Nat):
  Walks prog w A I [I,d] [I] es.size (fun i v=>∃e,es[i]? =some e/\v=e.key) (fun i h=>h.IsKeyIter I d i es.size ep/\DRaw h d es ep) where
 sub:=fun b hb=>by simp at hb;simp[hb]
 frame:=fun _ _ _ st hk=>⟨st.1.at fun o e=>hk I (by simp) o e,st.2.on fun o e=>hk d (by simp) o e⟩
 item:=fun i s Q E hi st hQ=>a7O st.1 st.2 (e:=es[i]) (by simp[hi]) fun h' h1 h2=>hQ _ h' s.toks ⟨_,by simp[hi],rfl⟩ ⟨h1,st.2.on fun o e=>(h2.2 d hne).trans e⟩ fun b o hb e=>(h2.2 b (fun z=>hb (by simp[z]))).trans e
 done:=fun s Q E st hQ=>a8C hh st.1 st.2 (by simp) fun h' x=>hQ h' s.toks fun b o hb e=>x b o (fun z=>hb (by simp[z])) e
 self:=fun _ _ _ _ st hQ=>wpAny_pyIter_keyiter st.1 hQ
theorem a34 (ns:(d==sysModules)=false):KdlSrc prog w "dict" d d es.size (fun i v=>∃e,es[i]? =some e/\v=e.key) (fun h=>DRaw h d es ep) where
 type:=fun _ x=>x.typeIs
 there:=fun _ x=>⟨x.lt,x.lt⟩
 keep:=fun _ _ x hk=>x.on fun o e=>hk d (.inl rfl) o e
 notList:=by decide
 notTuple:=by decide
 hint:=fun _ _ _ _ x q=>kdl_hint_dict x.typeIs q
 iter:=fun _ _ hh x=>⟨_,_,(fun _ _ q=>a6C ns x q),a5I hh _ d (zV x.lt) es ep,⟨⟨_,qA _ rfl,rfl,rfl⟩,x.on fun o e=>zE _ e⟩⟩
end
theorem N9:∀a:List Int,HT.lexLt a a=false
 | []=>rfl
 | x::a=>by rw[HT.lexLt_cons,if_pos rfl];exact N9 a
theorem W9:∀a b c:List Int,HT.lexLt a b=true->HT.lexLt b c=true->HT.lexLt a c=true
 | [],[],_,h,_=>by cases h
 | [],_::_,[],_,h=>by cases h
 | [],_::_,_::_,_,_=>rfl
 | _::_,[],_,h,_=>by cases h
 | _::_,_::_,[],_,h=>by cases h
 | x::a,y::b,z::c,h,h'=>by
  rw[HT.lexLt_cons] at h h' ⊢
  by_cases e1:x=y
  ·by_cases e2:y=z
   ·rw[if_pos e1] at h;rw[if_pos e2] at h';rw[if_pos (e1.trans e2)];exact W9 a b c h h'
   ·rw[if_neg e2] at h';rw[if_neg (fun q=>e2 (e1.symm.trans q)),e1];exact h'
  ·rw[if_neg e1] at h;have h1:=xK h
   by_cases e2:y=z
   ·rw[if_neg (fun q=>e1 (q.trans e2.symm)),<-e2];exact h
   ·rw[if_neg e2] at h';have h2:=xK h';rw[if_neg (by omega)]
    exact qO (by omega)
theorem a18:∀a b c:List Int,HT.lexLt a c=true->HT.lexLt a b=true\/HT.lexLt b c=true
 | [],[],_,h=>.inr h
 | [],_::_,_,_=>.inl rfl
 | _::_,_,[],h=>by cases h
 | _::_,[],_::_,_=>.inr rfl
 | x::a,y::b,z::c,h=>by
  rw[HT.lexLt_cons] at h ⊢;rw[HT.lexLt_cons]
  by_cases e1:x=y
  ·by_cases e2:y=z
   ·rw[if_pos (e1.trans e2)] at h;rw[if_pos e1,if_pos e2];exact a18 a b c h
   ·rw[if_neg (fun q=>e2 (e1.symm.trans q))] at h;rw[if_neg e2,<-e1];exact .inr h
  ·rw[if_neg e1]
   by_cases e2:x=z
   ·have e3:¬y=z:=fun q=>e1 (e2.trans q.symm);rw[if_neg e3];rcases Int.lt_or_gt_of_ne e1 with q|q
    ·exact .inl (qO q)
    ·exact .inr (qO (by omega))
   ·rw[if_neg e2] at h;have h1:=xK h;rcases Int.lt_or_gt_of_ne e1 with q|q
    ·exact .inl (qO q)
    ·rw[if_neg (show ¬y=z by omega)];exact .inr (qO (by omega))
theorem U0:∀a b:List Int,HT.lexLt a b=false->HT.lexLt b a=false->a=b
 | [],[],_,_=>rfl
 | [],_::_,h,_=>by cases h
 | _::_,[],_,h=>by cases h
 | x::a,y::b,h,h'=>by
  rw[HT.lexLt_cons] at h h'
  by_cases e:x=y
  ·rw[if_pos e] at h;rw[if_pos e.symm] at h';rw[e,U0 a b h h']
  ·rw[if_neg e] at h;rw[if_neg (fun q=>e q.symm)] at h';have h1:=of_decide_eq_false h;have h2:=of_decide_eq_false h';walk_at "o"
def lexO:KeyOrd:=⟨List Int,HT.lexLt,N9,W9,a18,U0⟩
inductive Tups (h:Heap):List Value->List (List Int)->Prop where
 | nil:Tups h [] []
 | cons {a:Addr} {its:Array Value} {k:List Int} {vs:List Value} {ks:List (List Int)} (t:IsTup h a its) (i:IntsAre its.toList k) (ne:k≠[]) (r:Tups h vs ks):Tups h (.ref a::vs) (k::ks)
theorem Tups.len {h:Heap}{vs:List Value}{ks:List (List Int)}(t:Tups h vs ks):vs.length=ks.length:=by
 induction t with
 | nil=>rfl
 | cons _ _ _ _ ih=>simp[ih]
theorem Tups.on {h h':Heap}{vs:List Value}{ks:List (List Int)}(t:Tups h vs ks)(k:∀a o,(.ref a)∈vs->h.get? a=some o->h'.get? a=some o):Tups h' vs ks:=by
 induction t with
 | nil=>exact .nil
 | cons x i ne r ih=>
  obtain⟨o,e,c⟩:=x;exact .cons ⟨o,k _ o zM e,c⟩ i ne (ih fun a o m e=>k a o (zL _ m) e)
theorem Tups.at {h:Heap}{vs:List Value}{ks:List (List Int)}(t:Tups h vs ks):∀{i:Nat},i<vs.length->∃a its,vs.getD i .none= .ref a/\IsTup h a its/\IntsAre its.toList (ks.getD i [])/\ks.getD i []≠[]:=by
 induction t with
 | nil=>intro i hi;simp at hi
 | cons x i ne r ih=>
  intro j hj;cases j with
  | zero=>exact⟨_,_,rfl,x,i,ne⟩
  | succ j=>exact ih (i:=j) (by simpa using hj)
section
variable {prog:Program}{w:World}{A:Around}{E:Value->Shared->Prop}{s:Shared}{h₀:Heap}{L D:Addr}{m:Str->Option Value}{vs:List Value}{ks:List (List Int)}
theorem a7F {fin:Bool}{Q:Bool->Shared->Prop}:∀{us ws:List Value} {ns ms:List Int} {i:Nat},IntsAre us ns->IntsAre ws ms->fin=decide (us.length<ws.length)->
  Q (HT.lexLt ns ms) s->KatLex prog w A true fin Q (us.zip ws) i s
 | [],[],_,_,i,h1,h2,ef,q=>by
  cases h1;cases h2;rw[zip_nil_left];exact kat_nil (by rw[ef];exact q)
 | [],_::_,_,_,i,h1,h2,ef,q=>by
  cases h1;cases h2;rw[zip_nil_left];exact kat_nil (by rw[ef];simpa [HT.lexLt] using q)
 | _::_,[],_,_,i,h1,h2,ef,q=>by
  cases h1;cases h2;rw[List.zip_nil_right];exact kat_nil (by rw[ef];simpa [HT.lexLt] using q)
 | _::us,_::ws,_,_,i,h1,h2,ef,q=>by
  cases h1 with
  | cons a t h1=>
   cases h2 with
   | cons c u h2=>
    rw[jN];rw[HT.lexLt_cons] at q;refine kat_cons (SeqAt.EqAt.int_int a t c u prog w _ _ ?_)
    by_cases e:a=c
    ·rw[if_pos e] at q;rw[show(a==c)=true by simpa using e]
     exact kat_yes (a7F h1 h2 (by rw[ef];simp) q)
    ·rw[if_neg e] at q;rw[show(a==c)=false by simpa using e]
     refine kat_no ?_;cases hb:(true&&i==0) with
     | true=>exact oneLt_int q
     | false=>exact kat_one _ _ (lt_int q)
theorem katTups {h:Heap}{vs:List Value}{ks:List (List Int)}(t:Tups h vs ks):∃fs,KatTups h vs fs/\fs.length=ks.length/\∀v∈fs,∃(i:Int) (u:Tok),v= .int i u:=by
 induction t with
 | nil=>exact⟨[],.nil,rfl,fun v hv=>by cases hv⟩
 | @cons a its k vs ks x i ne r ih=>
  obtain⟨fs,h1,h2,h3⟩:=ih;obtain⟨o,e,c,n,d⟩:=x;obtain⟨its⟩:=its;cases i with
  | nil=>exact absurd rfl ne
  | cons n0 t0 r'=>exact⟨_,.cons e c d (by rfl) h1,by simp[h2],fun v hv=>(zS.mp hv).elim (fun z=>⟨_,_,z⟩) (h3 v)⟩
theorem a8h {s:Shared}(T:Tups s.heap vs ks)(i j:Nat)(C:Bool->Shared->Prop)(hi:i<vs.length)(hj:j<vs.length)(q:C (HT.lexLt (ks.getD i []) (ks.getD j [])) s):kas_ask prog w A (tuples' true) vs i j C s:=by
 obtain⟨a,its,ea,⟨o,h1,h2,n,h3⟩,ia,_⟩:=T.at hi;obtain⟨b,its2,eb,⟨o2,g1,g2,n2,g3⟩,ib,_⟩:=T.at hj;unfold kas_ask;rw[ea,eb];exact kat_lt h1 h3 g1 g3 (a7F ia ib (by simp) q)
theorem a5q {Q:Value->Shared->Prop}(F:Fr h₀ L s.heap m)(hD:s.heap.get? D=some (listOf vs.toArray 0))(hDL:D≠L)(hD0:h₀.get? D=none)(T:Tups s.heap vs ks)(nD:Value.ref D∉vs)(nL:Value.ref L∉vs)(k0:∀b o,h₀.get? b=some o->s.heap.get? b=some o)(h2:2<=vs.length)(h64:vs.length<64)
  (q:∀(h':Heap) (p:Array Nat) (e:Nat),Fr h₀ L h' m->(∀b o,b≠L->b≠D->s.heap.get? b=some o->h'.get? b=some o)->h'.get? D=some (listOf (p.toList.map fun i=>vs.getD i .none).toArray e)->PB vs.length p->SoTo (O:=lexO) (fun i=>ks.getD i []) p vs.length->Q .none {s with heap:=h'}):
  wpAny (model prog w) A (call (.builtin "list.sort") [.ref D]) Q E s:=by
 have kept:=fun{h':Heap} (F':Fr h₀ L h' m) (N':News h₀ L h' (L2.rest h₀ s.heap L D))=>L2.a1H (d:=D) k0 F' N';refine kat_lsort (vs:=vs) F (L2.a8z hDL hD0 hD) (.head L2.a49) (by simp) h2 h64 fun e1 h' F' N'=>?_
 have K':=kept F' fun p hp=>N' p (zL _ hp);have T':Tups h' vs ks:=T.on fun a o ma e=>K' a o (fun z=>nL (z▸ma)) (fun z=>nD (z▸ma)) e;obtain⟨fs,f1,f2,f3⟩:=katTups T';refine kat_kind (s:={s with heap:=h'}) (T:=.type "int") f1 (by rw[f2,<-T.len];walk_at "o") (fun v hv=>by obtain⟨i,u,rfl⟩:=f3 v hv;exact Looks.of_pure rfl) (by decide) ?_
 have tb:(Value.type "int" != Value.type "tuple")=true:=by decide
 rw[tb];refine a3L (s:={s with heap:=h'}) (n:=vs.length) (lt:=ltK (O:=lexO) fun i=>ks.getD i []) (fun i j C hi hj c=>a8h (s:={s with heap:=h'}) T' i j C hi hj c) _ (a63 (by walk_at "o") fun p hp hs=>?_)
 refine KasFin.intro F' N' (.head L2.a49) fun h3 c F3 N3=>?_;exact q h3 p c F3 (kept F3 fun p hp=>N3 p (zL _ hp)) (N3 _ zM).1 hp hs
theorem a0a {Q:Value->Shared->Prop}(hD:s.heap.get? D=some (listOf vs.toArray 0))(h2:vs.length<2)
  (q:∀(h':Heap) (e:Nat),(∀b o,b≠D->s.heap.get? b=some o->h'.get? b=some o)->h'.get? D=some (listOf vs.toArray e)->Q .none {s with heap:=h'}):
  wpAny (model prog w) A (call (.builtin "list.sort") [.ref D]) Q E s:=by
 refine qV slot_list_sort ⟨_,hD,rfl⟩ entry_list_sort ?_ (args_list_sort _);rw[list_sort_plain];have lt:D<s.heap.objs.size:=zW hD;refine zA (listItems_at hD rfl (zA (listUpdate_at hD rfl ?_)));obtain⟨e1,k1⟩:∃e1,(s.heap.update D (PySem.Obj.mapSeq fun _=> #[])).get? D=some (seqObj "list" #[] e1):=⟨_,yV hD (fun _=> #[])⟩;refine zA (seqEpoch_at k1 rfl (zA (wpAny_newTuple (zA (wpAny_newList (qN ?_))))));have k2:(((s.heap.update D (PySem.Obj.mapSeq fun _=> #[])).push (seqObj "tuple" vs.toArray 0)).push (seqObj "list" #[] 0)).get? D=some (seqObj "list" #[] e1):=zE _ (zE _ k1);show wpAny (model prog w) _ _ _ E {s with heap:=((s.heap.update D (PySem.Obj.mapSeq fun _=> #[])).push (seqObj "tuple" vs.toArray 0)).push (seqObj "list" #[] 0)}
 dsimp only;have sz:vs.toArray.size<2:=by simpa using h2
 rw[if_pos sz,if_pos sz];refine zA (zC ?_);rw[StateT.run_pure];refine zA (zC ?_);dsimp only;have out:(arrOf (SortSt.mk' general' (vs.toArray.zip vs.toArray) #[] 7 none)).map (·.2)=vs.toArray:=by
  show(vs.toArray.zip vs.toArray).map (·.2)=vs.toArray;have e:(vs.toArray.zip vs.toArray)=(vs.zip vs).toArray:=by simp
  rw[e,List.map_toArray];congr 1;exact List.map_snd_zip (zD _)
 rw[out];refine zA (seqEpoch_at k2 rfl (zA (listUpdate_at k2 rfl ?_ (hsz2:=by rw[xD];walk_at "o"))))
 simp only[bne_self_eq_false,jJ,xF];obtain⟨e2,k3⟩:∃e2,((((s.heap.update D (PySem.Obj.mapSeq fun _=> #[])).push (seqObj "tuple" vs.toArray 0)).push (seqObj "list" #[] 0)).update D (PySem.Obj.mapSeq fun _=>vs.toArray)).get? D=some (seqObj "list" vs.toArray e2):=⟨_,yV k2 (fun _=>vs.toArray)⟩;refine zC ⟨_,rfl,q _ e2 (fun b o hb e=>?_) k3⟩;rw[xC _ _ _ _ hb];refine zE _ (zE _ ?_);rw[xC _ _ _ _ hb];exact e
end
abbrev kleB (a b:List Int):Bool:=!HT.lexLt b a
def sortK (ks:List (List Int)):List (List Int):=ks.mergeSort kleB
theorem t6 (ks:List (List Int)):(sortK ks).Perm ks:=List.mergeSort_perm ks _
theorem J3 (ks:List (List Int)):(sortK ks).Pairwise fun a b=>HT.lexLt b a=false:=by
 have:=List.pairwise_mergeSort (le:=kleB) (fun a b c h1 h2=>by
  simp only[kleB,vA] at *;exact KeyOrd.kle_trans (O:=lexO) h1 h2) (fun a b=>by
  simp only[kleB,Bool.or_eq_true,vA];cases q:HT.lexLt b a with
  | false=>exact .inl rfl
  | true=>exact .inr (KeyOrd.klt_asymm (O:=lexO) q)) ks
 exact this.imp fun h=>by simpa [kleB] using h
theorem V0:∀{l1 l2:List (List Int)},l1.Perm l2->(l1.Pairwise fun a b=>HT.lexLt b a=false)->(l2.Pairwise fun a b=>HT.lexLt b a=false)->l1=l2
 | [],l2,h,_,_=>(List.nil_perm.mp h).symm
 | a::l1,[],h,_,_=>by have:=h.length_eq;simp at this
 | a::l1,b::l2,h,h1,h2=>by
  have h1':=xP.mp h1;have h2':=xP.mp h2;have e:a=b:=by
   have ma:a∈b::l2:=h.mem_iff.mp zM;have mb:b∈a::l1:=h.mem_iff.mpr zM;rcases zS.mp ma with z|z
   ·exact z
   ·rcases zS.mp mb with y|y
    ·exact y.symm
    ·exact U0 a b (h2'.1 a z) (h1'.1 b y)
  subst e;rw[V0 ((List.perm_cons a).mp h) h1'.2 h2'.2]
inductive Al (K:PySem.W.Frag) (H:Hp):List Addr->List (List Int)->Prop where
 | nil:Al K H [] []
 | cons {a:Addr} {k:List Int} {as:List Addr} {ks:List (List Int)} (q:SqT K H a (k.map V.int)) (r:Al K H as ks):Al K H (a::as) (k::ks)
section
variable {K:PySem.W.Frag}{H:Hp}
theorem Al.len {as:List Addr}{ks:List (List Int)}(h:Al K H as ks):as.length=ks.length:=by
 induction h with
 | nil=>rfl
 | cons _ _ ih=>simp[ih]
theorem Al.at {as:List Addr}{ks:List (List Int)}(h:Al K H as ks):∀{i:Nat},i<as.length->SqT K H (as.getD i 0) ((ks.getD i []).map V.int):=by
 induction h with
 | nil=>intro i hi;simp at hi
 | cons q r ih=>
  intro i hi;cases i with
  | zero=>exact q
  | succ i=>exact ih (i:=i) (by simpa using hi)
theorem Al.pick {as:List Addr}{ks:List (List Int)}(h:Al K H as ks):∀{l:List Nat},(∀i∈l,i<as.length)->Al K H (l.map fun i=>as.getD i 0) (l.map fun i=>ks.getD i [])
 | [],_=>.nil
 | i::l,hl=>.cons (h.at (hl i zM)) (h.pick fun j hj=>hl j (zL _ hj))
theorem Al.den {O:Av}{as:List Addr}{ks:List (List Int)}(h:Al K H as ks):DenL K O H (ks.map tupI) (as.map V.ref):=by
 induction h with
 | nil=>exact j6
 | cons q r ih=>
  refine j4 ?_ ih;unfold tupI;rw[Den];exact⟨_,_,rfl,q,G5 _⟩
end
theorem O8 {K:PySem.W.Frag}{O:Av}{H:Hp}:∀{ds:List D} {ks:List (List Int)} {vs:List V},tupsOf ds=some ks->DenL K O H ds vs->∃as,vs=as.map V.ref/\Al K H as ks
 | [],ks,vs,e,l=>by rw[DenL] at l;subst l;cases e;exact⟨[],rfl,.nil⟩
 | d::ds,ks,vs,e,l=>by
  rw[DenL] at l;obtain⟨v,r,rfl,h,l⟩:=l;cases d<;>simp only[tupsOf] at e<;>try cases e
  rename_i xs;cases e1:intsOf xs with
  | none=>rw[e1] at e;cases e
  | some k=>
   rw[e1] at e;simp only[bind_some] at e;cases e2:tupsOf ds with
   | none=>rw[e2] at e;cases e
   | some ks'=>
    rw[e2] at e;cases e;obtain⟨as,rfl,a⟩:=O8 e2 l;rw[u7 e1,Den] at h;obtain⟨p,us,rfl,q,lu⟩:=h;rw[n5 lu] at q;exact⟨p::as,rfl,.cons q a⟩
section
variable {X:Cx}{pins:List (Addr×PySem.Obj)}{σ:L2.St}{H:Hp}{s:Shared}
theorem Al.tups {as:List Addr}{ks:List (List Int)}(I:Inv X pins σ H s)(h:Al X.K H as ks)(ne:∀k∈ks,k≠[]):Tups s.heap (as.map Value.ref) ks:=by
 induction h with
 | nil=>exact .nil
 | cons q r ih=>
  obtain⟨its,r1,p1,_⟩:=I.tuple q;exact .cons p1 (E1 r1) (ne _ zM) (ih fun k hk=>ne k (zL _ hk))
theorem M9:∀as:List Addr,Vals (as.map V.ref) (as.map Value.ref)
 | []=>.nil
 | a::as=>.cons rfl (M9 as)
theorem D3:∀{as:List Addr} {us:List Value},Vals (as.map V.ref) us->us=as.map Value.ref
 | [],us,r=>by cases r;rfl
 | a::as,us,r=>by
  cases r with
  | cons h t=>cases h;rw[D3 t];rfl
theorem a0N {A:Around}{E:Value->Shared->Prop}{as:List Addr}{ks:List (List Int)}{Q:VK}(I:Inv X pins σ H s)(a:Al X.K H as ks)(ne:∀k∈ks,k≠[])(h64:ks.length<64)
  (q:∀l bs,H l=none->Al X.K H bs (sortK ks)->Q (.ref l) (upd H l (.lst (bs.map V.ref)))):
  wpAny (model X.prog X.w) A (call (.builtin "list.sort") [.ref s.heap.objs.size]) (fun _ s'=>EP X pins σ Q (.ref s.heap.objs.size) s') E {s with heap:=s.heap.push (PySem.W.listOf (as.map Value.ref).toArray 0)}:=by
 have I2:Inv X pins σ H {s with heap:=s.heap.push (PySem.W.listOf (as.map Value.ref).toArray 0)}:=I.kept (t':=s.toks) fun b o e=>zE _ e
 obtain⟨m,F⟩:=I2.fr;have T:=a.tups I2 ne;have fr:H s.heap.objs.size=none:=I.hok.fresh (zD _);have hD:(s.heap.push (PySem.W.listOf (as.map Value.ref).toArray 0)).get? s.heap.objs.size=some (PySem.W.listOf (as.map Value.ref).toArray 0):=qA _ rfl;have dL:s.heap.objs.size≠X.env.locals:=Nat.ne_of_gt I.lt;have al:=a.len;have fin:∀(h':Heap) (p:List Nat) (ec:Nat),Fr X.base X.env.locals h' m->(∀b o,b≠X.env.locals->b≠s.heap.objs.size->(s.heap.push (PySem.W.listOf (as.map Value.ref).toArray 0)).get? b=some o->h'.get? b=some o)->
   h'.get? s.heap.objs.size=some (PySem.W.listOf (p.map fun i=>Value.ref (as.getD i 0)).toArray ec)->p.Perm (List.range ks.length)->((p.map fun i=>ks.getD i []).Pairwise fun a b=>HT.lexLt b a=false)->EP X pins σ Q (.ref s.heap.objs.size) {s with heap:=h'}:=fun h' p ec F' kp hD' pp ps=>by
  have lt:∀i∈p,i<as.length:=fun i hi=>by have:=pp.mem_iff.mp hi;rw[al];simpa using this
  have ek:(p.map fun i=>ks.getD i [])=sortK ks:=by
   refine V0 (((pp.map _).trans ?_).trans (t6 ks).symm) ps (J3 ks)
   have:(List.range ks.length).map (fun i=>ks.getD i [])=ks:=by
    apply ext_getElem?;intro i
    by_cases hi:i<ks.length
    ·rw[qH,vD hi];simp[hi]
    ·rw[xB (by simp;walk_at "o"),xB (by walk_at "o")]
   rw[this]
  have pk:=a.pick lt;rw[ek] at pk;have kept:∀b o,b≠X.env.locals->s.heap.get? b=some o->h'.get? b=some o:=fun b o hb e=>kp b o hb (zV (zW e)) (zE _ e);have nD:∀b o,s.heap.get? b=some o->b≠s.heap.objs.size:=fun b o e=>zV (zW e);have nH:∀b u,H b=some u->b≠s.heap.objs.size:=fun b u e=>m9 e fr;have nLH:∀b u,H b=some u->b≠X.env.locals:=fun b u e z=>by rw[z,I.free] at e;cases e
  refine⟨.ref s.heap.objs.size,upd H s.heap.objs.size (.lst ((p.map fun i=>as.getD i 0).map V.ref)),?_,rfl,q _ _ fr pk⟩;refine I.step (g':=s.gens) (t':=s.toks) (d':=s.drawn) (ch:=[]) (fun _ z=>nomatch z) (fun b o hL _ _ e _=>kept b o hL e) (fun b o hL _ _ e _=>⟨o.slots,kept b o hL e⟩) (fun b o _ e n=>by rw[g9 (nD b o e)];exact n) (fun b o _ e=>?_)
   (fun b xs e=>by rw[g9 (nH _ _ e)];exact e) (fun b o u e=>by rw[g9 (nH _ _ e)];exact e) (fun b ps e=>⟨#[],by rw[g9 (nH _ _ e),e];simp⟩) (fun m' hm=>?_) (fun b u e=>?_) I.bare
  ·by_cases hL:b=X.env.locals
   ·obtain⟨o',_,_,e',_⟩:=F'.ns;rw[hL];exact⟨o',e'⟩
   ·exact⟨o,kept b o hL e⟩
  ·have e1:m'=m:=by
    have z1:(s.heap.push (PySem.W.listOf (as.map Value.ref).toArray 0)).Ns X.env.locals m':=by
     obtain⟨o,es,ep,e,r⟩:=hm;exact⟨o,es,ep,zE _ e,r⟩
    rw[z1.eq_nsMap,F.ns.eq_nsMap]
   rw[e1];exact F'.ns
  ·by_cases hb:b=s.heap.objs.size
   ·subst hb;rw[m6] at e;cases e;refine⟨?_,(p.map fun i=>as.getD i 0).map Value.ref,ec,M9 _,?_⟩
    ·rw[zB,zB,pp.length_eq,yC,xD];walk_at "o"
    ·rw[hD'];simp[qC,Function.comp_def]
   ·rw[g9 hb] at e
    refine(I.hok b u e).stay (fun c v hc z=>kept c v (by
     rcases hc with w|w
     ·rw[w];exact nLH b u e
     ·exact nLH c _ w) z) (fun c z=>by rw[g9 (nH _ _ z)];exact z) fun c ys z=>by rw[g9 (nH _ _ z)];exact z
 have gr:∀p:List Nat,(∀i∈p,i<as.length)->(p.map fun i=>(as.map Value.ref).getD i .none)=p.map fun i=>Value.ref (as.getD i 0):=fun p hp=>qS fun i hi=>by simp[hp i hi]
 have tp:∀{vs:List Value} {ks:List (List Int)},Tups s.heap vs ks->∀a,Value.ref a∈vs->∃its,IsTup s.heap a its:=fun{vs ks} t=>by
  induction t with
  | nil=>intro a z;cases z
  | cons x i ne r ih=>
   intro a z;rcases zS.mp z with z|z
   ·cases z;exact⟨_,x⟩
   ·exact ih a z
 have tp:=tp (a.tups I ne)
 by_cases h2:ks.length<2
 ·refine a0a hD (by rw[zB,al];exact h2) fun h' e kp hD'=>fin h' (List.range ks.length) e ⟨?_,fun b o eb=>kp b o (fun z=>?_) (F.keep b o eb),F.above⟩ (fun b o _ hb eb=>kp b o hb eb) ?_ (List.Perm.refl _) ?_
  ·obtain⟨o,es,ep,e1,r⟩:=F.ns;exact⟨o,es,ep,kp _ o (jE dL) e1,r⟩
  ·have:=I.bk b o eb
   exact absurd (zW this) (by rw[z];exact jU _)
  ·rw[hD',<-al];congr 3;apply ext_getElem?;intro i
   by_cases hi:i<as.length
   ·rw[qH,qH,vD hi];simp[hi]
   ·rw[xB (by simp;walk_at "o"),xB (by simp;walk_at "o")]
  ·match ks,h2 with
   | [],_=>exact .nil
   | [k],_=>exact List.pairwise_singleton _ _
 ·refine a5q F hD dL ?_ T (fun z=>?_) (fun z=>?_) F.keep (by rw[zB,al];walk_at "o") (by rw[zB,al];walk_at "o") fun h' p e F' kp hD' hp hs=>?_
  ·cases q0:X.base.get? s.heap.objs.size with
   | none=>rfl
   | some o=>exact absurd (zW (I.bk _ o q0)) (jU _)
  ·obtain⟨its,o,e1,_⟩:=tp _ z;exact absurd (zW e1) (jU _)
  ·obtain⟨its,o,e1,_,n,d1⟩:=tp _ z;obtain⟨m2,⟨o2,es,ep,e2,d2,_⟩,_⟩:=id I.loc;rw[e1] at e2;cases e2;rw[d1] at d2;cases d2
  ·have pp:p.toList.Perm (List.range ks.length):=by
    have:=jI.mp hp.perm
    rw[zB,al] at this;simpa using this
   have sz:p.size=ks.length:=by rw[hp.size,zB,al]
   refine fin h' p.toList e F' kp ?_ pp ?_
   ·rw[hD',gr p.toList fun i hi=>by have:=pp.mem_iff.mp hi;rw[al];simpa using this]
   ·rw[yH];intro i j hi hj hij;have hj':j<p.size:=by simpa using hj
    have hi':i<p.size:=by simpa using hi
    have z:=hs i j (Nat.le_of_lt hij) (by rw[zB,al,<-sz];exact hj')
    simp only[List.getElem_map,Array.getElem_toList];unfold Ky at z;have g1:p.getD i 0=p[i]:=by simp[Array.getD,hi']
    have g2:p.getD j 0=p[j]:=by simp[Array.getD,hj']
    rw[g1,g2] at z;exact z
end
def SrcT (K:PySem.W.Frag) (H:Hp) (p:Addr) (ks:List (List Int)):Prop:=(∃as,SqL K H p (as.map V.ref)/\Al K H as ks)\/∃vs,H p=some (.dT ((ks.map fun k=>k.map Sum.inl).zip vs))/\ks.length=vs.length
theorem b08 (k:List Int):(k.map (Sum.inl:Int->Key)).map kV=k.map V.int:=by rw[qC];rfl
theorem b0e {K:PySem.W.Frag}{H:Hp}:∀{ks:List (List Int)} {vs:List V} {xs:List (List Key×Addr×Value)},ks.length=vs.length->KT H ((ks.map fun k=>k.map Sum.inl).zip vs) xs->Al K H (xs.map (·.2.1)) ks
 | [],vs,xs,hl,r=>by
  rw[yL,zip_nil_left] at r;cases r;exact .nil
 | k::ks,[],xs,hl,r=>by simp at hl
 | k::ks,v::vs,xs,hl,r=>by
  rw[zP,jN] at r;cases r with
  | cons h t=>
   obtain⟨h1,h2,_⟩:=h;rw[zP];refine .cons (.inl (.inl ?_)) (b0e (by simpa using hl) t)
   rw[h2,b08]
section
variable {X:Cx}{e:Expr}{pos p:Pos}{fa:FA}
theorem a1L (hc:X.calm=true):CallR X (.builtin "sorted") (fun xs H Q=>∃p ks,xs=[.ref p]/\SrcT X.K H p ks/\ks.length<64/\(∀k∈ks,k≠[])/\∀l bs,H l=none->Al X.K H bs (sortK ks)->Q (.ref l) (upd H l (.lst (bs.map V.ref)))):=by
 intro pins s σ H xs us Q I r h;obtain⟨p,ks,rfl,src,h64,ne,q⟩:=h;obtain⟨u,rfl,ru⟩:=vals1 r;cases ru;refine Calls.call_function_entry kind_sorted plain_sorted entry_sorted (args_sorted1 _) ?_;unfold Builtin.«sorted»;refine zA (m:=checkCount "sorted" 1 1 _) (zC ?_);rcases src with ⟨as,hq,al⟩|⟨vs,hq,hl⟩
 ·have len:=al.len;obtain⟨its,rv,⟨o,m,h1,h2,_,h4⟩,hz⟩:=I.list hq;have ei:=D3 rv;subst ei;have hL:s.heap.IsList p (as.map Value.ref).toArray:=⟨o,h1,h2,m,h4⟩;have sz:(as.map Value.ref).length<=sizeLine:=by rw[zB,len,xD];walk_at "o"
  refine zA (collect_list hL ?_ sz);refine zA (wpAny_newList ?_ sz);have I1:Inv X pins σ H {s with heap:=(s.heap.push (seqObj "list" #[] 0)).update s.heap.objs.size (PySem.Obj.mapSeq (· ++ (as.map Value.ref).toArray))}:=I.kept (t':=s.toks) fun b o e=>by
   rw[xC _ _ _ _ (zV (zW e))];exact zE _ e
  refine zA (qN (zZ (a0N I1 al ne h64 q) (fun _ s' x=>?_) fun _ _ z=>z));exact zC ⟨_,rfl,x⟩
 ·obtain⟨z,hs,xs,rel,o,es,h1,h2,h3,h4,h5⟩:=(show ObjOk X.prog X.w H s.heap p (.dT ((ks.map fun k=>k.map Sum.inl).zip vs)) from I.hok p _ hq);have al:=b0e (K:=X.K) hl rel;have len:=al.len;have sz:es.size=ks.length:=by rw[<-len,zB,<-zK,h4,zB]
  have szl:es.size<=sizeLine:=by rw[sz,xD];walk_at "o"
  refine zA (PySem.W.kdu_collect (a34 (es:=es) hs) (show X.A.in1.handled=none from I.ok.hd hc) ⟨o,h1,h2,h3⟩ szl fun h' tk acc hk hacc=>?_);have ea:acc.toList=(xs.map (·.2.1)).map Value.ref:=by
   have e0:(xs.map (·.2.1)).map Value.ref=es.toList.map (·.key):=by rw[h4,qC,qC];rfl
   rw[e0];apply ext_getElem?;intro i;rw[zR,qH,zR]
   by_cases hi:i<es.size
   ·have hi2:i<acc.size:=by rw[hacc.1];exact hi
    obtain⟨e,he,hv⟩:=hacc.2 i acc[i] (by simp[hi2])
    rw[he,Array.getElem?_eq_getElem hi2,hv];rfl
   ·rw[xX (by rw[hacc.1];walk_at "o"),xX (by walk_at "o")];rfl
  rw[ea];refine zA (wpAny_newList ?_ (by rw[zB,len,<-sz];exact szl))
  have I1:Inv X pins σ H {s with heap:=h',toks:=tk}:=I.kept (t':=tk) hk
  refine zA (qN (zZ (a0N I1 al ne h64 q) (fun _ s' x=>?_) fun _ _ z=>z));exact zC ⟨_,rfl,x⟩
def inlK:List Key->Option (List Int)
 | []=>some []
 | Sum.inl i::k=>(inlK k).map fun j=>i::j
 | Sum.inr _::_=>none
def inlKs:List (List Key)->Option (List (List Int))
 | []=>some []
 | k::ks=>(inlK k).bind fun j=>(inlKs ks).map fun js=>j::js
theorem a3U:∀{k:List Key} {j:List Int},inlK k=some j->k=j.map Sum.inl
 | [],j,e=>by cases e;rfl
 | Sum.inr _::_,j,e=>by cases e
 | Sum.inl i::k,j,e=>by
  rw[inlK] at e;cases e1:inlK k with
  | none=>rw[e1] at e;cases e
  | some js=>rw[e1] at e;cases e;rw[zP,<-a3U e1]
theorem a2x:∀{ks:List (List Key)} {js:List (List Int)},inlKs ks=some js->ks=js.map fun k=>k.map Sum.inl
 | [],js,e=>by cases e;rfl
 | k::ks,js,e=>by
  rw[inlKs] at e;cases e1:inlK k with
  | none=>rw[e1] at e;cases e
  | some j=>
   cases e2:inlKs ks with
   | none=>rw[e1,e2] at e;cases e
   | some js'=>rw[e1,e2] at e;cases e;rw[zP,<-a2x e2,<-a3U e1]
theorem a2K:∀k:List Int,inlK (k.map Sum.inl)=some k
 | []=>rfl
 | i::k=>by rw[zP,inlK,a2K k];rfl
theorem a08:∀ks:List (List Int),inlKs (ks.map fun k=>k.map Sum.inl)=some ks
 | []=>rfl
 | k::ks=>by rw[zP,inlKs,a2K,a08 ks];rfl
def keysOf:D->Option (List (List Int))
 | .dT ks _=>inlKs ks
 | .lst ds=>tupsOf ds
 | _=>none
def gSortT (d:D):Option W:=(keysOf d).bind fun ks=>if ks.length<64/\(∀k∈ks,k≠[]) then some (.o (.lst ((sortK ks).map tupI))) else none
def gSort (d:D):Option W:=match gSortI d with
 | some w=>some w
 | none=>gSortT d
theorem a3j {K:PySem.W.Frag}{A:Av}{H:Hp}{d:D}{ks:List (List Int)}{v:V}(e:keysOf d=some ks)(h:DenR K A H d v):∃p,v= .ref p/\SrcT K H p ks:=by
 cases d with
 | dT js xs=>
  obtain⟨a,vs,rfl,hq,hl,l⟩:=h;have ej:=a2x e;subst ej;exact⟨a,rfl,.inr ⟨vs,hq,by rw[<-b9 l,<-hl,zB]⟩⟩
 | lst ds=>
  obtain⟨a,vs,rfl,hq,l⟩:=h;obtain⟨as,rfl,al⟩:=O8 e l;exact⟨a,rfl,.inl ⟨as,hq,al⟩⟩
 | _=>cases e
theorem a71:PrA X (k1 gSortT) (fun xs H Q=>∃p ks,xs=[.ref p]/\SrcT X.K H p ks/\ks.length<64/\(∀k∈ks,k≠[])/\∀l bs,H l=none->Al X.K H bs (sortK ks)->Q (.ref l) (upd H l (.lst (bs.map V.ref)))):=pr1 fun A d w v H Q e h q=>by
 unfold gSortT at e;cases e1:keysOf d with
 | none=>rw[e1] at e;cases e
 | some ks=>
  rw[e1] at e;simp only[bind_some] at e;split at e
  ·rename_i hl;cases e;obtain⟨a,rfl,src⟩:=a3j e1 h;exact⟨a,ks,rfl,src,hl.1,hl.2,fun l bs hp al=>q _ _ (j7 hp _) (A5 hp al.den)⟩
  ·cases e
theorem a8D:PrA X (k1 gSort) (fun xs H Q=>(∃(p:Addr) (ns:List Int),xs=[.ref p]/\SqL X.K H p (ns.map V.int)/\ns.length<64/\∀l,H l=none->Q (.ref l) (upd H l (.lst ((sortI ns).map V.int))))\/
  ∃p ks,xs=[.ref p]/\SrcT X.K H p ks/\ks.length<64/\(∀k∈ks,k≠[])/\∀l bs,H l=none->Al X.K H bs (sortK ks)->Q (.ref l) (upd H l (.lst (bs.map V.ref)))):=fun A ds w vs H Q hA e l q=>by
 match ds,e,l with
 | [d],e,l=>
  have e:gSort d=some w:=e;unfold gSort at e;cases e1:gSortI d with
  | some w'=>rw[e1] at e;cases e;exact .inl (a7c A [d] w vs H Q hA e1 l q)
  | none=>rw[e1] at e;exact .inr (a71 A [d] w vs H Q hA e l q)
theorem W3 {k:Nat}(hr:Room k X.A)(hc:X.calm=true)(hm:X.mg "sorted"=none)(ha:QA X [e] fa)(hv:bootBuiltins "sorted"=some (.builtin "sorted"):=by rfl)(hg:Gl X "sorted":=by rfl)
  (he:starEach [e] X.env=(false,eval e X.env)::starEach [] X.env:=by rfl):QX X (.Call (.Name "sorted" p) [e] [] pos) (fCall (k1 gSort) fa):=a0v (a1R.or (a1L hc)) a8D hv hm ha hg (by decide) (by decide) he rfl
end
open PySem PySem.Spec PyProof.Rows L2 PySem.W PySem.Calls
section
variable {prog:Program}{w:World}{A:Around}{E:Value->Shared->Prop}{s:Shared}{D:Addr}{vs:List Value}{κ:SortKind}{blt:Keyed->Keyed->Bool}{S:Keyed->Prop}
theorem a50 {Q:Value->Shared->Prop}(hD:s.heap.get? D=some (listOf vs.toArray 0))(h2:2<=vs.length)(hz:vs.length<=sizeLine)(hO:Tot blt S)(hS:∀v∈vs,S (v,v))
  (hk:∀(h':Heap) (Q':SortKind->Shared->Prop),(∀b o,b≠D->s.heap.get? b=some o->h'.get? b=some o)->Q' κ {s with heap:=h'}->wpAny (model prog w) A.in1 (keyKind' vs.toArray) Q' E {s with heap:=h'})
  (hC:∀h':Heap,(∀b o,b≠D->s.heap.get? b=some o->h'.get? b=some o)->Cmp prog w A.in1 E {s with heap:=h'} κ blt S)
  (q:∀(h':Heap) (out:List Value) (e:Nat),(∀b o,b≠D->s.heap.get? b=some o->h'.get? b=some o)->h'.get? D=some (listOf out.toArray e)->out.Perm vs->out.Pairwise (fun x y=>Le blt (x,x) (y,y))->Q .none {s with heap:=h'}):
  wpAny (model prog w) A (call (.builtin "list.sort") [.ref D]) Q E s:=by
 refine qV slot_list_sort ⟨_,hD,rfl⟩ entry_list_sort ?_ (args_list_sort _);rw[list_sort_plain];have lt:D<s.heap.objs.size:=zW hD;refine zA (listItems_at hD rfl (zA (listUpdate_at hD rfl ?_ (by rw[zT];exact hz) (qL _))))
 obtain⟨e1,k1⟩:∃e1,(s.heap.update D (PySem.Obj.mapSeq fun _=> #[])).get? D=some (seqObj "list" #[] e1):=⟨_,yV hD (fun _=> #[])⟩;refine zA (seqEpoch_at k1 rfl (zA (wpAny_newTuple (zA (wpAny_newList (qN ?_) (qL _))) hz)));have k2:(((s.heap.update D (PySem.Obj.mapSeq fun _=> #[])).push (seqObj "tuple" vs.toArray 0)).push (seqObj "list" #[] 0)).get? D=some (seqObj "list" #[] e1):=zE _ (zE _ k1);show wpAny (model prog w) _ _ _ E {s with heap:=((s.heap.update D (PySem.Obj.mapSeq fun _=> #[])).push (seqObj "tuple" vs.toArray 0)).push (seqObj "list" #[] 0)}
 have kp:∀b o,b≠D->s.heap.get? b=some o->(((s.heap.update D (PySem.Obj.mapSeq fun _=> #[])).push (seqObj "tuple" vs.toArray 0)).push (seqObj "list" #[] 0)).get? b=some o:=fun b o hb e=>by
  refine zE _ (zE _ ?_);rw[xC _ _ _ _ hb];exact e
 generalize ((s.heap.update D (PySem.Obj.mapSeq fun _=> #[])).push (seqObj "tuple" vs.toArray 0)).push (seqObj "list" #[] 0)=h1 at k2 kp ⊢;dsimp only;have sz:¬vs.toArray.size<2:=by rw[zT];walk_at "o"
 rw[if_neg sz,if_neg sz];refine zA (hk h1 _ kp ?_);have ez:(vs.toArray.zip vs.toArray).toList=vs.map fun v=>(v,v):=by
  have:∀l:List Value,l.zip l=l.map fun v=>(v,v):=fun l=>by
   induction l with
   | nil=>rfl
   | cons x l ih=>rw[jN,ih];rfl
  simp[this]
 have run:=a2V (hC h1 kp) hO (st:=SortSt.mk' κ (vs.toArray.zip vs.toArray) #[] 7 none) (Q:=fun _ st'=>(arrOf st').Perm (vs.toArray.zip vs.toArray)/\failedOf st'=none/\Srt blt (arrOf st') 0 (arrOf st').size) rfl rfl rfl (fun x hx=>by
  replace hx:x∈(vs.toArray.zip vs.toArray).toList:=hx
  rw[ez] at hx;obtain⟨v,hv,rfl⟩:=zG.mp hx
  exact hS v hv) (by show 1<=(vs.toArray.zip vs.toArray).size;simp;walk_at "o") fun st' p1 p2 p3=>⟨p1,p2,p3⟩
 refine zA (zZ run ?_ fun _ _ z=>z);rintro⟨⟨⟩,st'⟩ s' ⟨rfl,pe,fl,so⟩;dsimp only at pe fl so ⊢;have pl:(arrOf st').toList.Perm (vs.map fun v=>(v,v)):=by rw[<-ez];exact jI.mp pe
 have dia:∀x∈(arrOf st').toList,x=(x.2,x.2):=fun x hx=>by
  obtain⟨v,_,rfl⟩:=zG.mp (pl.mem_iff.mp hx);rfl
 have pw:(arrOf st').toList.Pairwise (Le blt):=by
  have:=so.list
  unfold seg at this
  rwa [yS,jX (by rw[zK];exact zD _)] at this
 have eo:(arrOf st').map (·.2)=((arrOf st').toList.map (·.2)).toArray:=by
  apply Array.toList_inj.mp;rw[Array.toList_map]
 rw[eo];have op:((arrOf st').toList.map (·.2)).Perm vs:=by
  have:=pl.map (·.2)
  rw[qC] at this;have e:((fun x:Keyed=>x.2)∘fun v:Value=>(v,v))=id:=rfl
  rwa [e,map_id] at this
 have ow:((arrOf st').toList.map (·.2)).Pairwise (fun x y=>Le blt (x,x) (y,y)):=by
  rw[jD];refine pw.imp_of_mem fun{a b} ha hb h=>?_;rw[<-dia a ha,<-dia b hb];exact h
 generalize (arrOf st').toList.map (·.2)=out at op ow;refine zA (seqEpoch_at k2 rfl (zA (listUpdate_at k2 rfl ?_ (qL _) (zQ (by rw[zT,op.length_eq];exact hz) (Nat.le_succ _)))))
 rw[fl];simp only[bne_self_eq_false,jJ,xF];obtain⟨e2,k3⟩:∃e2,(h1.update D (PySem.Obj.mapSeq fun _=>out.toArray)).get? D=some (seqObj "list" out.toArray e2):=⟨_,yV k2 (fun _=>out.toArray)⟩;refine zC ⟨_,rfl,q _ out e2 (fun b o hb e=>?_) k3 op ow⟩;rw[xC _ _ _ _ hb];exact kp b o hb e
end
def lexN:List (List Int)->List (List Int)->Bool
 | _,[]=>false
 | [],_::_=>true
 | x::a,y::b=>if x=y then lexN a b else HT.lexLt x y
theorem a3R:∀a:List (List Int),lexN a a=false
 | []=>rfl
 | x::a=>by rw[lexN,if_pos rfl];exact a3R a
theorem a0x {a b:List Int}(h:HT.lexLt a b=true):HT.lexLt b a=false:=by
 cases e:HT.lexLt b a with
 | false=>rfl
 | true=>have:=W9 a b a h e;rw[N9] at this;cases this
theorem a6s {a b:List Int}(h:a≠b):HT.lexLt a b=true\/HT.lexLt b a=true:=by
 cases e:HT.lexLt a b with
 | true=>exact .inl rfl
 | false=>
  cases e2:HT.lexLt b a with
  | true=>exact .inr rfl
  | false=>exact absurd (U0 a b e e2) h
theorem S7:∀a b:List (List Int),lexN a b=true->lexN b a=false
 | _,[],h=>by simp[lexN] at h
 | [],_::_,_=>rfl
 | x::a,y::b,h=>by
  rw[lexN] at h ⊢
  by_cases e:x=y
  ·rw[if_pos e] at h;rw[if_pos e.symm];exact S7 a b h
  ·rw[if_neg e] at h;rw[if_neg (jE e)];exact a0x h
theorem a1V:∀a b c:List (List Int),lexN a c=true->lexN a b=true\/lexN b c=true
 | _,_,[],h=>by simp[lexN] at h
 | [],[],_::_,h=>.inr h
 | [],_::_,_::_,_=>.inl rfl
 | _::_,[],_::_,_=>.inr rfl
 | x::a,y::b,z::c,h=>by
  rw[lexN] at h ⊢;rw[lexN]
  by_cases e1:x=y
  ·by_cases e2:y=z
   ·rw[if_pos (e1.trans e2)] at h;rw[if_pos e1,if_pos e2];exact a1V a b c h
   ·rw[if_neg (fun q=>e2 (e1.symm.trans q))] at h;rw[if_neg e2,<-e1];exact .inr h
  ·rw[if_neg e1]
   by_cases e2:x=z
   ·have e3:¬y=z:=fun q=>e1 (e2.trans q.symm);rw[if_neg e3];rcases a6s e1 with q|q
    ·exact .inl q
    ·rw[<-e2];exact .inr q
   ·rw[if_neg e2] at h;rcases a18 x y z h with q|q
    ·exact .inl q
    ·by_cases e3:y=z
     ·rw[e3,N9] at q;cases q
     ·rw[if_neg e3];exact .inr q
theorem a4F:∀a b:List (List Int),lexN a b=false->lexN b a=false->a=b
 | [],[],_,_=>rfl
 | [],_::_,h,_=>by cases h
 | _::_,[],_,h=>by cases h
 | x::a,y::b,h,h'=>by
  rw[lexN] at h h'
  by_cases e:x=y
  ·rw[if_pos e] at h;rw[if_pos e.symm] at h';rw[e,a4F a b h h']
  ·rw[if_neg e] at h;rw[if_neg (fun q=>e q.symm)] at h';exact absurd (U0 x y h h') e
def intsV (h:Heap):Value->List Int
 | .ref a=>match h.get? a with
  | some ⟨_,_,.seq xs _,_⟩=>xs.toList.map numOf
  | _=>[]
 | _=>[]
def nestV (h:Heap):Value->List (List Int)
 | .ref a=>match h.get? a with
  | some ⟨_,_,.seq xs _,_⟩=>xs.toList.map (intsV h)
  | _=>[]
 | _=>[]
theorem a2i {C:Prop}(h:(Value.type "list":Value)= .type "tuple"):C:=by
 injection h with h
 exact absurd h (by decide)
inductive TupsE (h:Heap):List Value->List (List Int)->Prop where
 | nil:TupsE h [] []
 | cons {a:Addr} {its:Array Value} {k:List Int} {vs:List Value} {ks:List (List Int)} (t:IsTup h a its) (i:IntsAre its.toList k) (r:TupsE h vs ks):TupsE h (.ref a::vs) (k::ks)
def Nst (h:Heap) (v:Value) (k:List (List Int)):Prop:=∃a its,v= .ref a/\IsTup h a its/\TupsE h its.toList k/\k≠[]
theorem a53:∀{l:List Value} {k:List Int},IntsAre l k->l.map numOf=k
 | _,_,h=>by
  induction h with
  | nil=>rfl
  | cons a t _ ih=>rw[zP,ih];rfl
theorem a0i {h:Heap}{a:Addr}{its:Array Value}{k:List Int}(t:IsTup h a its)(i:IntsAre its.toList k):intsV h (.ref a)=k:=by
 obtain⟨⟨c,d,da,sl⟩,h1,h2,n,h3⟩:=t;simp only at h2 h3;subst h2 h3;simp only[intsV,h1];exact a53 i
theorem TupsE.map {h:Heap}:∀{vs:List Value} {ks:List (List Int)},TupsE h vs ks->vs.map (intsV h)=ks
 | _,_,t=>by
  induction t with
  | nil=>rfl
  | cons t i r ih=>rw[zP,ih,a0i t i]
theorem Nst.key {h:Heap}{v:Value}{k:List (List Int)}(t:Nst h v k):nestV h v=k:=by
 obtain⟨a,its,rfl,⟨⟨c,d,da,sl⟩,h1,h2,n,h3⟩,r,_⟩:=t;simp only at h2 h3;subst h2 h3;simp only[nestV,h1];exact r.map
theorem TupsE.on {h h':Heap}{D:Addr}{e:Nat}{ys:Array Value}(hD:h.get? D=some (listOf ys e))(kp:∀b o,b≠D->h.get? b=some o->h'.get? b=some o):∀{vs:List Value} {ks:List (List Int)},TupsE h vs ks->TupsE h' vs ks
 | _,_,t=>by
  induction t with
  | nil=>exact .nil
  | @cons a its k vs ks t i r ih=>
   obtain⟨o,h1,h2,n,h3⟩:=t;have ne:a≠D:=fun z=>by rw[z,hD] at h1;cases h1;exact a2i h2
   exact .cons ⟨o,kp a o ne h1,h2,n,h3⟩ i ih
theorem Nst.on {h h':Heap}{D:Addr}{e:Nat}{ys:Array Value}(hD:h.get? D=some (listOf ys e))(kp:∀b o,b≠D->h.get? b=some o->h'.get? b=some o){v:Value}{k:List (List Int)}(t:Nst h v k):Nst h' v k:=by
 obtain⟨a,its,rfl,⟨o,h1,h2,n,h3⟩,r,ne⟩:=t;have na:a≠D:=fun z=>by rw[z,hD] at h1;cases h1;exact a2i h2
 exact⟨a,its,rfl,⟨o,kp a o na h1,h2,n,h3⟩,r.on hD kp,ne⟩
section
variable {prog:Program}{w:World}{A:Around}{E:Value->Shared->Prop}{s:Shared}
theorem a21 {l:List Value}{k:List Int}(h:IntsAre l k):l.length=k.length:=by
 induction h with
 | nil=>rfl
 | cons _ _ _ ih=>simp[ih]
theorem a1x:∀{l:List Value} {k:List Int},IntsAre l k->∀(i:Nat) (hi:i<l.length),∃t,l[i]= .int (k.getD i 0) t
 | _,_,.nil,i,hi=>by simp at hi
 | _,_,.cons a t _,0,hi=>⟨t,rfl⟩
 | _,_,.cons a t r,i+1,hi=>a1x r i (by simpa using hi)
theorem a5B (hu:A.units<cLine){a b:Addr}{xs ys:Array Value}{n m:List Int}(ta:IsTup s.heap a xs)(tb:IsTup s.heap b ys)(ia:IntsAre xs.toList n)(ib:IntsAre ys.toList m):SeqAt.EqAt A s (.ref a) (.ref b) (decide (n=m)):=by
 by_cases e:a=b
 ·subst e
  have:n=m:=by rw[<-a0i ta ia,a0i tb ib]
  rw[qO this];exact .same _
 ·have la:=a21 ia;have lb:=a21 ib;rw[zK] at la lb;have r:=SeqAt.RcAt.tuples (A:=A) (e:=fun j=>n.getD j 0==m.getD j 0) ta tb hu fun j h1 h2=>by
   obtain⟨t,et⟩:=a1x ia j (by rw[zK];exact h1)
   obtain⟨u,eu⟩:=a1x ib j (by rw[zK];exact h2)
   rw[Array.getElem_toList] at et eu;rw[et,eu];exact SeqAt.EqAt.int_int _ t _ u
  have ek:((List.range (min xs.size ys.size)).all (fun j=>n.getD j 0==m.getD j 0)&&xs.size==ys.size)=decide (n=m):=by
   rw[la,lb];rw[Bool.eq_iff_iff,qR,all_eq_true,decide_eq_true_iff,xW];constructor
   ·rintro⟨h1,h2⟩;refine List.ext_getElem h2 fun i p1 p2=>?_
    have:=h1 i (xO.mpr (by walk_at "o"))
    simpa [yE,p1,p2] using this
   ·rintro rfl;exact⟨fun i _=>by simp,rfl⟩
  rw[ek] at r;exact .of_refs e r
theorem a79 (hu:A.units<cLine){fin:Bool}{Q:Bool->Shared->Prop}:∀{us ws:List Value} {ns ms:List (List Int)} {i:Nat},TupsE s.heap us ns->TupsE s.heap ws ms->fin=decide (us.length<ws.length)->
  Q (lexN ns ms) s->KatLex prog w A false fin Q (us.zip ws) i s
 | [],[],_,_,i,h1,h2,ef,q=>by
  cases h1;cases h2;rw[zip_nil_left];exact kat_nil (by rw[ef];exact q)
 | [],_::_,_,_,i,h1,h2,ef,q=>by
  cases h1;cases h2;rw[zip_nil_left];exact kat_nil (by rw[ef];simpa [lexN] using q)
 | _::_,[],_,_,i,h1,h2,ef,q=>by
  cases h1;cases h2;rw[List.zip_nil_right];exact kat_nil (by rw[ef];simpa [lexN] using q)
 | _::us,_::ws,_,_,i,h1,h2,ef,q=>by
  cases h1 with
  | @cons a its k _ ks t1 i1 r1=>
   cases h2 with
   | @cons b its2 k2 _ ks2 t2 i2 r2=>
    rw[jN];rw[lexN] at q;refine kat_cons (a5B hu t1 t2 i1 i2 prog w _ _ ?_)
    by_cases e:k=k2
    ·rw[if_pos e] at q;rw[qO e];exact kat_yes (a79 hu r1 r2 (by rw[ef];simp) q)
    ·rw[if_neg e] at q;rw[qM e];exact kat_no (kat_one _ _ (HT.lt_tupInts t1 t2 i1 i2 hu q))
def bltN (h:Heap) (x y:Keyed):Bool:=lexN (nestV h x.1) (nestV h y.1)
theorem totN (h:Heap):Tot (bltN h) fun x=>∃k,Nst h x.1 k where
 tr:=fun x y z _ _ _ h1 h2=>by
  unfold Le bltN at *;cases e:lexN (nestV h z.1) (nestV h x.1) with
  | false=>rfl
  | true=>
   rcases a1V _ (nestV h y.1) _ e with q|q
   ·rw[q] at h2;cases h2
   ·rw[q] at h1;cases h1
 as:=fun x y _ _ h1=>S7 _ _ h1
theorem cmpN (hu:A.units<cLine){h h':Heap}{D:Addr}{e:Nat}{ys:Array Value}(hD:h.get? D=some (listOf ys e))(kp:∀b o,b≠D->h.get? b=some o->h'.get? b=some o):Cmp prog w A E {s with heap:=h'} (tuples' false) (bltN h) fun x=>∃k,Nst h x.1 k:=by
 rintro⟨x,x2⟩ ⟨y,y2⟩ ⟨k,hk⟩ ⟨j,hj⟩ st Q hkd q;have ek:=hk.key;have ej:=hj.key;obtain⟨a,its,rfl,⟨o,h1,h2,n,h3⟩,r,_⟩:=hk.on hD kp;obtain⟨b,its2,rfl,⟨o2,g1,g2,n2,g3⟩,r2,_⟩:=hj.on hD kp;rw[lt'_eq];refine zF (wpS_get ?_);rw[hkd];refine zF (wpS_lift (wpAny_attempt ?_));refine kat_lt (s:={s with heap:=h'}) h1 h3 g1 g3 (a79 (s:={s with heap:=h'}) hu r r2 (by simp) ⟨rfl,?_⟩)
 unfold bltN at q;dsimp only at q;rw[ek,ej] at q;exact zI q
end
abbrev nleB (a b:List (List Int)):Bool:=!lexN b a
def sortN (ks:List (List (List Int))):List (List (List Int)):=ks.mergeSort nleB
theorem a0m (ks:List (List (List Int))):(sortN ks).Perm ks:=List.mergeSort_perm ks _
theorem S6 (ks:List (List (List Int))):(sortN ks).Pairwise fun a b=>lexN b a=false:=by
 have:=List.pairwise_mergeSort (le:=nleB) (fun a b c h1 h2=>by
  simp only[nleB,vA] at *;cases e:lexN c a with
  | false=>rfl
  | true=>
   rcases a1V c b a e with q|q
   ·rw[q] at h2;cases h2
   ·rw[q] at h1;cases h1) (fun a b=>by
  simp only[nleB,Bool.or_eq_true,vA];cases q:lexN b a with
  | false=>exact .inl rfl
  | true=>exact .inr (S7 _ _ q)) ks
 exact this.imp fun h=>by simpa [nleB] using h
theorem P0:∀{l1 l2:List (List (List Int))},l1.Perm l2->(l1.Pairwise fun a b=>lexN b a=false)->(l2.Pairwise fun a b=>lexN b a=false)->l1=l2
 | [],l2,h,_,_=>(List.nil_perm.mp h).symm
 | a::l1,[],h,_,_=>by have:=h.length_eq;simp at this
 | a::l1,b::l2,h,h1,h2=>by
  have h1':=xP.mp h1;have h2':=xP.mp h2;have e:a=b:=by
   have ma:a∈b::l2:=h.mem_iff.mp zM;have mb:b∈a::l1:=h.mem_iff.mpr zM;rcases zS.mp ma with z|z
   ·exact z
   ·rcases zS.mp mb with y|y
    ·exact y.symm
    ·exact a4F a b (h2'.1 a z) (h1'.1 b y)
  subst e;rw[P0 ((List.perm_cons a).mp h) h1'.2 h2'.2]
def nestI (k:List (List Int)):D:=.tup (k.map tupI)
def N1 (K:PySem.W.Frag) (H:Hp) (a:Addr) (k:List (List Int)):Prop:=∃as,SqT K H a (as.map V.ref)/\Al K H as k
inductive AlN (K:PySem.W.Frag) (H:Hp):List Addr->List (List (List Int))->Prop where
 | nil:AlN K H [] []
 | cons {a:Addr} {k:List (List Int)} {as:List Addr} {ks:List (List (List Int))} (q:N1 K H a k) (r:AlN K H as ks):AlN K H (a::as) (k::ks)
section
variable {K:PySem.W.Frag}{H:Hp}
theorem AlN.len {as:List Addr}{ks:List (List (List Int))}(h:AlN K H as ks):as.length=ks.length:=by
 induction h with
 | nil=>rfl
 | cons _ _ ih=>simp[ih]
theorem AlN.of {f:Addr->List (List Int)}:∀{bs:List Addr},(∀b∈bs,N1 K H b (f b))->AlN K H bs (bs.map f)
 | [],_=>.nil
 | b::bs,h=>.cons (h b zM) (AlN.of fun c hc=>h c (zL _ hc))
theorem AlN.den {O:Av}{as:List Addr}{ks:List (List (List Int))}(h:AlN K H as ks):DenL K O H (ks.map nestI) (as.map V.ref):=by
 induction h with
 | nil=>exact j6
 | cons q r ih=>
  refine j4 ?_ ih;obtain⟨as,q,al⟩:=q;unfold nestI;rw[Den];exact⟨_,_,rfl,q,al.den⟩
end
def nestsOf:List D->Option (List (List (List Int)))
 | []=>some []
 | .tup xs::ds=>(tupsOf xs).bind fun k=>(nestsOf ds).map fun ks=>k::ks
 | _=>none
theorem Y3:∀ks:List (List (List Int)),nestsOf (ks.map nestI)=some ks
 | []=>rfl
 | k::ks=>by
  rw[zP];show(tupsOf (k.map tupI)).bind _=_;rw[J4,Y3 ks];rfl
theorem X4 {K:PySem.W.Frag}{O:Av}{H:Hp}:∀{ds:List D} {ks:List (List (List Int))} {vs:List V},nestsOf ds=some ks->DenL K O H ds vs->∃as,vs=as.map V.ref/\AlN K H as ks
 | [],ks,vs,e,l=>by rw[DenL] at l;subst l;cases e;exact⟨[],rfl,.nil⟩
 | d::ds,ks,vs,e,l=>by
  rw[DenL] at l;obtain⟨v,r,rfl,h,l⟩:=l;cases d<;>simp only[nestsOf] at e<;>try cases e
  rename_i xs;cases e1:tupsOf xs with
  | none=>rw[e1] at e;cases e
  | some k=>
   rw[e1] at e;simp only[bind_some] at e;cases e2:nestsOf ds with
   | none=>rw[e2] at e;cases e
   | some ks'=>
    rw[e2] at e;cases e;obtain⟨as,rfl,a⟩:=X4 e2 l;rw[Den] at h;obtain⟨p,us,rfl,q,lu⟩:=h;obtain⟨bs,rfl,al⟩:=O8 e1 lu;exact⟨p::as,rfl,.cons ⟨bs,q,al⟩ a⟩
section
variable {X:Cx}{pins:List (Addr×PySem.Obj)}{σ:L2.St}{H:Hp}{s:Shared}
theorem Al.tupsE {as:List Addr}{ks:List (List Int)}(I:Inv X pins σ H s)(h:Al X.K H as ks):TupsE s.heap (as.map Value.ref) ks:=by
 induction h with
 | nil=>exact .nil
 | cons q r ih=>
  obtain⟨its,r1,p1,_⟩:=I.tuple q;exact .cons p1 (E1 r1) ih
theorem N1.nst (I:Inv X pins σ H s){a:Addr}{k:List (List Int)}(h:N1 X.K H a k)(ne:k≠[]):Nst s.heap (.ref a) k:=by
 obtain⟨as,q,al⟩:=h;obtain⟨its,r1,p1,_⟩:=I.tuple q;have e:=D3 r1;subst e;exact⟨a,_,rfl,p1,al.tupsE I,ne⟩
theorem katNst {M:Model}{h:Heap}:∀{vs:List Value},(∀v∈vs,∃k,Nst h v k)->∃fs,PySem.W.KatTups h vs fs/\fs.length=vs.length/\∀f∈fs,PySem.W.Looks M h (typeOf f) (.type "tuple")
 | [],_=>⟨[],.nil,rfl,fun v hv=>by cases hv⟩
 | v::vs,hn=>by
  obtain⟨fs,h1,h2,h3⟩:=katNst (M:=M) (vs:=vs) fun u hu=>hn u (zL _ hu);obtain⟨k,a,its,rfl,⟨o,e,c,n,d⟩,r,ne⟩:=hn v zM;obtain⟨its⟩:=its;cases r with
  | nil=>exact absurd rfl ne
  | @cons b its2 k2 vs2 ks2 t i r2=>
   obtain⟨o2,e2,c2,n2,d2⟩:=t;refine⟨_,.cons e c d (by rfl) h1,by simp[h2],fun f hf=>?_⟩
   rcases zS.mp hf with z|z
   ·subst z;rw[<-c2];exact(PySem.W.Looks.ld e2).andThen .now
   ·exact h3 f z
theorem a3q {A:Around}{E:Value->Shared->Prop}{as:List Addr}{ks:List (List (List Int))}{Q:VK}(hu:A.in1.units<cLine)(I:Inv X pins σ H s)(a:AlN X.K H as ks)(ne:∀k∈ks,k≠[])(hz:as.length<=sizeLine)
  (q:∀l bs,H l=none->AlN X.K H bs (sortN ks)->Q (.ref l) (upd H l (.lst (bs.map V.ref)))):
  wpAny (model X.prog X.w) A (call (.builtin "list.sort") [.ref s.heap.objs.size]) (fun _ s'=>EP X pins σ Q (.ref s.heap.objs.size) s') E {s with heap:=s.heap.push (PySem.W.listOf (as.map Value.ref).toArray 0)}:=by
 have I2:Inv X pins σ H {s with heap:=s.heap.push (PySem.W.listOf (as.map Value.ref).toArray 0)}:=I.kept (t':=s.toks) fun b o e=>zE _ e
 have fr:H s.heap.objs.size=none:=I.hok.fresh (zD _);have hD:(s.heap.push (PySem.W.listOf (as.map Value.ref).toArray 0)).get? s.heap.objs.size=some (PySem.W.listOf (as.map Value.ref).toArray 0):=qA _ rfl;have one:∀{as ks},AlN X.K H as ks->(∀k∈ks,k≠[])->ks=as.map (fun b=>nestV (s.heap.push (PySem.W.listOf (as.map Value.ref).toArray 0)) (.ref b))->True:=fun _ _ _=>trivial;generalize hh:s.heap.push (PySem.W.listOf (as.map Value.ref).toArray 0)=h1 at I2 hD one ⊢;have keys:∀{as:List Addr} {ks:List (List (List Int))},AlN X.K H as ks->(∀k∈ks,k≠[])->(ks=as.map fun b=>nestV h1 (.ref b))/\∀b∈as,N1 X.K H b (nestV h1 (.ref b))/\∃k,Nst h1 (.ref b) k:=fun{as ks} al ne=>by
  induction al with
  | nil=>exact⟨rfl,fun b hb=>by cases hb⟩
  | @cons a k as ks q r ih=>
   obtain⟨e,f⟩:=ih fun k hk=>ne k (zL _ hk);have n1:=N1.nst I2 q (ne k zM);have ek:=n1.key;refine⟨by rw[zP,<-e];congr 1;exact ek.symm,fun b hb=>?_⟩
   rcases zS.mp hb with z|z
   ·subst z;exact⟨by rw[show nestV h1 (.ref b)=k from ek];exact q,k,n1⟩
   ·exact f b z
 obtain⟨ek,fk⟩:=keys a ne;have fin:∀(h':Heap) (bs:List Addr) (ec:Nat),(∀b o,b≠s.heap.objs.size->h1.get? b=some o->h'.get? b=some o)->h'.get? s.heap.objs.size=some (PySem.W.listOf (bs.map Value.ref).toArray ec)->bs.Perm as->
   ((bs.map fun b=>nestV h1 (.ref b)).Pairwise fun a b=>lexN b a=false)->EP X pins σ Q (.ref s.heap.objs.size) {s with heap:=h'}:=fun h' bs ec kp hD' pp ps=>by
  have e1:(bs.map fun b=>nestV h1 (.ref b))=sortN ks:=by
   refine P0 ((pp.map _).trans ?_) ps (S6 ks);rw[<-ek];exact(a0m ks).symm
  have ab:AlN X.K H bs (sortN ks):=by
   rw[<-e1];exact AlN.of fun b hb=>(fk b (pp.mem_iff.mp hb)).1
  have kept:∀b o,s.heap.get? b=some o->h'.get? b=some o:=fun b o e=>kp b o (zV (zW e)) (by rw[<-hh];exact zE _ e)
  have nH:∀b u,H b=some u->b≠s.heap.objs.size:=fun b u e=>m9 e fr;refine⟨.ref s.heap.objs.size,upd H s.heap.objs.size (.lst (bs.map V.ref)),?_,rfl,q _ _ fr ab⟩;refine I.step (g':=s.gens) (t':=s.toks) (d':=s.drawn) (ch:=[]) (fun _ z=>nomatch z) (fun b o _ _ _ e _=>kept b o e) (fun b o _ _ _ e _=>⟨o.slots,kept b o e⟩) (fun b o _ e n=>by rw[g9 (zV (zW e))];exact n) (fun b o _ e=>⟨o,kept b o e⟩)
   (fun b xs e=>by rw[g9 (nH _ _ e)];exact e) (fun b o u e=>by rw[g9 (nH _ _ e)];exact e) (fun b ps e=>⟨#[],by rw[g9 (nH _ _ e),e];simp⟩) (fun m' hm=>?_) (fun b u e=>?_) I.bare
  ·obtain⟨o,es,ep,e,r⟩:=hm;exact⟨o,es,ep,kept _ _ e,r⟩
  ·by_cases hb:b=s.heap.objs.size
   ·subst hb;rw[m6] at e;cases e;refine⟨?_,bs.map Value.ref,ec,M9 _,hD'⟩;rw[zB,pp.length_eq];exact hz
   ·rw[g9 hb] at e;refine(I.hok b u e).stay (fun c v hc z=>kept c v z) (fun c z=>by rw[g9 (nH _ _ z)];exact z) fun c ys z=>by rw[g9 (nH _ _ z)];exact z
 by_cases h2:(as.map Value.ref).length<2
 ·refine a0a hD h2 fun h' e kp hD'=>fin h' as e kp hD' (.refl _) ?_
  match as,h2 with
  | [],_=>exact .nil
  | [k],_=>exact List.pairwise_singleton _ _
 ·have nst:∀v∈as.map Value.ref,∃k,Nst h1 v k:=fun v hv=>by
   obtain⟨b,hb,rfl⟩:=zG.mp hv;exact(fk b hb).2
  refine a50 (κ:=tuples' false) (blt:=bltN h1) (S:=fun x=>∃k,Nst h1 x.1 k) hD (by walk_at "o") (by rw[zB];exact hz) (totN h1) (fun v hv=>nst v hv) (fun h' Q' kp hq=>?_) (fun h' kp=>cmpN hu hD kp) fun h' out e kp hD' po pw=>?_
  ·obtain⟨fs,f1,f2,f3⟩:=katNst (M:=model X.prog X.w) (h:=h') (vs:=as.map Value.ref) fun v hv=>by
    obtain⟨k,hk⟩:=nst v hv;exact⟨k,hk.on hD kp⟩
   exact PySem.W.kat_kind (s:={s with heap:=h'}) (T:=.type "tuple") f1 (by rw[f2];walk_at "o") f3 (by decide) hq
  ·have:∃bs:List Addr,out=bs.map Value.ref/\bs.Perm as:=by
    have g:∀v∈out,∃b,v=Value.ref b:=fun v hv=>by
     obtain⟨b,_,e⟩:=zG.mp (po.mem_iff.mp hv);exact⟨b,e.symm⟩
    let un:Value->Addr:=fun v=>match v with|.ref a=>a|_=>0
    have e1:out=(out.map un).map Value.ref:=by
     rw[qC]
     conv=>lhs;rw[<-map_id out]
     refine qS fun v hv=>?_;obtain⟨b,rfl⟩:=g v hv;rfl
    refine⟨out.map un,e1,?_⟩
    have:=po.map un
    rw[qC] at this;have e2:(un∘Value.ref)=id:=rfl
    rwa [e2,map_id] at this
   obtain⟨bs,rfl,pb⟩:=this;refine fin h' bs e kp hD' pb ?_;rw[jD] at pw ⊢;exact pw
end
section
variable {X:Cx}{e:Expr}{pos p:Pos}{fa:FA}
theorem a11 {j:Nat}(hr:Room j X.A):CallR X (.builtin "sorted") (fun xs H Q=>∃p ks,xs=[.ref p]/\(∃as,SqL X.K H p (as.map V.ref)/\AlN X.K H as ks)/\(∀k∈ks,k≠[])/\∀l bs,H l=none->AlN X.K H bs (sortN ks)->Q (.ref l) (upd H l (.lst (bs.map V.ref)))):=by
 intro pins s σ H xs us Q I r h;obtain⟨p,ks,rfl,⟨as,hq,al⟩,ne,q⟩:=h;obtain⟨u,rfl,ru⟩:=vals1 r;cases ru;refine Calls.call_function_entry kind_sorted plain_sorted entry_sorted (args_sorted1 _) ?_;unfold Builtin.«sorted»;refine zA (m:=checkCount "sorted" 1 1 _) (zC ?_);have len:=al.len;obtain⟨its,rv,⟨o,m,h1,h2,_,h4⟩,hz⟩:=I.list hq;have ei:=D3 rv;subst ei;have hL:s.heap.IsList p (as.map Value.ref).toArray:=⟨o,h1,h2,m,h4⟩;have sz:(as.map Value.ref).length<=sizeLine:=by rw[zB] at hz ⊢;exact hz
 refine zA (collect_list hL ?_ sz);refine zA (wpAny_newList ?_ sz);have I1:Inv X pins σ H {s with heap:=(s.heap.push (seqObj "list" #[] 0)).update s.heap.objs.size (PySem.Obj.mapSeq (· ++ (as.map Value.ref).toArray))}:=I.kept (t':=s.toks) fun b o e=>by
  rw[xC _ _ _ _ (zV (zW e))];exact zE _ e
 refine zA (qN (zZ (a3q (by have:=hr.units;show X.A.units+1+1<_;walk_at "o") I1 al ne (by rw[zB] at sz;exact sz) q) (fun _ s' x=>?_) fun _ _ z=>z))
 exact zC ⟨_,rfl,x⟩
def gSortN:D->Option W
 | .lst ds=>(nestsOf ds).bind fun ks=>if ∀k∈ks,k≠[] then some (.o (.lst ((sortN ks).map nestI))) else none
 | _=>none
theorem a51:PrA X (k1 gSortN) (fun xs H Q=>∃p ks,xs=[.ref p]/\(∃as,SqL X.K H p (as.map V.ref)/\AlN X.K H as ks)/\(∀k∈ks,k≠[])/\∀l bs,H l=none->AlN X.K H bs (sortN ks)->Q (.ref l) (upd H l (.lst (bs.map V.ref)))):=pr1 fun A d w v H Q e h q=>by
 cases d<;>simp only[gSortN] at e<;>try cases e
 rename_i ds;cases e1:nestsOf ds with
 | none=>rw[e1] at e;cases e
 | some ks=>
  rw[e1] at e;simp only[bind_some] at e;split at e
  ·rename_i hl;cases e;obtain⟨a,vs,rfl,hq,l⟩:=h;obtain⟨as,rfl,al⟩:=X4 e1 l;exact⟨a,ks,rfl,⟨as,hq,al⟩,hl,fun l bs hp al=>q _ _ (j7 hp _) (A5 hp al.den)⟩
  ·cases e
theorem a3x {j:Nat}(hr:Room j X.A)(hm:X.mg "sorted"=none)(ha:QA X [e] fa)(hv:bootBuiltins "sorted"=some (.builtin "sorted"):=by rfl)(hg:Gl X "sorted":=by rfl)
  (he:starEach [e] X.env=(false,eval e X.env)::starEach [] X.env:=by rfl):QX X (.Call (.Name "sorted" p) [e] [] pos) (fCall (k1 gSortN) fa):=a0v (a11 hr) a51 hv hm ha hg (by decide) (by decide) he rfl
theorem a8q {ks:List (List (List Int))}(ne:∀k∈ks,k≠[]):gSortN (.lst (ks.map nestI))=some (.o (.lst ((sortN ks).map nestI))):=by
 simp only[gSortN,Y3,bind_some];exact if_pos ne
end
section
variable {prog:Program}{w:World}{A:Around}{R:Result->Shared->Prop}{s:Shared}
theorem a3y {kx vx tg iter:Expr}{ifs:List Expr}{scope:Scope}{pos:Pos}{it:Value}{D:Addr}{env:Env}(I:Nat->Shared->Prop)
  (turn:∀n s,I n s->wpAny (model prog w) A (pyNext it) (fun r s1=>match r with
   | none=>R (.ok .next) s1
   | some v=>wpAny (model prog w) A (letOwnedTupleGo tg it v) (fun _ s2=>wpAny (model prog w) A (assign tg env v) (fun _ s3=>
     wpAny (model prog w) A (forIn ifs true fun c r=>if r=true then do let ok <-isTrue c env (eval c env);pure (ForInStep.yield ok) else pure (ForInStep.yield r)) (fun ok s4=>
      if ok=true then wpAny (model prog w) A (eval kx env) (fun kv s5=>wpAny (model prog w) A (eval vx env) (fun vv s6=>wpAny (model prog w) A (dictSet D kv vv) (fun _ s7=>∃m,m<n/\I m s7) Fa s6) Fa s5) Fa s4
      else ∃m,m<n/\I m s4) Fa s3) Fa s2) Fa s1) Fa s)
  (n:Nat) (h:I n s):codeAny (model prog w) A (.compLoop (.DictComp kx vx [⟨tg,iter,ifs,0⟩] scope pos) 0 it (.ref D) env) R s:=by
 refine codeAny_loop rfl I (fun n s hI=>?_) n h;show wpAny _ A ((compTurn (.DictComp kx vx [⟨tg,iter,ifs,0⟩] scope pos) 0 it (.ref D) env).onRaise (fun x=>do noteFrame x env;theTreesLotGoes x)) _ _ s
 refine wpAny_noted ?_;rw[compTurn_dict];refine zA (wpAny_standAt (zA (zZ (turn n s hI) (fun r s1 h1=>?_) fun _ _ z=>z.elim)));cases r with
 | none=>exact zC h1
 | some v=>
  refine zA (zZ h1 (fun _ s2 h2=>zA (zZ h2 (fun _ s3 h3=>zA (zZ h3 (fun ok s4 h4=>?_) fun _ _ z=>z.elim)) fun _ _ z=>z.elim)) fun _ _ z=>z.elim);cases ok with
  | true=>
   rw[if_pos rfl] at h4 ⊢;exact zA (zA (zZ h4 (fun kv s5 h5=>zA (qN (zZ h5 (fun vv s6 h6=>zA (wpAny_standAt (qN (zZ h6 (fun _ s7 h7=>zC ⟨rfl,h7⟩) fun _ _ z=>z.elim)))) fun _ _ z=>z.elim))) fun _ _ z=>z.elim))
  | false=>
   rw[if_neg qD] at h4 ⊢
   first|exact zC ⟨rfl,h4⟩|exact zA (zC (zC ⟨rfl,h4⟩))
end
section
variable {X:Cx}{pins:List (Addr×PySem.Obj)}{σ:L2.St}{H:Hp}{s:Shared}{a b:Addr}{v:V}{r:Value}{A:Around}{E:Value->Shared->Prop}
theorem a5d {kvs:List (List Key×V)}{k:List Key}{Q:Unit->Shared->Prop}(hu:A.units+1<cLine)(I:Inv X pins σ H s)(e:H a=some (.dT kvs))(eb:H b=some (.tup (k.map kV)))(l:kvs.length<sizeLine)(rv:RelV v r)(h:∀s',Inv X pins σ (upd H a (.dT (putK kvs k v))) s'->Q () s'):
  wpAny (model X.prog X.w) A (dictSet a (.ref b) r) Q E s:=by
 obtain⟨z,hd,xs,rel,dd⟩:=a3b I.hok (.inl e);have hz:xs.length<=sizeLine:=by rw[<-xN rel];exact z
 have hl:(putK kvs k v).length<=sizeLine:=by have:=L1 kvs k v;walk_at "o"
 refine a1i (show A.units<cLine from Nat.lt_of_succ_lt hu) (a3i I.hok eb) dd hz fun h' dd' hs=>h _ ?_;obtain⟨q,es,hq,h2,h3,h4,_,h5⟩:=dd';refine a1A I (by rw[e];exact True.intro) hs ⟨q,hq⟩ ⟨hl,hd,_,(rel.put k eb rv).keeps fun c ys ec=>?_,q,es,hq,h2,by rw[xN (rel.put k eb rv)];exact h3,h4,h5⟩
 rw[g9 (a9F ec e (fun z=>nomatch z))];exact ec
end
def putTo (k j:Nat) (p:List W×Ev):Option Ev:=(takeAll p.2 p.1).bind fun q=>(dkeys q.1).bind fun kk=>match q.2[j]? with
 | some (some (.v d))=>match ownAt q.2 k with
  | some (.dT ks zs)=>if ks.length<lim/\q.1.length<=lim then some (setOwn q.2 k (.dT (putKs ks kk) (putX ks zs kk d))) else none
  | _=>none
 | _=>none
def turnCD (k:Nat) (gf:FG) (t:FT) (fa:FA) (j:Nat):D->Ev->Option Ev:=fun x ρ=>(gf x ρ).bind fun ρ1=>(t ρ1).bind fun p=>if p.1=true then(fa p.2).bind (putTo k j) else some p.2
def fDComp (fi:FI) (li:Option (Nat×Nat)) (js:List (Option Nat)) (gf:FG) (t:FT) (fa:FA) (j:Nat):FX:=fun ρ=>(fi ρ).bind fun p=>if liB li p.2=true then
  (loopC (turnCD js.length gf t fa j) p.1 (capE (li.map (·.2)) js p.2++[some (.l (.dT [] []))])).bind fun ρe=>match ownAt ρe js.length with
   | some (.dT kz ys)=>backG li js ρe p.2 (.dT kz ys)
   | _=>none
 else none
section
variable {X:Cx}{pins:List (Addr×PySem.Obj)}{σ:L2.St}{H2:Hp}{s2:Shared}{scope:Scope}{cl:List (Str×Addr)}{N:List Str}{js:List (Option Nat)}{fp:List Addr}{it:Addr}{tn:Nat->Heap->Prop}{J:It}{vx tg iter:Expr}{es:List Expr}{kt:Nat}{kp0:Pos}{fa:FA}{j:Nat}{ifs:List Expr}{pos:Pos}{P:List (D×V)}{O:Av}{L:List (Option Nat×Addr)}{ρ ρe:Ev}{xs:List D}{gf:FG}{t:FT}{Qq:Value->Shared->Prop}{use:Option (Value->Sem Unit)}{li:Option (Nat×Nat)}
theorem a5D (hcalm:X.calm=true)(I2:Inv X pins σ H2 s2)(T:Turn X.prog X.w X.K tg J fp it tn)(st2:tn 0 s2.heap)(f2:∀y∈fp,FpOk X pins H2 y)(b:Blk X scope cl N js)(r:Rep X P O L ρ σ H2)(hl:LiOk li js ρ)(wk:Wks X.K P xs J)
  (hg:∀C,QG (blk X scope cl s2 H2 fp C (N++[accN])) tg gf) (ht:∀C,Tst (blk X scope cl s2 H2 fp C (N++[accN])) ifs t) (hu:X.A.units+1<cLine) (hka:∀C,QA (blk X scope cl s2 H2 fp C (N++[accN])) es fa) (hv:∀C,PE (blk X scope cl s2 H2 fp C (N++[accN])) vx (tVar j))
  (e:loopC (turnCD js.length gf t fa j) xs (capE (li.map (·.2)) js ρ++[some (.l (.dT [] []))])=some ρe)
  (fin:∀(Dd C:Addr) (σe:L2.St) (He:Hp) (s1:Shared),H2 Dd=none->s2.heap.objs.size<=C->Inv (blk X scope cl s2 H2 fp C (N++[accN])) [] σe He s1->Rep (blk X scope cl s2 H2 fp C (N++[accN])) P (fun b=>AvO O ρ σ b/\¬Capd ρ σ js b) ((some js.length,Dd)::lentL li σ) ρe σe He->
   compPost (model X.prog X.w) X.A X.xe use Qq (.ref Dd) C (.ok .next) s1):
  wpAny (model X.prog X.w) X.A newDict (fun acc s3=>wpAny (model X.prog X.w) X.A (newFunctionEnv scope X.env.globals cl [] X.env.qual none .none (some X.env)) (fun cenv s4=>
   codeAny (model X.prog X.w) X.A (.compStart (.DictComp (.Tuple es kt kp0) vx [⟨tg,iter,ifs,0⟩] scope pos) 0 (.ref it) acc {cenv with scope:=relabel scope X.env}) (compPost (model X.prog X.w) X.A X.xe use Qq acc cenv.locals) s4) X.xe s3) X.xe s2:=
 a0O (new:=newDict) (ob0:={cls:=.type "dict",dict:=none,data:=.dict #[]}) (o0:=.dT []) (d0:=.dT [] []) (stp:=fun ρ=>(fa ρ).bind (putTo js.length j)) (el:=fun env a s K=>wpAny (model X.prog X.w) X.A (eval (.Tuple es kt kp0) env) (fun kv s5=>wpAny (model X.prog X.w) X.A (eval vx env) (fun vv s6=>wpAny (model X.prog X.w) X.A (dictSet a kv vv) (fun _ s7=>K s7) Fa s6) Fa s5) Fa s)
  (fun h=>jG h) (fun _ _ _ e=>⟨[],e,rfl,j6⟩) (I2.hok.laid (fun y o e=>zE _ e) (zD _) (a2c s2.heap I2.big)) (fun I t n h=>a3y I t n h) codeAny_compStart_dict
  (fun{C Dd qs σ6 H7 s7 O' L' ρ2 ρt K} hL I7 rp7 e1 back=>by
   obtain⟨⟨ws0,ρ3⟩,e4,e1⟩:=obs e1;simp only[putTo] at e1;obtain⟨⟨ds,ρ4⟩,e5,e1⟩:=obs e1;dsimp only at e1;cases e6:dkeys ds with
   | none=>rw[e6] at e1;cases e1
   | some kk=>
    rw[e6] at e1;simp only[bind_some] at e1;split at e1
    ·rename_i d e7;split at e1
     ·rename_i kz zs e8;split at e1
      ·rename_i hl;cases e1;refine zZ (a3D (hka C).to _ s7 σ6 H7 (fun v H9=>∃p H8,v= .ref p/\Rep (blk X scope cl s2 H2 fp C (N++[accN])) P O' L' ρ4 σ6 H8/\H8 p=none/\H9=upd H8 p (.tup (kk.map kV))) I7 ⟨P,O',L',ρ2,ws0,ρ3,rp7,e4,fun us H8 r8 l8=>?_⟩) (fun u8 s8 ⟨v8,H9,I9,r9,p,H8,ev8,rp8,hp8,eh9⟩=>?_) fun _ _ z=>z
       ·obtain⟨r9,l9,_⟩:=o4 r8 e5 l8;refine⟨?_,fun p hp=>⟨p,H8,rfl,r9,hp,by rw[N6 e6 l9]⟩⟩
        rw[<-b9 l9];exact zQ hl.2 u5
       ·subst ev8 eh9;cases(show u8=Value.ref p from r9);have rp9:=rp8.grow (j7 hp8 (.tup (kk.map kV)));obtain⟨v10,sv,dv⟩:=rp9.slot j _ e7;refine zZ (hv C _ s8 σ6 _ (fun v H10=>v=v10/\H10=upd H8 p (.tup (kk.map kV))) I9 ⟨v10,sv,rfl,rfl⟩) (fun u10 s10 ⟨v11,H10,I10,r10,ev11,eh10⟩=>?_) fun _ _ z=>z;subst ev11 eh10;obtain⟨d0,q1,q2⟩:=rp9.lnd js.length Dd hL;have e8':=e8;unfold ownAt at e8';rw[q1] at e8';cases e8';obtain⟨a,h1,vs,h4,hkl,lz⟩:=rp9.obj q1 rfl;rw[q2] at h1;cases h1;have hlv:kz.length=vs.length:=by rw[hkl,b9 lz]
        have kl:(kz.zip vs).length<sizeLine:=by
         rw[length_zip,hlv,Nat.min_self,<-hlv];exact zJ hl.1 u5
        refine a5d (X:=(blk X scope cl s2 H2 fp C (N++[accN]))) (A:=X.A) hu I10 h4 (k:=kk) (b:=p) m6 kl r10 fun s11 I11=>?_;rw[a15 hlv] at I11;have g0:∀u,Go (AvO O' ρ4 σ6) (AvO O' ρ4 σ6) (fun b=>b=Dd) (upd H8 p (.tup (kk.map kV))) (upd (upd H8 p (.tup (kk.map kV))) Dd u):=fun u=>⟨fun b o eb nb=>by rw[g9 nb];exact eb,fun b z=>by rw[z];exact⟨.inr ⟨js.length,_,_,q1,rfl,q2⟩,_,h4,trivial⟩,fun b z=>.inl z⟩
        exact back I11 (rp9.mut (d:=.dT (putKs kz kk) (putX kz zs kk d)) e8 q2 (fun b o eb nb=>by rw[g9 nb];exact eb) ⟨_,m6,L4 hkl,q9 (g0 _) _ _ (a0B lz dv)⟩)
      ·cases e1
     ·cases e1
    ·cases e1) hcalm I2 T st2 f2 b r hl wk.b hg ht e fin
end
section
variable {X:Cx}{pins:List (Addr×PySem.Obj)}{σ σe:L2.St}{H2 He:Hp}{s2:Shared}{scope:Scope}{cl:List (Str×Addr)}{N:List Str}{js:List (Option Nat)}{fp:List Addr}{Dd C:Addr}{vx tg iter:Expr}{es:List Expr}{kt:Nat}{kp0:Pos}{fa:FA}{j:Nat}{kz:List (List Key)}{ifs:List Expr}{pos:Pos}{P:List (D×V)}{O:Av}{L:List (Option Nat×Addr)}{ρ ρe:Ev}{w:W}{ys:List D}{fi:FI}{gf:FG}{t:FT}{li:Option (Nat×Nat)}
theorem a5h {Q:VK}{Qq:Value->Shared->Prop}{use:Option (Value->Sem Unit)}{H:Hp}{s:Shared}{newPos:Pos}(hc:X.calm=true)(b:Blk X scope cl N js)(hj:liJ li js=true)(hi:QI X tg iter fi)
  (hg:∀s2 H2 fp C,QG (blk X scope cl s2 H2 fp C (N++[accN])) tg gf) (ht:∀s2 H2 fp C,Tst (blk X scope cl s2 H2 fp C (N++[accN])) ifs t) (hu:X.A.units+1<cLine) (hka:∀s2 H2 fp C,QA (blk X scope cl s2 H2 fp C (N++[accN])) es fa) (hv:∀s2 H2 fp C,PE (blk X scope cl s2 H2 fp C (N++[accN])) vx (tVar j)) (hs:∀x,foldedSetIterable iter X.env x=pure x)
  (I:Inv X pins σ H s) (h:tX X (fDComp fi li js gf t fa j) σ H Q)
  (fin:∀(C:Addr) (v:V) (He:Hp) (s1:Shared),Q v He->(∀h9:Heap,(∀y,y≠C->h9.get? y=s1.heap.get? y)->Inv X pins σ He {s1 with heap:=h9})->FpOk X pins He C->(∃m,s1.heap.Ns C m)->∀vv,RelV v vv->compPost (model X.prog X.w) X.A X.xe use Qq vv C (.ok .next) s1):
  wpAny (model X.prog X.w) X.A (comprehension (.DictComp (.Tuple es kt kp0) vx [⟨tg,iter,ifs,0⟩] scope pos) scope X.env newPos newDict false (eval iter X.env) use) Qq X.xe s:=by
 obtain⟨P,O,L,ρ,w,ρ',r,e,q⟩:=h;unfold fDComp at e;obtain⟨⟨xs,ρ1⟩,e1,e⟩:=obs e;dsimp only at e;split at e
 ·rename_i hb;cases e2:loopC (turnCD js.length gf t fa j) xs (capE (li.map (·.2)) js ρ1++[some (.l (.dT [] []))]) with
  | none=>rw[e2] at e;cases e
  | some ρe=>
   rw[e2] at e;simp only[bind_some] at e;split at e
   ·rename_i kz ys ey;have hl:=a88 hj hb;refine wpAny_comprehension_free rfl hs b.clos b.kind b.nms ?_;refine zZ (hi.to pins s σ H _ I ⟨P,O,L,ρ,xs,ρ1,r,e1,fun J H1 P' r1 hh wk=>(⟨P',r1,hh,wk⟩:∃P',Rep X P' O L ρ1 σ H1/\Holds P' P/\Wks X.K P' xs J)⟩) (fun v s1 h1=>zZ h1 (fun itv s2 h2=>?_) fun _ _ z=>z) fun _ _ z=>z;obtain⟨it,fp,tn,J,H2,rfl,I2,T,st2,f2,P',r1,hh,wk⟩:=h2;refine a5D hc I2 T st2 f2 b r1 hl wk (hg s2 H2 fp) (ht s2 H2 fp) hu (hka s2 H2 fp) (hv s2 H2 fp) e2 fun Dd C σe He s3 hn leC I1 rp=>?_;obtain⟨Hx,rx,sx,dx⟩:=a4m r1 hl hn rp ey e;obtain⟨m,hm,_⟩:=id I1.loc;refine fin C (.ref Dd) He s3 (q _ Hx He (rx.holds hh) sx dx) (fun h9 k9=>a24 I2 f2 leC I1 k9) ?_ ⟨m,hm⟩ (.ref Dd) rfl;exact I2.fpOk leC I1.free
   ·cases e
 ·cases e
theorem a74 {k:Nat}(j:Nat){x:Str}{px:Pos}(hr:Room k X.A)(hc:X.calm=true)(b:Blk X scope cl N js)(hi:QI X tg iter fi)(hg:∀s2 H2 fp C,QG (blk X scope cl s2 H2 fp C (N++[accN])) tg gf)(ht:∀s2 H2 fp C,Tst (blk X scope cl s2 H2 fp C (N++[accN])) ifs t)(hka:∀s2 H2 fp C,QA (blk X scope cl s2 H2 fp C (N++[accN])) es fa)
  (hv:∀s2 H2 fp C,PE (blk X scope cl s2 H2 fp C (N++[accN])) (.Name x px) (tVar j)) (hj:liJ li js=true:=by rfl) (hs:∀x,foldedSetIterable iter X.env x=pure x:=by intro _;rfl):QX X (.DictComp (.Tuple es kt kp0) (.Name x px) [⟨tg,iter,ifs,0⟩] scope pos) (fDComp fi li js gf t fa j):=⟨fun pins s σ H Q I h=>by
 rw[arm_eval_DictComp];refine a5h (use:=none) hc b hj hi hg ht (a0o hr) hka hv hs I h fun C v He s1 hq back fp ⟨m,hm⟩ vv rv=>?_
 exact⟨m,hm,fun h9 k9=>⟨v,He,back h9 fun y ny=>k9.2 y ny,rv,hq⟩⟩⟩
end
section
variable {X:Cx}{a b e o:Expr}{es:List Expr}{pos p p2:Pos}{f g h:FX}{t u:FT}{fa:FA}
def oBits:D->Option W
 | .int i=>some (.v (.int (Builtin.Int.intBits i:Nat)))
 | _=>none
def fDPutT (fd:FX) (fk:FA) (fv:FX):FS:=fun ρ=>(fv ρ).bind fun p=>(fd p.2).bind fun q=>match q.1 with
 | .r i=>(fk q.2).bind fun z=>(takeAll z.2 (p.1.fz::z.1)).bind fun y=>match y.1 with
  | d::ds=>(dkeys ds).bind fun k=>match ownAt y.2 i with
   | some (.dT ks xs)=>if ks.length<lim/\ds.length<=lim then some (.nx (setOwn y.2 i (.dT (putKs ks k) (putX ks xs k d)))) else none
   | _=>none
  | _=>none
 | _=>none
theorem a58 {k:Nat}{x1}{p1 p2:Pos}(hr:Room k X.A)(hd:QX X o f)(ha:QA X es fa)(hv:QX X e g)(hs:swapsWith e (some (.Subscript o (.Tuple es x1 p1) p2)) pos.line X.env=pure false:=by rfl):
  QS X (.Assign [.Subscript o (.Tuple es x1 p1) p2] e pos) (fDPutT f fa g):=by
 refine⟨PS.weak (a3W (a0o hr) hd.to (a3D ha.to) hv.to hs) fun E σ H h0=>tSe h0 fun P O L ρ r rp e q=>?_⟩;unfold fDPutT at e;obtain⟨⟨w1,ρ1⟩,e1,e⟩:=obs e;dsimp only at e;obtain⟨⟨w2,ρ2⟩,e2,e⟩:=obs e;dsimp only at e;split at e
 ·rename_i i;obtain⟨⟨ws,ρ3⟩,e3,e⟩:=obs e;dsimp only at e;obtain⟨⟨dl,ρ4⟩,e4,e⟩:=obs e;dsimp only at e;split at e
  ·rename_i d ds;cases e5:dkeys ds with
   | none=>rw[e5] at e;cases e
   | some kk=>
    rw[e5] at e;simp only[bind_some] at e;split at e
    ·rename_i ks xs e6;split at e
     ·rename_i hl;cases e;refine⟨P,O,L,ρ,w1,ρ1,rp,e1,fun v H1 H1' r1 s1 d1=>?_⟩;obtain⟨P',r1',k1⟩:=hold (r1.grow s1) (d1.fz r1 s1);refine⟨P',O,L,ρ1,_,ρ2,r1',e2,fun v2 H2 H2' r2 s2 d2=>?_⟩;have d2:σ[i]? =some (some v2):=d2;refine⟨P',O,L,ρ2,ws,ρ3,r2.grow s2,e3,fun us H3 r3 l3=>?_⟩;obtain⟨r3',d3⟩:=k1 _ H3 r3;obtain⟨r4,l4,_⟩:=o4 (vs:=v::us) r3' e4 ⟨v,us,rfl,d3,l3⟩;rw[DenL] at l4;obtain⟨v',us',ev,hd',ld⟩:=l4;cases ev;have ek:=N6 e5 ld;refine⟨?_,fun p hp=>?_⟩
      ·rw[<-b9 ld];exact zQ hl.2 u5
      ·have sm:=j7 hp (.tup us);have r5:=r4.grow sm;obtain⟨w0,q0,ow⟩:=o9 e6;obtain⟨a,h1,vs,h4,hkl,lz⟩:=r5.obj q0 ow;rw[d2] at h1;cases h1;have hlv:ks.length=vs.length:=by rw[hkl,b9 lz]
       refine⟨a,_,rfl,DPut.t (k:=kk) h4 (by rw[<-ek];exact m6) ?_,?_⟩
       ·rw[length_zip,hlv,Nat.min_self,<-hlv];exact zJ hl.1 u5
       ·rw[a15 hlv];have g0:∀u,Go (AvO O ρ4 σ) (AvO O ρ4 σ) (fun b=>b=a) (upd H3 p (.tup us)) (upd (upd H3 p (.tup us)) a u):=fun u=>⟨fun b o eb nb=>by rw[g9 nb];exact eb,fun b z=>by rw[z];exact⟨.inr ⟨i,w0,_,q0,ow,d2⟩,_,h4,trivial⟩,fun b z=>.inl z⟩
        exact q σ _ (r5.mut (d:=.dT (putKs ks kk) (putX ks xs kk d)) e6 d2 (fun b o eb nb=>by rw[g9 nb];exact eb) ⟨_,m6,L4 hkl,q9 (g0 _) _ _ (a0B lz (S3 sm hd'))⟩)
     ·cases e
    ·cases e
  ·cases e
 ·cases e
def fDPutK (fd fk fv:FX):FS:=fun ρ=>(fv ρ).bind fun p=>(fd p.2).bind fun q=>match q.1 with
 | .r i=>(fk q.2).bind fun z=>(takeAll z.2 [p.1.fz,z.1.fz]).bind fun y=>match y.1 with
  | [d,kd]=>(dkey kd).bind fun k=>match ownAt y.2 i with
   | some (.dK ks xs)=>if ks.length<lim then some (.nx (setOwn y.2 i (.dK (putKs ks k) (putX ks xs k d)))) else none
   | _=>none
  | _=>none
 | _=>none
theorem a7b {k:Nat}{i':Expr}{p2:Pos}(hr:Room k X.A)(hd:QX X o f)(ha:QX X i' h)(hv:QX X e g)(hs:swapsWith e (some (.Subscript o i' p2)) pos.line X.env=pure false:=by rfl):
  QS X (.Assign [.Subscript o i' p2] e pos) (fDPutK f h g):=by
 refine⟨PS.weak (a3W (a0o hr) hd.to ha.to hv.to hs) fun E σ H h0=>tSe h0 fun P O L ρ r rp e q=>?_⟩;unfold fDPutK at e;obtain⟨⟨w1,ρ1⟩,e1,e⟩:=obs e;dsimp only at e;obtain⟨⟨w2,ρ2⟩,e2,e⟩:=obs e;dsimp only at e;split at e
 ·rename_i i;obtain⟨⟨w3,ρ3⟩,e3,e⟩:=obs e;dsimp only at e;obtain⟨⟨dl,ρ4⟩,e4,e⟩:=obs e;dsimp only at e;split at e
  ·rename_i d kd;cases e5:dkey kd with
   | none=>rw[e5] at e;cases e
   | some kk=>
    rw[e5] at e;simp only[bind_some] at e;split at e
    ·rename_i ks xs e6;split at e
     ·rename_i hl;cases e;refine⟨P,O,L,ρ,w1,ρ1,rp,e1,fun v H1 H1' r1 s1 d1=>?_⟩;obtain⟨P',r1',k1⟩:=hold (r1.grow s1) (d1.fz r1 s1);refine⟨P',O,L,ρ1,_,ρ2,r1',e2,fun v2 H2 H2' r2 s2 d2=>?_⟩;have d2:σ[i]? =some (some v2):=d2;refine⟨P',O,L,ρ2,w3,ρ3,r2.grow s2,e3,fun u3 H3 H3' r3 s3 d3=>?_⟩;have d3':=d3.fz r3 s3;obtain⟨r3',dv⟩:=k1 _ H3' (r3.grow s3);obtain⟨r4,l4,_⟩:=o4 (vs:=[v,u3]) r3' e4 ⟨v,[u3],rfl,dv,u3,[],rfl,d3',rfl⟩;obtain⟨v',u',ev,hd',hk'⟩:=denL2 l4;cases ev;have ek:=a0y e5 (D1 hk');subst ek;obtain⟨w0,q0,ow⟩:=o9 e6;obtain⟨a,h1,vs,h4,hkl,lz⟩:=r4.obj q0 ow;rw[d2] at h1;cases h1;have hlv:ks.length=vs.length:=by rw[hkl,b9 lz]
      refine⟨a,_,rfl,DPut.k (k:=kk) h4 ?_,?_⟩
      ·rw[length_zip,hlv,Nat.min_self,<-hlv];exact zJ hl u5
      ·rw[a15 hlv];have g0:∀u,Go (AvO O ρ4 σ) (AvO O ρ4 σ) (fun b=>b=a) H3' (upd H3' a u):=fun u=>⟨fun b o eb nb=>by rw[g9 nb];exact eb,fun b z=>by rw[z];exact⟨.inr ⟨i,w0,_,q0,ow,d2⟩,_,h4,trivial⟩,fun b z=>.inl z⟩
       exact q σ _ (r4.mut (d:=.dK (putKs ks kk) (putX ks xs kk d)) e6 d2 (fun b o eb nb=>by rw[g9 nb];exact eb) ⟨_,m6,L4 hkl,q9 (g0 _) _ _ (a0B lz hd')⟩)
     ·cases e
    ·cases e
  ·cases e
 ·cases e
end
def kd1:Key->D
 | .inl i=>.int i
 | .inr x=>.str x
def keyD (k:List Key):D:=.tup (k.map kd1)
theorem a85 {K:PySem.W.Frag}{A:Av}{H:Hp}(k:Key):Den K A H (kd1 k) (kV k):=by
 cases k with
 | inl i=>exact w9.mpr rfl
 | inr x=>exact a1v.mpr rfl
theorem a2g {K:PySem.W.Frag}{A:Av}{H:Hp}:∀ks:List Key,DenL K A H (ks.map kd1) (ks.map kV)
 | []=>j6
 | k::ks=>by rw[zP,zP];exact j4 (a85 k) (a2g ks)
inductive KeysAt (H:Hp):List (List Key)->List Addr->Prop where
 | nil:KeysAt H [] []
 | cons {k:List Key} {ks:List (List Key)} {b:Addr} {bs:List Addr} (q:H b=some (.tup (k.map kV))) (r:KeysAt H ks bs):KeysAt H (k::ks) (b::bs)
theorem a1b {H:Hp}:∀{kvs:List (List Key×V)} {xs:List (List Key×Addr×Value)},KT H kvs xs->KeysAt H (kvs.map (·.1)) (xs.map (·.2.1))
 | _,_,.nil=>.nil
 | _,_,.cons h t=>.cons h.2.1 (a1b t)
theorem KeysAt.den {K:PySem.W.Frag}{A:Av}{H:Hp}:∀{ks:List (List Key)} {bs:List Addr},KeysAt H ks bs->DenL K A H (ks.map keyD) (bs.map V.ref)
 | _,_,.nil=>j6
 | _,_,.cons q r=>by
  rw[zP,zP];refine j4 ?_ r.den;unfold keyD;rw[Den];exact⟨_,_,rfl,.inl (.inl q),a2g _⟩
section
variable {X:Cx}{a b e e' o:Expr}{es:List Expr}{pos p apos:Pos}{f g h:FX}{u:FT}{fa:FA}{x:Str}
theorem a2N (hc:X.calm=true):CallR X (.type "list") (fun vs H Q=>∃(p:Addr) (kvs:List (List Key×V)),vs=[.ref p]/\H p=some (.dT kvs)/\∀l bs,H l=none->KeysAt H (kvs.map (·.1)) bs->Q (.ref l) (upd H l (.lst (bs.map V.ref)))):=by
 intro pins s σ H vs us Q I r h;obtain⟨p,kvs,rfl,hq,q⟩:=h;obtain⟨u,rfl,ru⟩:=vals1 r;cases ru;obtain⟨z,hs,xs,rel,o,es,h1,h2,h3,h4,h5⟩:=(show ObjOk X.prog X.w H s.heap p (.dT kvs) from I.hok p _ hq);have len:kvs.length=xs.length:=xN rel;have sz:es.size=xs.length:=by rw[<-zK,h4,zB]
 have szl:es.size<=sizeLine:=by rw[sz,<-len];exact z
 refine PySem.W.kdl_call (a34 (es:=es) hs) (I.ok.hd hc) ⟨o,h1,h2,h3⟩ szl fun h' tk acc c' hk hS hacc=>?_;have ea:acc.toList=(xs.map (·.2.1)).map Value.ref:=by
  have e0:(xs.map (·.2.1)).map Value.ref=es.toList.map (·.key):=by rw[h4,qC,qC];rfl
  rw[e0];apply ext_getElem?;intro i;rw[zR,qH,zR]
  by_cases hi:i<es.size
  ·have hi2:i<acc.size:=by rw[hacc.1];exact hi
   obtain⟨e,he,hv⟩:=hacc.2 i acc[i] (by simp[hi2])
   rw[he,Array.getElem?_eq_getElem hi2,hv];rfl
  ·rw[xX (by rw[hacc.1];walk_at "o"),xX (by walk_at "o")];rfl
 refine⟨.ref s.heap.objs.size,_,I.laid (t':=tk) (o:=.lst ((xs.map (·.2.1)).map V.ref)) hk (zD _) ⟨?_,acc.toList,c',?_,by rw[Array.toArray_toList];exact hS⟩,rfl,q _ _ (I.hok.fresh (zD _)) (a1b rel)⟩
 ·rw[zB,zB,<-len];exact z
 ·rw[ea];exact M9 _
def gListD:D->Option W
 | .dT ks _=>some (.o (.lst (ks.map keyD)))
 | d=>gList d
theorem a4b {α:Type}:∀{ks:List α} {vs:List V},ks.length=vs.length->(ks.zip vs).map (·.1)=ks
 | [],_,_=>by simp
 | _::_,[],h=>by simp at h
 | k::ks,v::vs,h=>by rw[jN,zP,a4b (by simpa using h)]
theorem a7o:PrA X (k1 gListD) (fun xs H Q=>(∃p ys,xs=[.ref p]/\(SqL X.K H p ys\/SqT X.K H p ys)/\∀l,H l=none->Q (.ref l) (upd H l (.lst ys)))\/
  ∃(p:Addr) (kvs:List (List Key×V)),xs=[.ref p]/\H p=some (.dT kvs)/\∀l bs,H l=none->KeysAt H (kvs.map (·.1)) bs->Q (.ref l) (upd H l (.lst (bs.map V.ref)))):=fun A ds w vs H Q hA e l q=>by
 match ds,e,l with
 | [d],e,l=>
  have e:gListD d=some w:=e
  by_cases hd:∃ks xs,d= .dT ks xs
  ·obtain⟨ks,xs,rfl⟩:=hd;cases e;obtain⟨v,rfl,h⟩:=denRL1 l;obtain⟨a,us,rfl,hq,hl,lu⟩:=h;refine .inr ⟨a,_,rfl,hq,fun l bs hp hk=>q _ _ (j7 hp _) (A5 hp ?_)⟩;rw[a4b (by rw[hl,b9 lu])] at hk
   exact hk.den
  ·have e':gList d=some w:=by
    cases d<;>first|exact e|exact absurd ⟨_,_,rfl⟩ hd
   exact .inl (a80 A [d] w vs H Q hA e' l q)
theorem a57 (hc:X.calm=true)(hm:X.mg "list"=none)(ha:QA X (e::es) fa)(hv:bootBuiltins "list"=some (.type "list"):=by rfl)(hg:Gl X "list":=by rfl)
  (he:starEach (e::es) X.env=(false,eval e X.env)::starEach es X.env:=by rfl) (hpl:(backTo pos (starEach es X.env)).any (·.1)=false:=by rfl):QX X (.Call (.Name "list" p) (e::es) [] pos) (fCall (k1 gListD) fa):=a2n (a1J.or (a2N hc)) a7o hv hm ha hg (by decide) (by decide) he hpl
theorem b09 {id:String}{m:Str}{r:V->List V->Hp->VK->Prop}{op:List D->List D->Option (W×List D)}(hs0:Slot "list" m id)(ht0:typeOf (.builtin id)=pure (.type "method_descriptor"))(hm:MtR X id r)(hk:PrM X op r)(hw:∀xs ds w ys,op xs ds=some (w,ys)->∃d,w= .v d)
  (ho:QX X o f) (ha:QA X (e::es) fa) (hbase:attributeBase o m X.env (eval o X.env)=eval o X.env)
  (hfew:((backTo pos (starEach (e::es) X.env)).all (fun x=>!x.1)&&(backToKw pos (keywordEach [] X.env)).all (fun x=>x.1.isSome)&&decide ((e::es).length+([]:List Keyword).length+(if([]:List Keyword).isEmpty then 0 else 1)<30))=true)
  (hline:(apos.endLine==pos.line)=true) (hs:starEach (e::es) X.env=(false,eval e X.env)::starEach es X.env) (hpl:(backTo pos (starEach es X.env)).any (·.1)=false):QX X (.Call (.Attribute o m apos) (e::es) [] pos) (fMut op f fa):=
 ⟨PE.weak (a7T PySem.F.plainAttrs_list hs0 ht0 hm ho.to ha.to hbase hfew hline hs hpl) (a0s hk hw)⟩
theorem a5S (T:String)(hT:T="list"\/T="tuple")(l b:Addr)(items items2:Array Value)(n n2:Nat)(dd:Option Addr)(sl:Array (Option Value))(h0:¬(!items.isEmpty&&Builtin.List.listTooLong (items.size+items2.size))=true)(h1:items.size<=sizeLine)(h2:items.size+items2.size<=sizeLine+1):
  Meets (Builtin.«list.extend» ⟨[.ref l,.ref b],[]⟩) (fun _ R s=>s.heap.get? l=some {cls:=.type "list",dict:=none,data:=.seq items n,slots:= #[]}/\s.heap.get? b=some {cls:=.type T,dict:=dd,data:=.seq items2 n2,slots:=sl}/\
   R (.ok (.ret Value.none)) {s with heap:=s.heap.update l (PySem.Obj.mapSeq fun x=>x++items2),toks:=s.toks}):=
 .of_wp fun prog w A R s hh=>by
  obtain⟨hp,g,d,tk,os⟩:=s;obtain⟨hl,hb,hr⟩:=hh;have f1:=PySem.AutoSeq1.idx_int;have f2:=PySem.AutoSeq1.sub_tuple_tuple;have f3:=PySem.AutoSeq1.sub_list_list;have f4:=PySem.AutoSeq1.sub_tuple_list;have f5:=PySem.AutoSeq1.sub_list_tuple;have hz:(items++items2).size<=sizeLine+1:=by rw[Array.size_append];exact h2
  rcases hT with rfl|rfl
  ·wp_walk using(wpAny_updateSeq hl rfl (hz:=h1) (_hz':=hz)),xJ hl,xJ hb
   exact⟨_,rfl,hr⟩
  ·wp_walk using(wpAny_updateSeq hl rfl (hz:=h1) (_hz':=hz)),xJ hl,xJ hb
   exact⟨_,rfl,hr⟩
def rExt (K:PySem.W.Frag):V->List V->Hp->VK->Prop:=fun x vs H Q=>∃l b xs zs,x= .ref l/\vs=[.ref b]/\H l=some (.lst xs)/\(SqL K H b zs\/SqT K H b zs)/\xs.length+zs.length<=sizeLine/\Q .non (upd H l (.lst (xs++zs)))
theorem b0s:MtR X "list.extend" (rExt X.K):=by
 intro pins s σ H x vs v us Q I rx rv ⟨l,b,xs,zs,ex,ev,hH,hB,hz,q⟩;subst ex ev;cases rx;obtain⟨u,rfl,ru⟩:=rv.one;cases ru;obtain⟨z,its,n,r,hl,el⟩:=I.lstM hH;have src:∃(T:String) (its2:List Value) (n2:Nat) (dd:Option Addr) (sl:Array (Option Value)),(T="list"\/T="tuple")/\Vals zs its2/\s.heap.get? b=some {cls:=.type T,dict:=dd,data:=.seq its2.toArray n2,slots:=sl}:=by
  rcases hB with hB|hB
  ·obtain⟨its2,r2,⟨⟨oc,od,oda,osl⟩,n2,ho,hc,_,hd⟩,_⟩:=I.list hB;dsimp only at hc hd;subst hc hd;exact⟨"list",its2,n2,od,osl,.inl rfl,r2,ho⟩
  ·obtain⟨its2,r2,⟨⟨oc,od,oda,osl⟩,ho,hc,n2,hd⟩,_⟩:=I.tuple hB;dsimp only at hc hd;subst hc hd;exact⟨"tuple",its2,n2,od,osl,.inr rfl,r2,ho⟩
 obtain⟨T,its2,n2,od,osl,hT,r2,ho⟩:=src;have hl2:=r2.length;have hsz:its.toArray.size+its2.toArray.size<=sizeLine:=by rw[zT,zT];walk_at "o"
 refine call_meets F.slot_list_extend ⟨_,el,rfl⟩ F.entry_list_extend (F.args_list_extend_2 _ _) (a5S T hT l b its.toArray its2.toArray n n2 od osl (fun w=>?_) (by rw[zT];walk_at "o") (by walk_at "o")) ⟨el,ho,?_⟩
 ·rw[notLongL hsz,Bool.and_false] at w;cases w
 ·exact⟨.non,_,I.lset (its':=its++its2) hH el (by simp) (r.append r2) (by rw[zH];walk_at "o"),rfl,q⟩
def mExt (xs ds:List D):Option (W×List D):=match ds with
 | [d]=>(items d).bind fun ys=>if xs.length+ys.length<=lim then some (.v .non,xs++ys) else none
 | _=>none
theorem b07:PrM X mExt (rExt X.K):=fun A a xs ds w ys us vs H Q h l l' e q _=>by
 unfold mExt at e;split at e
 ·rename_i d;cases e1:items d with
  | none=>rw[e1] at e;cases e
  | some zs=>
   rw[e1] at e;simp only[bind_some] at e;split at e
   ·rename_i hl;cases e;obtain⟨v,rfl,hv⟩:=denL1 l';obtain⟨b,ws,rfl,hq,lz⟩:=D7 e1 (D1 hv);exact⟨a,b,us,ws,rfl,rfl,h,hq,by rw[<-b9 l,<-b9 lz];exact zQ hl u5,q _ _ (v3 l lz) K5⟩
   ·cases e
 ·cases e
theorem b0D:∀xs ds w ys,mExt xs ds=some (w,ys)->∃d,w= .v d:=fun xs ds w ys e=>by
 unfold mExt at e;split at e
 ·rename_i d;cases e1:items d with
  | none=>rw[e1] at e;cases e
  | some zs=>
   rw[e1] at e;simp only[bind_some] at e;split at e
   ·cases e;exact⟨_,rfl⟩
   ·cases e
 ·cases e
theorem a07 (ho:QX X o f)(ha:QA X (e::es) fa)(hbase:attributeBase o "extend" X.env (eval o X.env)=eval o X.env:=by rfl)
  (hfew:((backTo pos (starEach (e::es) X.env)).all (fun x=>!x.1)&&(backToKw pos (keywordEach [] X.env)).all (fun x=>x.1.isSome)&&decide ((e::es).length+([]:List Keyword).length+(if([]:List Keyword).isEmpty then 0 else 1)<30))=true:=by rfl)
  (hline:(apos.endLine==pos.line)=true:=by rfl) (hs:starEach (e::es) X.env=(false,eval e X.env)::starEach es X.env:=by rfl) (hpl:(backTo pos (starEach es X.env)).any (·.1)=false:=by rfl):QX X (.Call (.Attribute o "extend" apos) (e::es) [] pos) (fMut mExt f fa):=
 b09 PySem.F.slot_list_extend PySem.F.type_list_extend b0s b07 b0D ho ha hbase hfew hline hs hpl
end
theorem a8J {X:Cx}(i:Nat){x:Str}{pos:Pos}(hN:X.N[i]? =some x:=by rfl)(hv:Vis X.env.scope x:=by first|exact Or.inl rfl|exact Or.inr (Or.inl rfl)|exact Or.inr (Or.inr rfl))(hd:(x==("__debug__":Str))=false:=by decide)(hcd:(x==("__classdict__":Str))=false:=by decide):PE X (.Name x pos) (tVar i):=a3G hN hv hd hcd
def memK {κ:Type} [DecidableEq κ] (k:κ) (ks:List κ):Bool:=decide (k∈ks)
theorem a5Q {κ:Type} [DecidableEq κ] {ks:List κ}{xs:List D}{k:κ}(h:ks.length=xs.length):(look ks xs k).isSome=memK k ks:=a2O h
section
variable {f g h:FX}{t:FT}{fa:FA}{ρ ρ1:Ev}{w z:W}{ws:List W}{d e x y:D}{ds xs ys:List D}{i j k:Nat}{m n:Int}{b:Bool}{kl:List (List Key)}{kk:List Key}{kq:List Key}{kx:Key}
theorem a77:oIxG (.tup xs) d=oIx (.tup xs) d:=rfl
theorem a7e:oIxG (.lst xs) d=oIx (.lst xs) d:=rfl
theorem b0y (hk:tkey d=some kk)(hl:look kl xs kk=some e):oIxG (.dT kl xs) d=some (.v e):=by
 unfold oIxG;simp only[isDi,jL,lookG,hk,jS,bind_some,hl]
theorem b1k (hk:dkey d=some kx)(hl:kq.length=xs.length):oInG b d (.dK kq xs)=some (nb b (memK kx kq)):=by
 unfold oInG;simp only[isDi,jL,lookG,hk,jS,a5Q hl]
theorem a1t {ns:List Int}(hi:intsOf xs=some ns):oInG b (.int n) (.tup xs)=some (nb b (decide (n∈ns))):=by
 unfold oInG;simp only[isDi,jJ,xF,items,bind_some,hi,jS]
theorem a8v {ns:List Int}(hi:intsOf xs=some ns):oInG b (.int n) (.lst xs)=some (nb b (decide (n∈ns))):=by
 unfold oInG;simp only[isDi,jJ,xF,items,bind_some,hi,jS]
theorem nb_f {k:Bool}:nb false k= .v (.bl k):=rfl
theorem nb_t {k:Bool}:nb true k= .v (.bl (!k)):=rfl
def ge2 (fa:FA):Option (W×Ev)->Option (W×Ev)
 | some p=>fGet (fun _=>some p) fa p.2
 | none=>none
def ge3 (fa:FA) (w:W) (ρ:Ev):Option D->Option (W×Ev)
 | some d=>if isDi d=true then(fa ρ).bind fun q=>(takeAll q.2 q.1).bind fun z=>(dr z.2 w.fz).bind fun x=>match z.1 with
  | [y,e]=>(lookG x y).map fun r=>(.v (r.getD e),z.2)
  | _=>none
  else none
 | none=>none
def ge4 (w:W):Option (List W×Ev)->Option (W×Ev)
 | some q=>(takeAll q.2 q.1).bind fun z=>(dr z.2 w.fz).bind fun x=>match z.1 with
  | [y,e]=>(lookG x y).map fun r=>(.v (r.getD e),z.2)
  | _=>none
 | none=>none
def ge5 (w:W):Option (List D×Ev)->Option (W×Ev)
 | some z=>(dr z.2 w.fz).bind fun x=>match z.1 with
  | [y,e]=>(lookG x y).map fun r=>(.v (r.getD e),z.2)
  | _=>none
 | none=>none
def ge6 (y e:D) (ρ:Ev):Option D->Option (W×Ev)
 | some x=>(lookG x y).map fun r=>(.v (r.getD e),ρ)
 | none=>none
theorem r_ge:fGet f fa ρ=ge2 fa (f ρ):=by unfold ge2;cases e:f ρ with
 | none=>unfold fGet;rw[e];rfl
 | some p=>unfold fGet;rw[e]
theorem a9z:ge2 fa (some (w,ρ))=ge3 fa w ρ (dr ρ w.fz):=by unfold ge2 ge3 fGet;dsimp only[bind_some];cases dr ρ w.fz<;>rfl
theorem a3V:ge3 fa w ρ (some (.dT kl xs))=ge4 w (fa ρ):=by unfold ge3 ge4;simp only[isDi,jL];cases fa ρ<;>rfl
theorem r_ge3_K:ge3 fa w ρ (some (.dK kq xs))=ge4 w (fa ρ):=by unfold ge3 ge4;simp only[isDi,jL];cases fa ρ<;>rfl
theorem a9T:ge4 w (some (ws,ρ))=ge5 w (takeAll ρ ws):=by unfold ge4 ge5;dsimp only;cases takeAll ρ ws<;>rfl
theorem b0l:ge5 w (some ([y,e],ρ))=ge6 y e ρ (dr ρ w.fz):=by unfold ge5 ge6;dsimp only;cases dr ρ w.fz<;>rfl
theorem a8U (hk:tkey y=some kk):ge6 y e ρ (some (.dT kl xs))=some (.v ((look kl xs kk).getD e),ρ):=by unfold ge6;simp only[lookG,hk,jS]
theorem a0A:∀ns:List Int,dkeys (ns.map D.int)=some (ns.map Sum.inl)
 | []=>rfl
 | n::ns=>by rw[zP,dkeys,a0A ns];rfl
theorem a3S (ns:List Int):tkey (tupI ns)=some (ns.map Sum.inl):=a0A ns
def dp2 (fd:FX) (fk:FA):Option (W×Ev)->Option R
 | some p=>fDPutT fd fk (fun _=>some p) p.2
 | none=>none
def dp3 (w:W) (fk:FA):Option (W×Ev)->Option R
 | some q=>match q.1 with
  | .r i=>(fk q.2).bind fun z=>(takeAll z.2 (w.fz::z.1)).bind fun y=>match y.1 with
   | d::ds=>(dkeys ds).bind fun k=>match ownAt y.2 i with
    | some (.dT ks xs)=>if ks.length<lim/\ds.length<=lim then some (.nx (setOwn y.2 i (.dT (putKs ks k) (putX ks xs k d)))) else none
    | _=>none
   | _=>none
  | _=>none
 | none=>none
def dp4 (w:W) (i:Nat):Option (List W×Ev)->Option R
 | some z=>(takeAll z.2 (w.fz::z.1)).bind fun y=>match y.1 with
   | d::ds=>(dkeys ds).bind fun k=>match ownAt y.2 i with
    | some (.dT ks xs)=>if ks.length<lim/\ds.length<=lim then some (.nx (setOwn y.2 i (.dT (putKs ks k) (putX ks xs k d)))) else none
    | _=>none
   | _=>none
 | none=>none
def dp5 (i:Nat):Option (List D×Ev)->Option R
 | some y=>match y.1 with
   | d::ds=>(dkeys ds).bind fun k=>match ownAt y.2 i with
    | some (.dT ks xs)=>if ks.length<lim/\ds.length<=lim then some (.nx (setOwn y.2 i (.dT (putKs ks k) (putX ks xs k d)))) else none
    | _=>none
   | _=>none
 | none=>none
def dp6 (i:Nat) (d:D) (ds:List D) (ρ:Ev):Option (List Key)->Option D->Option R
 | some k,some (.dT ks xs)=>if ks.length<lim/\ds.length<=lim then some (.nx (setOwn ρ i (.dT (putKs ks k) (putX ks xs k d)))) else none
 | _,_=>none
theorem r_dp:fDPutT f fa g ρ=dp2 f fa (g ρ):=by unfold dp2;cases e:g ρ with
 | none=>unfold fDPutT;rw[e];rfl
 | some p=>unfold fDPutT;rw[e]
theorem a9p:dp2 f fa (some (w,ρ))=dp3 w fa (f ρ):=by unfold dp2 dp3 fDPutT;dsimp only[bind_some];cases f ρ<;>rfl
theorem a9S:dp3 w fa (some (.r i,ρ))=dp4 w i (fa ρ):=by unfold dp3 dp4;dsimp only;cases fa ρ<;>rfl
theorem a9I:dp4 w i (some (ws,ρ))=dp5 i (takeAll ρ (w.fz::ws)):=by unfold dp4 dp5;dsimp only;cases takeAll ρ (w.fz::ws)<;>rfl
theorem a9m:dp5 i (some (d::ds,ρ))=dp6 i d ds ρ (dkeys ds) (ownAt ρ i):=by
 unfold dp5 dp6;dsimp only;cases dkeys ds with
 | none=>cases ownAt ρ i<;>rfl
 | some k=>
  dsimp only[bind_some];cases ownAt ρ i with
  | none=>rfl
  | some x=>cases x<;>rfl
theorem b0j:dp6 i d ds ρ (some kk) (some (.dT kl xs))=if kl.length<lim/\ds.length<=lim then some (.nx (setOwn ρ i (.dT (putKs kl kk) (putX kl xs kk d)))) else none:=rfl
theorem b0d:dkeys []=some []:=rfl
theorem a9t:dkeys (.int m::ds)=(dkeys ds).map fun ks=>Sum.inl m::ks:=by rw[dkeys];rfl
theorem a9C:fDNewT ρ=some (.o (.dT [] []),ρ):=rfl
theorem a4H (h:kk∉kl):putKs kl kk=kl++[kk]/\putX kl xs kk d=xs++[d]:=⟨if_neg h,if_neg h⟩
theorem o_bits:oBits (.int n)=some (.v (.int (Builtin.Int.intBits n:Nat))):=by cases n<;>exact rfl
theorem a96:mExt xs [d]=(items d).bind fun ys=>if xs.length+ys.length<=lim then some (.v .non,xs++ys) else none:=rfl
theorem b1Q:gListD (.dT kl xs)=some (.o (.lst (kl.map keyD))):=rfl
theorem a0U:gListD (.lst xs)=some (.o (.lst xs)):=rfl
theorem b1R:gListD (.tup xs)=some (.o (.lst xs)):=rfl
theorem a8T {ks:List (List Int)}(hi:gSortI (.lst xs)=none)(ht:tupsOf xs=some ks)(h64:ks.length<64)(ne:∀k∈ks,k≠[]):gSort (.lst xs)=some (.o (.lst ((sortK ks).map tupI))):=by
 unfold gSort gSortT;rw[hi];simp only[keysOf,ht,bind_some];exact if_pos ⟨h64,ne⟩
theorem a5L {k:List Int}{ks:List (List Int)}:gSortI (.lst ((k::ks).map tupI))=none:=rfl
theorem Y5 {ks:List (List Int)}(h64:ks.length<64)(ne:∀k∈ks,k≠[]):gSort (.lst (ks.map tupI))=some (.o (.lst ((sortK ks).map tupI))):=by
 cases ks with
 | nil=>simp[gSort,gSortI,intsOf,sortI,sortK]
 | cons k ks=>exact a8T a5L (J4 _) h64 ne
theorem a0g {k:Nat}{gf:FG}(I:Ev->Prop)(hI:∀B,I B->B.length=k)(key:D->List Key)(val:D->D):∀(xs:List D),(∀x∈xs,∀B ks zs,I B->ks.length<lim->∃B',I B'/\turnCD k gf t fa j x (B++[some (.l (.dT ks zs))])=some (B'++[some (.l (.dT (putKs ks (key x)) (putX ks zs (key x) (val x))))]))->
  ∀(B:Ev) (ks:List (List Key)) (zs:List D),ks.length=zs.length->ks.length+xs.length<=lim->I B->(ks++xs.map key).Nodup->∃B',I B'/\loopC (turnCD k gf t fa j) xs (B++[some (.l (.dT ks zs))])=some (B'++[some (.l (.dT (ks++xs.map key) (zs++xs.map val)))])
 | [],st,B,ks,zs,hz,hl,i,nd=>⟨B,i,by simp[loopC]⟩
 | x::xs,st,B,ks,zs,hz,hl,i,nd=>by
  rw[qB] at hl;obtain⟨B1,i1,e1⟩:=st x zM B ks zs i (by walk_at "o")
  have nin:key x∉ks:=fun z=>by
   rw[zP] at nd;exact(qW.mp nd).2.2 _ z _ zM rfl
  obtain⟨p1,p2⟩:=a4H (xs:=zs) (d:=val x) nin;rw[p1,p2] at e1;obtain⟨B2,i2,e2⟩:=a0g I hI key val xs (fun y hy=>st y (zL _ hy)) B1 (ks++[key x]) (zs++[val x]) (by simp[hz]) (by rw[zH,length_singleton];walk_at "o") i1 (by rw[qU];exact nd)
  exact⟨B2,i2,by rw[loopC,e1];simp only[bind_some];rw[e2,qU,qU];rfl⟩
theorem a5O {fi:FI}{js:List (Option Nat)}{gf:FG}{ρ ρ1:Ev}(I:Ev->Prop)(key:D->List Key)(val:D->D)(ei:fi ρ=some (xs,ρ1))(hI:∀B,I B->B.length=js.length)(h0:I (capE none js ρ1))(hl:xs.length<=lim)(hf:lfL (xs.map val)=true)(nd:(xs.map key).Nodup)
  (st:∀x∈xs,∀B ks zs,I B->ks.length<lim->∃B',I B'/\turnCD js.length gf t fa j x (B++[some (.l (.dT ks zs))])=some (B'++[some (.l (.dT (putKs ks (key x)) (putX ks zs (key x) (val x))))])):
  fDComp fi none js gf t fa j ρ=some (.o (.dT (xs.map key) (xs.map val)),ρ1):=by
 obtain⟨B',i',e⟩:=a0g I hI key val xs st (capE none js ρ1) [] [] rfl (by rw[yI];walk_at "o") h0 (by simpa using nd)
 unfold fDComp;rw[ei];simp only[bind_some,liB,jL,Option.map_none];rw[e];have ha:ownAt (B'++[some (.l (.dT ([]++xs.map key) ([]++xs.map val)))]) js.length=some (.dT (xs.map key) (xs.map val)):=by
  unfold ownAt;rw[qI (by rw[hI B' i'];exact zD _),hI B' i',jR];rfl
 simp only[bind_some,ha,backG,lfC,hf,jL]
def td2 (k j:Nat) (t:FT) (fa:FA):Option Ev->Option Ev
 | some ρ1=>(t ρ1).bind fun p=>if p.1=true then(fa p.2).bind (putTo k j) else some p.2
 | none=>none
def td3 (k j:Nat) (fa:FA):Option (Bool×Ev)->Option Ev
 | some p=>if p.1=true then(fa p.2).bind (putTo k j) else some p.2
 | none=>none
def td4 (k j:Nat):Option (List W×Ev)->Option Ev
 | some p=>putTo k j p
 | none=>none
def pt2 (k j:Nat):Option (List D×Ev)->Option Ev
 | some q=>(dkeys q.1).bind fun kk=>match q.2[j]? with
  | some (some (.v d))=>match ownAt q.2 k with
   | some (.dT ks zs)=>if ks.length<lim/\q.1.length<=lim then some (setOwn q.2 k (.dT (putKs ks kk) (putX ks zs kk d))) else none
   | _=>none
  | _=>none
 | none=>none
def pt3 (k:Nat) (n:Nat) (ρ:Ev):Option (List Key)->Option (Option W)->Option D->Option Ev
 | some kk,some (some (.v d)),some (.dT ks zs)=>if ks.length<lim/\n<=lim then some (setOwn ρ k (.dT (putKs ks kk) (putX ks zs kk d))) else none
 | _,_,_=>none
theorem r_td {gf:FG}:turnCD k gf t fa j d ρ=td2 k j t fa (gf d ρ):=by unfold turnCD td2;cases gf d ρ<;>rfl
theorem a9g:td2 k j t fa (some ρ)=td3 k j fa (t ρ):=by unfold td2 td3;dsimp only;cases t ρ<;>rfl
theorem a9i:td3 k j fa (some (true,ρ))=td4 k j (fa ρ):=by unfold td3 td4;simp only[jL];cases fa ρ<;>rfl
theorem a9H:td4 k j (some (ws,ρ))=pt2 k j (takeAll ρ ws):=by unfold td4 putTo pt2;dsimp only;cases takeAll ρ ws<;>rfl
theorem a9V:pt2 k j (some (ds,ρ))=pt3 k ds.length ρ (dkeys ds) ρ[j]? (ownAt ρ k):=by
 unfold pt2 pt3;dsimp only;cases dkeys ds with
 | none=>rfl
 | some kk=>
  dsimp only[bind_some];cases ρ[j]? with
  | none=>rfl
  | some o=>
   cases o with
   | none=>rfl
   | some w=>
    cases w with
    | v d=>
     cases ownAt ρ k with
     | none=>rfl
     | some x=>cases x<;>rfl
    | _=>rfl
theorem a9h {n:Nat}:pt3 k n ρ (some kk) (some (some (.v d))) (some (.dT kl xs))=if kl.length<lim/\n<=lim then some (setOwn ρ k (.dT (putKs kl kk) (putX kl xs kk d))) else none:=rfl
end
abbrev Tie:=Int×Int×Int
def tieD (t:Tie):D:=.tup [.int t.1,.int t.2.1,.int t.2.2]
def webD (n:Int) (ts:List Tie):D:=.tup [.int n,.tup (ts.map tieD)]
def tkK (t:Tie):List Key:=[Sum.inl t.1,Sum.inl t.2.1]
def parK (n:Int) (ts:List Tie):List (List Int):=((List.range n.toNat).map fun(i:Nat)=>[(i:Int)])++ts.map fun t=>[t.1,t.2.1]
structure WebOk (n:Int) (ts:List Tie):Prop where
 n1:1<=n/\n<=8
 t:∀t∈ts,0<=t.1/\t.1<t.2.1/\t.2.1<n/\1<=t.2.2/\t.2.2<=10^15
 nd:(ts.map fun t=>(t.1,t.2.1)).Nodup
 len:ts.length<=55
def gainOf:List Tie->List Int->Int
 | [],_=>0
 | t::ts,k=>if[t.1,t.2.1]=k then t.2.2 else gainOf ts k
theorem a44 {a b:List Int}(h:a.map (Sum.inl:Int->Key)=b.map Sum.inl):a=b:=by
 induction a generalizing b with
 | nil=>cases b with|nil=>rfl|cons _ _=>cases h
 | cons x a ih=>cases b with
  | nil=>cases h
  | cons y b=>rw[zP,zP] at h;injection h with h1 h2;injection h1 with h1;rw[h1,ih h2]
theorem a7P (t:Tie):tkK t=[t.1,t.2.1].map Sum.inl:=rfl
theorem a0L:∀(ts:List Tie) (k:List Int),(look (ts.map tkK) (ts.map fun t=>D.int t.2.2) (k.map Sum.inl)).getD (.int 0)= .int (gainOf ts k)
 | [],k=>rfl
 | t::ts,k=>by
  rw[zP,zP,look,gainOf]
  by_cases h:[t.1,t.2.1]=k
  ·rw[if_pos (by rw[a7P,h]),if_pos h];rfl
  ·rw[if_neg (show ¬tkK t=k.map Sum.inl from fun z=>h (a44 z)),if_neg h];exact a0L ts k
theorem O6:∀{ts:List Tie} {k:List Int},k∈(ts.map fun t=>[t.1,t.2.1])->look (ts.map tkK) (ts.map fun t=>D.int t.2.2) (k.map Sum.inl)=some (.int (gainOf ts k))
 | [],k,h=>by cases h
 | t::ts,k,h=>by
  rw[zP,zP,look,gainOf]
  by_cases e:[t.1,t.2.1]=k
  ·rw[if_pos (by rw[a7P,e]),if_pos e]
  ·rw[if_neg (show ¬tkK t=k.map Sum.inl from fun z=>e (a44 z)),if_neg e];rcases zS.mp h with rfl|h
   ·exact absurd rfl e
   ·exact O6 h
theorem O4 (i:Int):∀ts:List Tie,gainOf ts [i]=0
 | []=>rfl
 | t::ts=>by rw[gainOf,if_neg (by simp),O4 i ts]
theorem a7Z {n:Int}{ts:List Tie}(h:WebOk n ts):(parK n ts).length<=63/\∀k∈parK n ts,k≠[]:=by
 unfold parK;refine⟨by rw[zH,zB,zB,yC];have:=h.n1;have:=h.len;walk_at "o",fun k hk=>?_⟩
 rcases qE.mp hk with h|h
 ·obtain⟨i,_,rfl⟩:=zG.mp h;simp
 ·obtain⟨t,_,rfl⟩:=zG.mp h;simp
theorem a7V {n:Int}{ts:List Tie}(h:WebOk n ts):(ts.map tkK).Nodup:=by
 have:=h.nd
 rw[List.Nodup,jD] at this ⊢;refine this.imp fun{a b} hab z=>hab ?_;unfold tkK at z;injection z with z1 z2
 injection z2 with z2 _
 injection z1 with z1
 injection z2 with z2
 rw[z1,z2]
theorem t7 (ts:List Tie):lfL (ts.map tieD)=true:=t9 fun x hx=>by
 obtain⟨t,_,rfl⟩:=zG.mp hx;rfl
theorem X2 (n:Int)(ts:List Tie):lf (webD n ts)=true:=by
 unfold webD;simp only[lf,lfL,t7,Bool.and_self]
theorem a8V (k:List Int):lf (tupI k)=true:=t4 k
theorem B4 (ks:List (List Int)):lfL (ks.map tupI)=true:=t9 fun x hx=>by
 obtain⟨k,_,rfl⟩:=zG.mp hx;exact a8V k
theorem z4 {C:Prop}{b:D->FS}{xs:List D}{ρ:Ev}{r:Option R}(e:loopF b xs ρ=r)(I:Nat->Ev->Prop)(h0:I 0 ρ)(st:∀i x ρ,xs[i]? =some x->I i ρ->∃ρ',b x ρ=some (.nx ρ')/\I (i+1) ρ')(c:∀ρ',r=some (.nx ρ')->I xs.length ρ'->C):C:=by
 have key:∀(ys:List D) (k:Nat) (ρ:Ev),xs.drop k=ys->I k ρ->k<=xs.length->∃ρ',loopF b ys ρ=some (.nx ρ')/\I xs.length ρ':=by
  intro ys
  induction ys with
  | nil=>
   intro k ρ hk h hl
   have:k=xs.length:=by
    have:=List.drop_eq_nil_iff.mp hk;walk_at "o"
   exact⟨ρ,rfl,this▸h⟩
  | cons y ys ih=>
   intro k ρ hk h hl;have hx:xs[k]? =some y:=by
    have:=congrArg (·[0]?) hk
    simpa using this
   have lt:=(zO.mp hx).1;obtain⟨ρ1,e1,i1⟩:=st k y ρ hx h;obtain⟨ρ2,e2,i2⟩:=ih (k+1) ρ1 (by rw[<-drop_drop,hk];rfl) i1 lt
   exact⟨ρ2,by rw[loopF,e1];exact e2,i2⟩
 obtain⟨ρ',e',i⟩:=key xs 0 ρ (by simp) h0 (qL _)
 exact c ρ' (e.symm.trans e') i
theorem R1 {m:Int}{n i:Nat}{x:D}(h:(rngD m n)[i]? =some x):x= .int (m+i)/\i<n:=by
 unfold rngD at h;rw[qH] at h
 by_cases hi:i<n
 ·rw[vD hi] at h;cases h;exact⟨rfl,hi⟩
 ·rw[xB (by simpa using hi)] at h;cases h
def Sm (n:Int):Prop:=0<n/\n.natAbs<2^390
theorem Sm.pos {n:Int}(h:Sm n):0<n:=h.1
def Pot (b:Nat) (d:D):Prop:=∃r c s:Int,d= .lst [.int r,.int c,.int s]/\0<=c/\c<=b/\0<=s/\s<2147483647
theorem Pot.mono {b b':Nat}{d:D}(h:Pot b d)(hb:b<=b'):Pot b' d:=by
 obtain⟨r,c,s,e,h1,h2,h3⟩:=h;exact⟨r,c,s,e,h1,by walk_at "o",h3⟩
theorem Pot.lf {b:Nat}{d:D}(h:Pot b d):lfC d=true:=by obtain⟨r,c,s,rfl,_⟩:=h;rfl
section
variable {ρ:Ev}{i:Nat}{d:D}{xs:List D}
def fn2 (ρ:Ev):Option (Option W)->Option (List D×Ev)
 | some (some (.v d))=>(items d).map fun xs=>(xs,ρ)
 | some (some (.r _))=>none
 | some (some w)=>match w.own with
  | some (.lst xs)=>some (xs,ρ)
  | _=>none
 | _=>none
def fn3 (ρ:Ev):Option (List D)->Option (List D×Ev)
 | some xs=>some (xs,ρ)
 | none=>none
theorem r_fn:fiName i ρ=fn2 ρ ρ[i]?:=by
 unfold fiName fn2;cases ρ[i]? with
 | none=>rfl
 | some o=>cases o with
  | none=>rfl
  | some w=>cases w<;>rfl
theorem a7y:fn2 ρ (some (some (.v d)))=fn3 ρ (items d):=by
 show(items d).map _=_;unfold fn3;cases items d<;>rfl
theorem a55:fn2 ρ (some (some (.o (.lst xs))))=some (xs,ρ):=rfl
theorem r_fn_l:fn2 ρ (some (some (.l (.lst xs))))=some (xs,ρ):=rfl
theorem a9W:fn3 ρ (some xs)=some (xs,ρ):=rfl
end
def key2 (t:Tie):List Int:=[t.1,t.2.1]
theorem a7p {t u:Tie}(h:key2 t=key2 u):t.1=u.1/\t.2.1=u.2.1:=by
 unfold key2 at h;injection h with h1 h2
 injection h2 with h2 _
 exact⟨h1,h2⟩
theorem a8H {ts:List Tie}:(ts.map fun t=>(t.1,t.2.1)).Nodup↔(ts.map key2).Nodup:=by
 rw[List.Nodup,jD,List.Nodup,jD];constructor
 ·exact fun h=>h.imp fun{a b} hab z=>hab (by obtain⟨z1,z2⟩:=a7p z;rw[z1,z2])
 ·exact fun h=>h.imp fun{a b} hab z=>hab (by injection z with z1 z2;unfold key2;rw[z1,z2])
theorem E2:∀{ts:List Tie},(ts.map key2).Nodup->∀{t:Tie},t∈ts->gainOf ts (key2 t)=t.2.2
 | [],_,t,h=>by cases h
 | u::ts,nd,t,h=>by
  rw[zP,nodup_cons] at nd;rw[gainOf];rcases zS.mp h with rfl|h
  ·exact if_pos rfl
  ·rw[if_neg fun z=>nd.1 (by rw[show key2 u=key2 t from z];exact zG.mpr ⟨t,h,rfl⟩)]
   exact E2 nd.2 h
def tieOf (ts:List Tie) (k:List Int):Tie:=(k.getD 0 0,k.getD 1 0,gainOf ts k)
def resort (ts:List Tie):List Tie:=(sortK (ts.map key2)).map (tieOf ts)
theorem Y1 {ts:List Tie}(nd:(ts.map key2).Nodup):(resort ts).Perm ts:=by
 unfold resort;refine((t6 (ts.map key2)).map (tieOf ts)).trans ?_;rw[qC]
 have:ts.map (tieOf ts∘key2)=ts:=by
  conv=>rhs;rw[<-map_id ts]
  apply qS;intro t ht;show(t.1,t.2.1,gainOf ts (key2 t))=t;rw[E2 nd ht]
 rw[this]
theorem WebOk.perm {n:Int}{ts us:List Tie}(h:WebOk n us)(p:ts.Perm us):WebOk n ts where
 n1:=h.n1
 t:=fun t ht=>h.t t (p.mem_iff.mp ht)
 nd:=(p.map _).nodup_iff.mpr h.nd
 len:=by rw[p.length_eq];exact h.len
theorem WebOk.nk {n:Int}{ts:List Tie}(h:WebOk n ts):(ts.map key2).Nodup:=a8H.mp h.nd
structure Bq (m:Nat) (q:Rat):Prop where
 nn:0<=q
 le:q<=((10^12:Int):Rat)
 dn:q.den<2^m
theorem Bq.sz {m:Nat}{q:Rat}(h:Bq m q):Sz (m+41) q:=by
 refine⟨?_,zJ h.dn (jV (by decide) (by walk_at "o"))⟩
 have h1:=Rat.num_nonneg.mpr h.nn;have h2:=(Rat.le_iff _ _).mp h.le;rw[Rat.num_intCast,Rat.den_intCast] at h2;have h3:q.num<=10^12*(q.den:Int):=by
  have:q.num*((1:Nat):Int)=q.num:=by walk_at "o"
  rw[this] at h2;exact h2
 have h4:(q.num.natAbs:Int)<=10^12*(q.den:Int):=by walk_at "o"
 have h5:q.num.natAbs<=10^12*q.den:=by exact_mod_cast h4
 have h6:10^12*q.den<2^41*2^m:=Nat.mul_lt_mul'' (by decide) h.dn
 rw[<-Nat.pow_add,Nat.add_comm] at h6;walk_at "o"
def prs (cs:List (List Int)):Nat->List Int->List (List (List Int))
 | _,[]=>[[]]
 | 0,_::_=>[]
 | f+1,p::P=>cs.flatMap fun c=>if c.head? =some p/\c.getLast? ∈(p::P).map some then(prs cs f ((p::P).filter fun x=>decide (x∉c))).map (c :: ·) else[]
def Pty (c:List Int):Prop:=(∃a,c=[a])\/∃a b,c=[a,b]/\a<b
theorem a0r {cs:List (List Int)}(hs:cs.Pairwise fun a b=>HT.lexLt a b=true):∀(f:Nat) (P:List Int),(prs cs f P).Pairwise fun a b=>lexN a b=true
 | _,[]=>by rw[prs];exact List.pairwise_singleton _ _
 | 0,_::_=>.nil
 | f+1,p::P=>by
  rw[prs,List.pairwise_flatMap];refine⟨fun c _=>?_,?_⟩
  ·split
   ·rw[jD];refine(a0r hs f _).imp fun{a b} h=>?_;rw[lexN,if_pos rfl];exact h
   ·exact .nil
  ·refine hs.imp fun{c d} h x hx y hy=>?_;have cd:c≠d:=fun z=>by rw[z,N9] at h;cases h
   split at hx
   ·split at hy
    ·obtain⟨x',_,rfl⟩:=zG.mp hx;obtain⟨y',_,rfl⟩:=zG.mp hy;rw[lexN,if_neg cd];exact h
    ·cases hy
   ·cases hx
structure Pg (cs:List (List Int)) (P:List Int) (q:List (List Int)):Prop where
 cs:∀c∈q,c∈cs
 fl:q.flatten.Perm P
 so:q.Pairwise fun a b=>HT.lexLt a b=true
theorem Q2 {p:Int}{P c:List Int}(h:p∈c):((p::P).filter fun x=>decide (x∉c)).length<=P.length:=by
 rw[yQ (by simpa using h)]
 exact jT _ _
theorem Z9 {c P:List Int}(nd:P.Nodup)(nc:c.Nodup)(hc:∀x∈c,x∈P):P.Perm (c++P.filter fun x=>decide (x∉c)):=by
 refine(yF nd ?_).mpr fun x=>?_
 ·rw[qW];exact⟨nc,nd.filter _,fun a ha b hb z=>by subst z;have:=(qJ.mp hb).2;simp at this;exact this ha⟩
 ·rw[qE,qJ];constructor
  ·intro h
   by_cases hx:x∈c
   ·exact .inl hx
   ·exact .inr ⟨h,by simpa using hx⟩
  ·rintro(h|h)
   ·exact hc x h
   ·exact h.1
theorem a03 {c:List Int}(h:Pty c):c.Nodup:=by
 rcases h with ⟨a,rfl⟩|⟨a,b,rfl,h⟩
 ·simp
 ·simp;walk_at "o"
theorem a8f {c:List Int}{p:Int}(h:Pty c)(hp:c.head? =some p):∀x∈c,p<=x:=by
 rcases h with ⟨a,rfl⟩|⟨a,b,rfl,h⟩
 ·cases hp;simp
 ·cases hp;simp;walk_at "o"
theorem b1E {c P:List Int}{p:Int}(h:Pty c)(hp:c.head? =some p)(h1:p∈P)(hl:c.getLast? ∈P.map some):∀x∈c,x∈P:=by
 rcases h with ⟨a,rfl⟩|⟨a,b,rfl,h⟩
 ·cases hp;simpa using h1
 ·cases hp;simp at hl;intro x hx;rcases zS.mp hx with rfl|hx
  ·exact h1
  ·rw[zN.mp hx];exact hl
theorem a2Q {c d:List Int}{p q:Int}(hc:c.head? =some p)(hd:d.head? =some q)(h:p<q):HT.lexLt c d=true:=by
 cases c with
 | nil=>cases hc
 | cons x c=>
  cases d with
  | nil=>cases hd
  | cons y d=>
   cases hc;cases hd;rw[HT.lexLt_cons,if_neg (by walk_at "o")]
   exact qO h
theorem G2 {c:List Int}(h:Pty c):∃p,c.head? =some p/\p∈c:=by
 rcases h with ⟨a,rfl⟩|⟨a,b,rfl,h⟩
 ·exact⟨a,rfl,by simp⟩
 ·exact⟨a,rfl,by simp⟩
theorem a6o {cs:List (List Int)}(hp:∀c∈cs,Pty c):∀(f:Nat) (P:List Int),P.length<=f->P.Pairwise (· < ·)->∀q,q∈prs cs f P->Pg cs P q
 | _,[],_,_,q,h=>by
  rw[prs] at h;rw[zN.mp h];exact⟨fun c hc=>(nomatch hc),.refl _,.nil⟩
 | 0,_::_,hl,_,_,_=>by simp at hl
 | f+1,p::P,hl,hs,q,h=>by
  rw[prs,mem_flatMap] at h;obtain⟨c,hc,h⟩:=h;split at h
  ·rename_i hh;obtain⟨r,hr,rfl⟩:=zG.mp h;have pc:=hp c hc;obtain⟨p',e1,e2⟩:=G2 pc;rw[hh.1] at e1;cases e1;have sub:=b1E pc hh.1 (P:=p::P) (by simp) hh.2
   have nd:(p::P).Nodup:=hs.imp fun h=>by walk_at "o"
   have hs2:((p::P).filter fun x=>decide (x∉c)).Pairwise (· < ·):=hs.filter _;have ih:=a6o hp f _ (by have:=Q2 (P:=P) e2;rw[qB] at hl;walk_at "o") hs2 r hr
   refine⟨fun d hd=>?_,?_,xP.mpr ⟨fun d hd=>?_,ih.so⟩⟩
   ·rcases zS.mp hd with rfl|hd
    ·exact hc
    ·exact ih.cs d hd
   ·rw[vE];exact(vB c ih.fl).trans (Z9 nd (a03 pc) sub).symm
   ·obtain⟨x,e3,e4⟩:=G2 (hp d (ih.cs d hd));refine a2Q hh.1 e3 ?_;have xm:x∈(p::P).filter fun x=>decide (x∉c):=ih.fl.mem_iff.mp (xY.mpr ⟨d,hd,e4⟩);obtain⟨y1,y2⟩:=qJ.mp xm;rcases zS.mp y1 with rfl|y1
    ·simp at y2;exact absurd e2 y2
    ·exact(xP.mp hs).1 x y1
  ·cases h
theorem a6P {cs:List (List Int)}(hp:∀c∈cs,Pty c):∀(f:Nat) (P:List Int),P.length<=f->P.Pairwise (· < ·)->∀q,Pg cs P q->q∈prs cs f P
 | _,[],_,_,q,h=>by
  rw[prs];cases q with
  | nil=>simp
  | cons c q=>
   obtain⟨x,_,e⟩:=G2 (hp c (h.cs c (by simp)))
   have:=h.fl.mem_iff.mp (xY.mpr ⟨c,by simp,e⟩)
   cases this
 | 0,_::_,hl,_,_,_=>by simp at hl
 | f+1,p::P,hl,hs,q,h=>by
  have nd:(p::P).Nodup:=hs.imp fun h=>by walk_at "o"
  cases q with
  | nil=>have:=h.fl.length_eq;simp at this
  | cons c q=>
   have pc:=hp c (h.cs c (by simp))
   obtain⟨x,e1,e2⟩:=G2 pc;have hx:x∈p::P:=h.fl.mem_iff.mp (xY.mpr ⟨c,by simp,e2⟩)
   have so:=xP.mp h.so;have xp:x=p:=by
    obtain⟨d,hd,pd⟩:=xY.mp (h.fl.mem_iff.mpr (show p∈p::P by simp))
    have pdt:=hp d (h.cs d hd);obtain⟨y,e3,e4⟩:=G2 pdt;have hy:y∈p::P:=h.fl.mem_iff.mp (xY.mpr ⟨d,hd,e4⟩);have y1:=a8f pdt e3 p pd;have y2:p<=y:=by
     rcases zS.mp hy with z|z
     ·walk_at "o"
     ·exact Int.le_of_lt ((xP.mp hs).1 y z)
    have yp:y=p:=by walk_at "o"
    subst yp;rcases zS.mp hd with z|z
    ·subst z;rw[e1] at e3;cases e3;rfl
    ·have l:=so.1 d z;rcases Int.lt_trichotomy x y with w|w|w
     ·rcases zS.mp hx with z2|z2
      ·exact z2
      ·have:=(xP.mp hs).1 x z2;walk_at "o"
     ·exact w
     ·have:=a2Q e3 e1 w
      rw[a0x l] at this;cases this
   subst xp;have ndf:(c::q).flatten.Nodup:=h.fl.nodup_iff.mpr nd;rw[vE,qW] at ndf;have sub:∀z∈c,z∈x::P:=fun z hz=>h.fl.mem_iff.mp (xY.mpr ⟨c,by simp,hz⟩)
   have fl2:q.flatten.Perm ((x::P).filter fun y=>decide (y∉c)):=by
    have:=h.fl.trans (Z9 nd (a03 pc) sub)
    rw[vE] at this;exact(List.perm_append_left_iff c).mp this
   have hs2:((x::P).filter fun y=>decide (y∉c)).Pairwise (· < ·):=hs.filter _;have ih:=a6P hp f _ (by have:=Q2 (P:=P) e2;rw[qB] at hl;walk_at "o") hs2 q ⟨fun d hd=>h.cs d (zL _ hd),fl2,so.2⟩
   rw[prs,mem_flatMap];refine⟨c,h.cs c (by simp),?_⟩
   have gl:c.getLast? ∈(x::P).map some:=by
    rcases pc with ⟨a,rfl⟩|⟨a,b,rfl,_⟩
    ·simpa using sub a (by simp)
    ·simpa using sub b (by simp)
   rw[if_pos ⟨e1,gl⟩];exact zG.mpr ⟨q,ih,rfl⟩
def mtS (found:List (List Tie×List Int)) (t:Tie):List (List Tie×List Int):=
 found++(found.filter fun x=>decide (t.1∉x.2)&&decide (t.2.1∉x.2)).map fun x=>(x.1++[t],x.2++[t.1,t.2.1])
def mtF (ts:List Tie):List (List Tie×List Int):=ts.foldl mtS [([],[])]
theorem S4 (ts:List Tie)(t:Tie):mtF (ts++[t])=mtS (mtF ts) t:=by unfold mtF;rw[List.foldl_append];rfl
abbrev hld (m:List Tie):List Int:=(m.map key2).flatten
theorem M2 (m:List Tie)(t:Tie):hld (m++[t])=hld m++[t.1,t.2.1]:=by
 unfold hld;rw[qF,List.flatten_append];simp[key2]
theorem a0F {α:Type}{C:List α->Prop}(h0:C [])(h1:∀l a,C l->C (l++[a])):∀l,C l:=fun l=>by
 have:∀l:List α,C l.reverse:=fun l=>by
  induction l with
  | nil=>exact h0
  | cons a l ih=>rw[List.reverse_cons];exact h1 _ _ ih
 have:=this l.reverse
 rwa [List.reverse_reverse] at this
theorem a0t:∀{ts:List Tie},(∀t∈ts,t.1<t.2.1)->∀x∈mtF ts,x.2=hld x.1/\x.1.Sublist ts/\x.2.Nodup:=fun{ts}=>by
 induction ts using a0F with
 | h0=>intro _ x hx;have:x=([],[]):=(by simpa [mtF] using hx);subst this;exact⟨rfl,.refl _,.nil⟩
 | h1 ts t ih=>
  intro ht x hx;have ih:=ih fun u hu=>ht u (xG _ hu);rw[S4] at hx;rcases qE.mp hx with z|z
  ·obtain⟨a,b,c⟩:=ih x z;exact⟨a,b.trans (List.sublist_append_left _ _),c⟩
  ·obtain⟨y,hy,rfl⟩:=zG.mp z;obtain⟨y1,y2⟩:=qJ.mp hy;obtain⟨a,b,c⟩:=ih y y1;simp only[qR,yG] at y2;refine⟨by rw[M2,<-a],List.Sublist.append b (.refl _),?_⟩
   have tt:=ht t (by simp)
   show(y.2++[t.1,t.2.1]).Nodup;rw[qW];refine⟨c,by simp;walk_at "o",fun u hu v hv z=>?_⟩
   subst z;rcases zS.mp hv with z|z
   ·exact y2.1 (z▸hu)
   ·exact y2.2 ((zN.mp z)▸hu)
theorem a3u:∀{ts:List Tie} {m:List Tie},m.Sublist ts->(hld m).Nodup->(m,hld m)∈mtF ts:=fun{ts}=>by
 induction ts using a0F with
 | h0=>intro m hm _;rw[sublist_nil.mp hm];exact zN.mpr rfl
 | h1 ts t ih=>
  intro m hm nd;rw[S4];obtain⟨m1,m2,rfl,h1,h2⟩:=List.sublist_append_iff.mp hm;rcases List.sublist_cons_iff.mp h2 with z|⟨r,rfl,z⟩
  ·rw[sublist_nil.mp z,jZ] at nd ⊢;exact xG _ (ih h1 nd)
  ·rw[sublist_nil.mp z] at nd ⊢;rw[M2,qW] at nd;refine qQ _ (zG.mpr ⟨(m1,hld m1),qJ.mpr ⟨ih h1 nd.1,?_⟩,by rw[M2]⟩)
   simp only[qR,yG];exact⟨fun z=>nd.2.2 _ z _ (by simp) rfl,fun z=>nd.2.2 _ z _ (by simp) rfl⟩
theorem mt_nd:∀{ts:List Tie},ts.Nodup->(∀t∈ts,t.1<t.2.1)->((mtF ts).map (·.1)).Nodup:=fun{ts}=>by
 induction ts using a0F with
 | h0=>intro _ _;simp[mtF]
 | h1 ts t ih=>
  intro nd ht;rw[qW] at nd;have ok:=a0t (ts:=ts) fun u hu=>ht u (xG _ hu);have ih:=ih nd.1 fun u hu=>ht u (xG _ hu);rw[S4];unfold mtS;rw[qF,qC,qW];refine⟨ih,?_,fun a ha b hb z=>?_⟩
  ·have s:=ih.sublist (List.Sublist.map (·.1) (filter_sublist (p:=fun x:List Tie×List Int=>decide (t.1∉x.2)&&decide (t.2.1∉x.2)) (l:=mtF ts)));generalize (mtF ts).filter _=F at s;have e:F.map ((fun x:List Tie×List Int=>x.1)∘fun x=>(x.1++[t],x.2++[t.1,t.2.1]))=(F.map (·.1)).map (· ++ [t]):=by rw[qC];rfl
   rw[e];refine List.Pairwise.map _ (fun a b h z=>h ?_) s;exact List.append_cancel_right z
  ·subst z;obtain⟨x,hx,rfl⟩:=zG.mp ha;obtain⟨y,_,e⟩:=zG.mp hb;have e:y.1++[t]=x.1:=e
   have:t∈ts:=(ok x hx).2.1.subset (by rw[<-e];simp)
   exact nd.2.2 t this t (by simp) rfl
def upI (n:Int):List Int:=(List.range n.toNat).map fun(i:Nat)=>(i:Int)
theorem V9 (n:Int):(upI n).Pairwise (· < ·):=by
 unfold upI;rw[jD];exact List.pairwise_lt_range.imp fun h=>by walk_at "o"
theorem a4Q {n x:Int}:x∈upI n↔0<=x/\x<n:=by
 unfold upI;simp only[zG,xO];constructor
 ·rintro⟨i,hi,rfl⟩;walk_at "o"
 ·rintro⟨h1,h2⟩;exact⟨x.toNat,by walk_at "o",by walk_at "o"⟩
def sgl (n:Int) (m:List Tie):List (List Int):=((upI n).filter fun x=>decide (x∉hld m)).map fun x=>[x]
def pof (n:Int) (m:List Tie):List (List Int):=sortK (m.map key2++sgl n m)
theorem E5 (n:Int)(m:List Tie):(pof n m).Perm (m.map key2++sgl n m):=t6 _
theorem P7 {α:Type} [DecidableEq α]:∀{m ts:List α},m.Sublist ts->ts.Nodup->ts.filter (fun t=>decide (t∈m))=m
 | _,_,.slnil,_=>rfl
 | m,a::ts,.cons _ h,nd=>by
  obtain⟨n1,n2⟩:=nodup_cons.mp nd;rw[yQ (by simpa using fun z=>n1 (h.subset z))]
  exact P7 h n2
 | a::m,_::ts,.cons₂ _ h,nd=>by
  obtain⟨n1,n2⟩:=nodup_cons.mp nd;rw[yP (by simp)]
  congr 1;have e:ts.filter (fun t=>decide (t∈a::m))=ts.filter fun t=>decide (t∈m):=filter_congr fun x hx=>by
   have:x≠a:=fun z=>n1 (z▸hx)
   simp[this]
  rw[e];exact P7 h n2
theorem a5t {ts:List Tie}(nd:(ts.map key2).Nodup):∀{t u:Tie},t∈ts->u∈ts->key2 t=key2 u->t=u:=fun{t u} ht hu e=>by
 have a:=E2 nd ht;have b:=E2 nd hu;rw[e,b] at a;unfold key2 at e;obtain⟨t1,t2,t3⟩:=t;obtain⟨u1,u2,u3⟩:=u;simp at e a ⊢;exact⟨e.1,e.2,a.symm⟩
theorem Z0 {n:Int}{m:List Tie}:∀k∈sgl n m,k.length=1:=fun k hk=>by
 obtain⟨x,_,rfl⟩:=zG.mp hk;rfl
theorem a8X {n:Int}{m:List Tie}{t:Tie}:key2 t∈pof n m↔key2 t∈m.map key2:=by
 rw[(E5 n m).mem_iff,qE];exact⟨fun h=>h.elim id fun z=>by have:=Z0 _ z;simp[key2] at this,.inl⟩
section
variable {n:Int}{ts:List Tie}
theorem a4y (nd:(ts.map key2).Nodup):ts.Nodup:=by
 rw[qX,jD] at nd;exact nd.imp fun{a b} h z=>h (by rw[z])
theorem a2l (nd:(ts.map key2).Nodup){m:List Tie}(hm:m.Sublist ts):ts.filter (fun t=>decide (key2 t∈pof n m))=m:=by
 conv=>rhs;rw[<-P7 hm (a4y nd)]
 refine filter_congr fun t ht=>decide_eq_decide.mpr ?_;rw[a8X];constructor
 ·intro h;obtain⟨u,hu,e⟩:=zG.mp h;rw[<-a5t nd (hm.subset hu) ht e];exact hu
 ·exact fun h=>List.mem_map_of_mem h
theorem a1a {ks:List (List Int)}(nd:ks.Nodup):(sortK ks).Pairwise fun a b=>HT.lexLt a b=true:=by
 have h1:=J3 ks;have h2:(sortK ks).Nodup:=(t6 ks).nodup_iff.mpr nd;rw[qX] at h2;refine(h1.and h2).imp fun{a b} ⟨x,y⟩=>?_;rcases a6s y with z|z
 ·exact z
 ·rw[x] at z;cases z
theorem a7U (l:List Int):(l.map fun x=>[x]).flatten=l:=by
 induction l with
 | nil=>rfl
 | cons a l ih=>rw[zP,vE,ih];rfl
theorem a7t (nd:(ts.map key2).Nodup)(ht:∀t∈ts,0<=t.1/\t.1<t.2.1/\t.2.1<n){m:List Tie}(hm:m.Sublist ts)(hn:(hld m).Nodup):(pof n m).flatten.Perm (upI n):=by
 refine(List.Perm.flatten (E5 n m)).trans ?_;rw[List.flatten_append];unfold sgl;rw[a7U];have un:(upI n).Nodup:=(V9 n).imp fun h=>by walk_at "o"
 refine(Z9 un hn fun x hx=>?_).symm;obtain⟨k,hk,hxk⟩:=xY.mp hx;obtain⟨t,h1,rfl⟩:=zG.mp hk
 have:=ht t (hm.subset h1)
 rw[a4Q];unfold key2 at hxk;rcases zS.mp hxk with rfl|z
 ·walk_at "o"
 ·rw[zN.mp z];walk_at "o"
theorem b1g (nd:(ts.map key2).Nodup)(ht:∀t∈ts,0<=t.1/\t.1<t.2.1/\t.2.1<n){cs:List (List Int)}(hc:∀k,k∈cs↔k∈parK n ts){m:List Tie}(hm:m.Sublist ts)(hn:(hld m).Nodup):Pg cs (upI n) (pof n m) where
 cs:=fun k hk=>by
  rw[hc];unfold parK;rcases qE.mp ((E5 n m).mem_iff.mp hk) with z|z
  ·obtain⟨t,h1,rfl⟩:=zG.mp z;exact qQ _ (zG.mpr ⟨t,hm.subset h1,rfl⟩)
  ·obtain⟨x,h1,rfl⟩:=zG.mp z;have h2:=a4Q.mp (qJ.mp h1).1;exact xG _ (zG.mpr ⟨x.toNat,xO.mpr (by walk_at "o"),by rw[Int.toNat_of_nonneg h2.1]⟩)
 fl:=a7t nd ht hm hn
 so:=by
  refine a1a ?_;rw[qW];refine⟨nd.sublist (hm.map key2),?_,fun a ha b hb z=>?_⟩
  ·unfold sgl;rw[qX,jD];exact(((V9 n).filter _).imp fun h z=>by simp at z;walk_at "o")
  ·subst z;obtain⟨t,_,rfl⟩:=zG.mp ha
   have:=Z0 _ hb
   simp[key2] at this
theorem L6 (p:List Int->Bool):∀q:List (List Int),((q.filter p).flatten).Sublist q.flatten
 | []=>.refl _
 | k::q=>by
  rw[yK]
  split
  ·rw[vE,vE];exact List.Sublist.append (.refl _) (L6 p q)
  ·rw[vE];exact(L6 p q).trans (List.sublist_append_right _ _)
theorem b0V (nd:(ts.map key2).Nodup)(ht:∀t∈ts,0<=t.1/\t.1<t.2.1/\t.2.1<n){cs:List (List Int)}(hc:∀k,k∈cs↔k∈parK n ts){q:List (List Int)}(h:Pg cs (upI n) q):∃m:List Tie,m.Sublist ts/\(hld m).Nodup/\pof n m=q:=by
 have un:(upI n).Nodup:=(V9 n).imp fun h=>by walk_at "o"
 have fn:q.flatten.Nodup:=h.fl.nodup_iff.mpr un;have qn:q.Nodup:=by
  rw[qX];exact h.so.imp fun{a b} z e=>by subst e;rw[N9] at z;cases z
 refine⟨ts.filter fun t=>decide (key2 t∈q),filter_sublist,?_,?_⟩
 all_goals
  generalize hm:ts.filter (fun t=>decide (key2 t∈q))=m;have ms:m.Sublist ts:=by rw[<-hm];exact filter_sublist
  have mk:∀k,k∈m.map key2↔k∈q/\k.length=2:=fun k=>by
   constructor
   ·intro hk;obtain⟨t,h1,rfl⟩:=zG.mp hk;rw[<-hm] at h1;exact⟨by simpa using(qJ.mp h1).2,rfl⟩
   ·rintro⟨hk,hl⟩
    have:=(hc k).mp (h.cs k hk)
    unfold parK at this;rcases qE.mp this with z|z
    ·obtain⟨i,_,rfl⟩:=zG.mp z;simp at hl
    ·obtain⟨t,h1,rfl⟩:=zG.mp z;refine zG.mpr ⟨t,?_,rfl⟩;rw[<-hm];exact qJ.mpr ⟨h1,qO hk⟩
  have mn:(m.map key2).Nodup:=nd.sublist (ms.map key2);have mp:(m.map key2).Perm (q.filter fun k=>k.length==2):=(yF mn (qn.filter _)).mpr fun k=>by
   rw[mk,qJ];simp
  have hn:(hld m).Nodup:=by
   refine(List.Perm.flatten mp).nodup_iff.mpr ?_;exact fn.sublist (L6 _ q)
 ·exact hn
 ·refine V0 ((E5 n m).trans ?_) (J3 _) (h.so.imp fun z=>a0x z);have sn:(sgl n m).Nodup:=by
   unfold sgl;rw[qX,jD];exact(((V9 n).filter _).imp fun h z=>by simp at z;walk_at "o")
  refine(yF ?_ qn).mpr fun k=>?_
  ·rw[qW];refine⟨mn,sn,fun a ha b hb z=>?_⟩;subst z;have a1:=((mk a).mp ha).2;have a2:=Z0 _ hb;walk_at "o"
  ·rw[qE,mk];have one:∀x:Int,x∈hld m↔∃k∈q,k.length=2/\x∈k:=fun x=>by
    rw[xY];constructor
    ·rintro⟨k,hk,hx⟩;exact⟨k,((mk k).mp hk).1,((mk k).mp hk).2,hx⟩
    ·rintro⟨k,hk,hl,hx⟩;exact⟨k,(mk k).mpr ⟨hk,hl⟩,hx⟩
   have form:∀k∈q,k.length=2\/∃x,k=[x]:=fun k hk=>by
    have:=(hc k).mp (h.cs k hk)
    unfold parK at this;rcases qE.mp this with z|z
    ·obtain⟨i,_,rfl⟩:=zG.mp z;exact .inr ⟨_,rfl⟩
    ·obtain⟨t,_,rfl⟩:=zG.mp z;exact .inl rfl
   have dis:∀{k l:List Int} {x:Int},k∈q->l∈q->x∈k->x∈l->k=l:=fun{k l x} hk hl xk xl=>by
    have pf:=yH.mp (List.pairwise_flatten.mp fn).2;obtain⟨i,hi,rfl⟩:=List.mem_iff_getElem.mp hk;obtain⟨j,hj,rfl⟩:=List.mem_iff_getElem.mp hl;rcases Nat.lt_trichotomy i j with w|w|w
    ·exact absurd rfl (pf i j hi hj w x xk x xl)
    ·subst w;rfl
    ·exact absurd rfl (pf j i hj hi w x xl x xk)
   constructor
   ·rintro(z|z)
    ·exact z.1
    ·obtain⟨x,hx,rfl⟩:=zG.mp z;obtain⟨x1,x2⟩:=qJ.mp hx;obtain⟨l,hl,xl⟩:=xY.mp (h.fl.mem_iff.mpr x1);rcases form l hl with z|⟨y,rfl⟩
     ·have:=(one x).mpr ⟨l,hl,z,xl⟩
      exact absurd this (xK x2)
     ·rw[zN.mp xl];exact hl
   ·intro hk;rcases form k hk with z|⟨x,rfl⟩
    ·exact .inl ⟨hk,z⟩
    ·refine .inr (zG.mpr ⟨x,qJ.mpr ⟨h.fl.mem_iff.mp (xY.mpr ⟨[x],hk,by simp⟩),?_⟩,rfl⟩)
     simp only[yG];intro z;obtain⟨l,hl,l2,xl⟩:=(one x).mp z
     have:=dis hk hl (by simp) xl
     subst this;simp at l2
end
def rowsM (ts:List Tie):List (List Tie):=(mtF ts).map (·.1)
def prsP (n:Int) (ts:List Tie):List (List (List Int)):=prs (sortK (parK n ts)) n.toNat (upI n)
def wthP (ts:List Tie) (q:List (List Int)):Int:=(q.map (gainOf ts)).sum
def sumM (m:List Tie):Int:=(m.map fun t=>t.2.2).sum
section
variable {n:Int}{ts:List Tie}
theorem a1K (ht:∀t∈ts,0<=t.1/\t.1<t.2.1/\t.2.1<n):∀c∈sortK (parK n ts),Pty c:=fun c hc=>by
 have:=(t6 _).mem_iff.mp hc
 unfold parK at this;rcases qE.mp this with z|z
 ·obtain⟨i,_,rfl⟩:=zG.mp z;exact .inl ⟨_,rfl⟩
 ·obtain⟨t,h1,rfl⟩:=zG.mp z;exact .inr ⟨_,_,rfl,(ht t h1).2.1⟩
theorem D6 (n:Int):(upI n).length=n.toNat:=by unfold upI;rw[zB,yC]
theorem b0I (nd:(ts.map key2).Nodup):(parK n ts).Nodup:=by
 unfold parK;rw[qW];refine⟨?_,nd,fun a ha b hb z=>?_⟩
 ·rw[qX,jD];exact List.pairwise_lt_range.imp fun h z=>by simp at z;walk_at "o"
 ·subst z;obtain⟨i,_,rfl⟩:=zG.mp ha;obtain⟨t,_,e⟩:=zG.mp hb;simp at e
theorem a3T (nd:(ts.map key2).Nodup):(prsP n ts).Pairwise fun a b=>lexN a b=true:=a0r (a1a (b0I nd)) _ _
theorem a81 (nd:(ts.map key2).Nodup):(prsP n ts).Nodup:=by
 rw[qX];exact(a3T nd).imp fun{a b} h z=>by subst z;rw[a3R] at h;cases h
theorem U7 (nd:(ts.map key2).Nodup)(ht:∀t∈ts,0<=t.1/\t.1<t.2.1/\t.2.1<n):((rowsM ts).map (pof n)).Perm (prsP n ts):=by
 have hlt:∀t∈ts,t.1<t.2.1:=fun t h=>(ht t h).2.1;have rn:=mt_nd (a4y nd) hlt;have ok:∀m∈rowsM ts,m.Sublist ts/\(hld m).Nodup:=fun m hm=>by
  obtain⟨x,hx,rfl⟩:=zG.mp hm;obtain⟨a,b,c⟩:=a0t hlt x hx;exact⟨b,a▸c⟩
 have hc:∀k,k∈sortK (parK n ts)↔k∈parK n ts:=fun k=>(t6 _).mem_iff;have pt:=a1K (n:=n) ht;refine(yF ?_ (a81 nd)).mpr fun q=>?_
 ·rw[qX,jD];rw[qX] at rn;refine List.Pairwise.imp_of_mem (fun{a b} ha hb h z=>h ?_) rn;rw[<-a2l nd (ok a ha).1,z,a2l nd (ok b hb).1]
 ·constructor
  ·intro h;obtain⟨m,hm,rfl⟩:=zG.mp h;exact a6P pt _ _ (Nat.le_of_eq (D6 n)) (V9 n) _ (b1g nd ht hc (ok m hm).1 (ok m hm).2)
  ·intro h;obtain⟨m,h1,h2,rfl⟩:=b0V nd ht hc (a6o pt _ _ (Nat.le_of_eq (D6 n)) (V9 n) q h);exact List.mem_map_of_mem (zG.mpr ⟨_,a3u h1 h2,rfl⟩)
theorem a6L {a b:List Int}(h:a.Perm b):a.sum=b.sum:=by
 induction h with
 | nil=>rfl
 | cons x _ ih=>rw[sum_cons,sum_cons,ih]
 | swap x y l=>rw[sum_cons,sum_cons,sum_cons,sum_cons];walk_at "o"
 | trans _ _ i1 i2=>rw[i1,i2]
theorem a5c (nd:(ts.map key2).Nodup){m:List Tie}(hm:m.Sublist ts):wthP ts (pof n m)=sumM m:=by
 unfold wthP sumM;rw[a6L ((E5 n m).map (gainOf ts)),qF,List.sum_append,qC];have e1:m.map (gainOf ts∘key2)=m.map fun t=>t.2.2:=qS fun t ht=>E2 nd (hm.subset ht);have e2:((sgl n m).map (gainOf ts)).sum=0:=by
  have:∀l:List Int,((l.map fun x=>[x]).map (gainOf ts)).sum=0:=fun l=>by
   induction l with
   | nil=>rfl
   | cons a l ih=>rw[zP,zP,sum_cons,ih,O4];rfl
  exact this _
 rw[e1,e2,Int.add_zero]
theorem a8N (nd:(ts.map key2).Nodup)(ht:∀t∈ts,0<=t.1/\t.1<t.2.1/\t.2.1<n)(M:Int):sortN (((rowsM ts).filter fun m=>decide (sumM m=M)).map (pof n))=(prsP n ts).filter fun q=>decide (wthP ts q=M):=by
 have hlt:∀t∈ts,t.1<t.2.1:=fun t h=>(ht t h).2.1;have e:((rowsM ts).filter fun m=>decide (sumM m=M)).map (pof n)=((rowsM ts).map (pof n)).filter fun q=>decide (wthP ts q=M):=by
  rw[filter_map];congr 1;refine filter_congr fun m hm=>?_;obtain⟨x,hx,rfl⟩:=zG.mp hm;show _=decide (wthP ts (pof n x.1)=M);rw[a5c nd (a0t hlt x hx).2.1]
 refine P0 ((a0m _).trans ?_) (S6 _) (((a3T nd).filter _).imp fun h=>S7 _ _ h);rw[e];exact(U7 nd ht).filter _
theorem a8P (nd:(ts.map key2).Nodup)(ht:∀t∈ts,0<=t.1/\t.1<t.2.1/\t.2.1<n)(x:Int):x∈(prsP n ts).map (wthP ts)↔x∈(rowsM ts).map sumM:=by
 have hlt:∀t∈ts,t.1<t.2.1:=fun t h=>(ht t h).2.1;rw[<-((U7 nd ht).map (wthP ts)).mem_iff,qC];have e:(rowsM ts).map (wthP ts∘pof n)=(rowsM ts).map sumM:=qS fun m hm=>by
  obtain⟨y,hy,rfl⟩:=zG.mp hm;exact a5c nd (a0t hlt y hy).2.1
 rw[e]
end
def up (m:Nat):List Int:=(List.range m).map fun(i:Nat)=>0+(i:Int)
theorem b1H (m:Nat):rngD 0 m=(up m).map D.int:=by unfold rngD up;rw[qC];rfl
theorem b1D {m:Nat}{x:Int}:x∈up m↔0<=x/\x<m:=by
 unfold up;rw[zG];constructor
 ·rintro⟨i,hi,rfl⟩;rw[xO] at hi;walk_at "o"
 ·intro h;exact⟨x.toNat,xO.mpr (by walk_at "o"),by walk_at "o"⟩
theorem a1B (m:Nat):(up m).length=m:=by unfold up;simp
section
variable {X:Cx}
theorem V5 (hc:X.calm=true):CallR X (.builtin "sum") (fun xs H Q=>∃(p:Addr) (ns:List Int),xs=[.ref p]/\SqT X.K H p (ns.map V.int)/\Q (.int ns.sum) H):=by
 intro pins s σ H xs us Q I r h;obtain⟨p,ns,rfl,hq,q⟩:=h;obtain⟨u,rfl,ru⟩:=vals1 r;cases ru;obtain⟨its,rv,ht,hz⟩:=I.tuple hq;have ht:s.heap.IsTuple p its.toArray:=ht;obtain⟨o,h1,_⟩:=id ht;have lt:p<s.heap.objs.size:=zW h1;refine call_sum_walkG (wpAny_pyIter_tuple ht ⟨s.heap.objs.size,_,_,_,_,_,fun i=>ns.getD i 0,rfl,Walks.tuple (show X.A.in1.handled=none from I.ok.hd hc) _ _ (zV lt) _,⟨⟨_,qA _ rfl,rfl,rfl⟩,ht.at fun o e=>zE _ e⟩,fun c hb=>?_,fun i v hv=>a4r rv hv,fun h' tk t' hk=>?_⟩)
 ·show c<(s.heap.push _).objs.size;rw[size_push];rcases zS.mp hb with rfl|hb
  ·exact Nat.lt_succ_self _
  ·rw[zN.mp hb];exact Nat.lt_succ_of_lt lt
 ·have I1:Inv X pins σ H {s with heap:=h',toks:=tk}:=I.kept (t':=tk) fun b ob e=>hk b ob (fun z=>absurd (zW e) (by rw[zN.mp z];exact jU _)) (zE _ e)
  refine⟨.int ns.sum,H,I1,⟨t',?_⟩,q⟩;have len:its.toArray.size=ns.length:=by rw[zT,<-rv.length,zB]
  rw[len,Y4]
def gSumG:D->Option W
 | .lst xs=>(intsOf xs).map fun ns=>.v (.int ns.sum)
 | .tup xs=>(intsOf xs).map fun ns=>.v (.int ns.sum)
 | _=>none
theorem a16:PrA X (k1 gSumG) (fun xs H Q=>(∃(p:Addr) (ns:List Int),xs=[.ref p]/\SqL X.K H p (ns.map V.int)/\Q (.int ns.sum) H)\/∃(p:Addr) (ns:List Int),xs=[.ref p]/\SqT X.K H p (ns.map V.int)/\Q (.int ns.sum) H):=pr1 fun A d w v H Q e h q=>by
 cases d with
 | lst xs=>
  simp only[gSumG] at e;cases e1:intsOf xs with
  | none=>rw[e1] at e;cases e
  | some ns=>
   rw[e1] at e;cases e;obtain⟨a,vs,rfl,hq,l⟩:=h;rw[u7 e1] at l;rw[n5 l] at hq;exact .inl ⟨a,ns,rfl,hq,q _ H (Same.refl H) A1⟩
 | tup xs=>
  simp only[gSumG] at e;cases e1:intsOf xs with
  | none=>rw[e1] at e;cases e
  | some ns=>
   rw[e1] at e;cases e;have h:Den X.K A H (.tup xs) v:=h;rw[Den] at h;obtain⟨a,vs,rfl,hq,l⟩:=h;rw[u7 e1] at l;rw[n5 l] at hq;exact .inr ⟨a,ns,rfl,hq,q _ H (Same.refl H) A1⟩
 | _=>cases e
theorem a3v {xs:List D}{ns:List Int}(h:intsOf xs=some ns):gSumG (.lst xs)=some (.v (.int ns.sum)):=by unfold gSumG;simp only[h,jS]
end
section
variable {X:Cx}
theorem R6:∀{ns:List Int} {its:List Value},Vals (ns.map V.int) its->IntsAre its ns
 | [],_,r=>by cases r;exact .nil
 | n::ns,_,r=>by
  cases r with
  | cons r1 r2=>obtain⟨t,rfl⟩:=r1;exact .cons n t (R6 r2)
theorem a0S (hc:X.calm=true):CallR X (.builtin "max") (fun xs H Q=>∃(p:Addr) (ns:List Int),xs=[.ref p]/\SqL X.K H p (ns.map V.int)/\0<ns.length/\∀M,M∈ns->(∀a∈ns,a<=M)->Q (.int M) H):=by
 intro pins s σ H xs us Q I r h;obtain⟨p,ns,rfl,hq,hne,q⟩:=h;obtain⟨u,rfl,ru⟩:=vals1 r;cases ru;obtain⟨its,rv,⟨o,m,h1,h2,_,h4⟩,hz⟩:=I.list hq;have hl:s.heap.IsList p its.toArray:=⟨o,h1,h2,m,h4⟩;have hi:=R6 rv;obtain⟨xs,e⟩:=hi.allInts.items;have hns:ns=xs.toList.map (·.1):=by
  rw[<-hi.numsOf,<-nums_intItems,<-e]
 have hsz:0<xs.size:=by
  have h3:=hne;rw[hns,zB,zK] at h3;exact h3
 rw[e] at hl;refine max_intList (I.ok.hd hc) hl hsz fun v h' tk hv hk=>?_;obtain⟨t,rfl⟩:=intItems_at hv;obtain⟨h1,h2⟩:=argBest_gt (numAt xs) (xs.size-1);refine⟨.int _,H,I.kept (t':=tk) fun b ob e=>hk b ob e,⟨t,rfl⟩,q _ ?_ fun a ha=>?_⟩
 ·rw[hns,numAt_eq];exact getD_mem (by rw[zB,zK];walk_at "o")
 ·rw[hns] at ha;obtain⟨j,hj,rfl⟩:=mem_getD ha;rw[zB,zK] at hj;rw[<-numAt_eq];exact h2 j (by walk_at "o")
def maxI:List Int->Int
 | []=>0
 | a::r=>r.foldl (fun m x=>if x>m then x else m) a
theorem V3:∀(r:List Int) (a:Int),(r.foldl (fun m x=>if x>m then x else m) a=a\/r.foldl (fun m x=>if x>m then x else m) a∈r)/\a<=r.foldl (fun m x=>if x>m then x else m) a/\∀x∈r,x<=r.foldl (fun m x=>if x>m then x else m) a
 | [],a=>⟨.inl rfl,Int.le_refl _,fun x h=>by cases h⟩
 | b::r,a=>by
  rw[List.foldl_cons];obtain⟨h1,h2,h3⟩:=V3 r (if b>a then b else a);have e1:a<=(if b>a then b else a)/\b<=(if b>a then b else a):=by split<;>walk_at "o"
  refine⟨?_,by walk_at "o",fun x hx=>?_⟩
  ·rcases h1 with h1|h1
   ·by_cases h:b>a
    ·rw[if_pos h] at h1 ⊢;right;rw[h1];exact zM
    ·rw[if_neg h] at h1 ⊢;exact .inl h1
   ·exact .inr (zL _ h1)
  ·rcases zS.mp hx with rfl|hx
   ·walk_at "o"
   ·exact h3 x hx
theorem a4E {ns:List Int}{M:Int}(h:M∈ns)(hm:∀a∈ns,a<=M):M=maxI ns:=by
 cases ns with
 | nil=>cases h
 | cons a r=>
  obtain⟨h1,h2,h3⟩:=V3 r a;have u1:M<=maxI (a::r):=by
   rcases zS.mp h with rfl|h
   ·exact h2
   ·exact h3 M h
  have u2:maxI (a::r)<=M:=by
   rcases h1 with h1|h1
   ·show r.foldl _ a<=M;rw[h1];exact hm a zM
   ·exact hm _ (zL _ h1)
  walk_at "o"
def gMaxL:D->Option W
 | .lst xs=>(intsOf xs).bind fun ns=>if 0<ns.length then some (.v (.int (maxI ns))) else none
 | _=>none
theorem a48:PrA X (k1 gMaxL) (fun xs H Q=>∃(p:Addr) (ns:List Int),xs=[.ref p]/\SqL X.K H p (ns.map V.int)/\0<ns.length/\∀M,M∈ns->(∀a∈ns,a<=M)->Q (.int M) H):=pr1 fun A d w v H Q e h q=>by
 cases d with
 | lst xs=>
  simp only[gMaxL] at e;obtain⟨ns,e1,e⟩:=obs e;split at e
  ·rename_i hl;cases e;obtain⟨a,vs,rfl,hq,l⟩:=h;rw[u7 e1] at l;rw[n5 l] at hq;refine⟨a,ns,rfl,hq,hl,fun M h1 h2=>?_⟩;rw[a4E h1 h2];exact q _ H (Same.refl H) A1
  ·cases e
 | _=>cases e
theorem a6D {ns:List Int}(h:0<ns.length):gMaxL (.lst (ns.map .int))=some (.v (.int (maxI ns))):=by unfold gMaxL;simp only[m8,bind_some,h,jL]
end
section
variable {P:Program}{w:World}{K:PySem.W.Frag}{mg:Str->Option Value}{base:Heap}
theorem a8K {x:Str}{st:Stmt}{f:Addr}{fd:FuncData}{N ps:List Str}{k:Nat}(F:Fun K x x st f fd)(S:FnScope N ps (defScope st))(B:Binds K fd ps [])(hm:mg x=some (.ref f)):Fn P w K mg base x (k+1) (fun _=>none):=
 ⟨f,fd,ps,F.ok S (fun vs H Q E h0=>by obtain⟨_,_,_,_,_,e,_⟩:=h0;cases e) (fun cdv A outer s H vs Q E hr h0=>by obtain⟨_,_,_,_,_,e,_⟩:=h0;cases e),B,F.kp,hm⟩
theorem a6N {x:Str}{st:Stmt}{f:Addr}{fd:FuncData}{N ps:List Str}{k:Nat}{S:Nat->(List D->Option W)->Prop}(F:Fun K x x st f fd)(Sc:FnScope N ps (defScope st))(B:Binds K fd ps [])(hm:mg x=some (.ref f))(h0:S 0 fun _=>none)
  (step:∀(j m:Nat) (g:List D->Option W),Fn P w K mg base x (k+j) g->S m g->∃g',Fn P w K mg base x (k+j+1) g'/\S (m+1) g'):∀m,∃g,Fn P w K mg base x (k+m+1) g/\S m g
 | 0=>⟨_,a8K F Sc B hm,h0⟩
 | m+1=>by
  obtain⟨g,h,e⟩:=a6N F Sc B hm h0 step m;exact step (m+1) m g h e
end
section
variable {f g h:FX}{ρ:Ev}{w z:W}{d e:D}{xs:List D}{i:Nat}{m:Int}{kq:List Key}
def ek2 (fd fk:FX):Option (W×Ev)->Option R
 | some p=>fDPutK fd fk (fun _=>some p) p.2
 | none=>none
def ek3 (w:W) (fk:FX):Option (W×Ev)->Option R
 | some q=>match q.1 with
  | .r i=>(fk q.2).bind fun z=>(takeAll z.2 [w.fz,z.1.fz]).bind fun y=>match y.1 with
   | [d,kd]=>(dkey kd).bind fun k=>match ownAt y.2 i with
    | some (.dK ks xs)=>if ks.length<lim then some (.nx (setOwn y.2 i (.dK (putKs ks k) (putX ks xs k d)))) else none
    | _=>none
   | _=>none
  | _=>none
 | none=>none
def ek4 (w:W) (i:Nat):Option (W×Ev)->Option R
 | some z=>(takeAll z.2 [w.fz,z.1.fz]).bind fun y=>match y.1 with
   | [d,kd]=>(dkey kd).bind fun k=>match ownAt y.2 i with
    | some (.dK ks xs)=>if ks.length<lim then some (.nx (setOwn y.2 i (.dK (putKs ks k) (putX ks xs k d)))) else none
    | _=>none
   | _=>none
 | none=>none
def ek5 (i:Nat):Option (List D×Ev)->Option R
 | some y=>match y.1 with
   | [d,kd]=>(dkey kd).bind fun k=>match ownAt y.2 i with
    | some (.dK ks xs)=>if ks.length<lim then some (.nx (setOwn y.2 i (.dK (putKs ks k) (putX ks xs k d)))) else none
    | _=>none
   | _=>none
 | none=>none
def ek6 (i:Nat) (d:D) (m:Int) (ρ:Ev):Option D->Option R
 | some (.dK ks xs)=>if ks.length<lim then some (.nx (setOwn ρ i (.dK (putKs ks (.inl m)) (putX ks xs (.inl m) d)))) else none
 | _=>none
theorem r_ek:fDPutK f h g ρ=ek2 f h (g ρ):=by unfold ek2;cases e:g ρ with
 | none=>unfold fDPutK;rw[e];rfl
 | some p=>unfold fDPutK;rw[e]
theorem r_ek2:ek2 f h (some (w,ρ))=ek3 w h (f ρ):=by unfold ek2 ek3 fDPutK;dsimp only[bind_some];cases f ρ<;>rfl
theorem r_ek3:ek3 w h (some (.r i,ρ))=ek4 w i (h ρ):=by unfold ek3 ek4;dsimp only;cases h ρ<;>rfl
theorem r_ek4:ek4 w i (some (z,ρ))=ek5 i (takeAll ρ [w.fz,z.fz]):=by unfold ek4 ek5;dsimp only;cases takeAll ρ [w.fz,z.fz]<;>rfl
theorem r_ek5:ek5 i (some ([d,.int m],ρ))=ek6 i d m ρ (ownAt ρ i):=by
 unfold ek5 ek6;rfl
theorem r_ek6:ek6 i d m ρ (some (.dK kq xs))=if kq.length<lim then some (.nx (setOwn ρ i (.dK (putKs kq (.inl m)) (putX kq xs (.inl m) d)))) else none:=rfl
end
def val:List Bool->Nat
 | []=>0
 | b::bs=>(if b then 1 else 0)+2*val bs
section
variable {X:Cx}{a b:Expr}{f g:FX}{pos:Pos}
def rCatE (K:PySem.W.Frag):R2:=fun x y H Q=>∃a b ys,x= .ref a/\y= .ref b/\SqT K H a []/\SqT K H b ys/\Q (.ref b) H
theorem a8W:OpR X (binaryOp .Add) (rCatE X.K):=by
 intro pins s σ H x y v u Q I rx ry h;obtain⟨a,b,ys,rfl,rfl,ha,hb,q1⟩:=h;cases rx;cases ry;obtain⟨its,r1,p1,_⟩:=I.tuple ha;obtain⟨its2,r2,p2,_⟩:=I.tuple hb;cases r1;obtain⟨⟨cls,dd,data,sl⟩,ho,hc,n,hd⟩:=id p1;obtain⟨⟨cls2,dd2,data2,sl2⟩,ho2,hc2,n2,hd2⟩:=id p2;simp only at hc hd hc2 hd2;subst hc hd hc2 hd2;exact concat_meets ⟨_,ho,rfl⟩ ⟨_,ho2,rfl⟩ noFill_tuple_add seq_tuple_add PySem.F.slot_tuple_add PySem.F.entry_tuple_add (PySem.F.args_tuple_add_2 _ _)
   (tuple_addW0 a b _ its2.toArray n n2 dd dd2 sl sl2 (by simp)) ⟨ho,ho2,⟨.ref b,H,I,rfl,q1⟩⟩
def oAddE:D->D->Option W
 | .tup [],.tup ys=>some (.v (.tup ys))
 | .tup (x::xs),.tup ys=>if(x::xs).length+ys.length<=lim then some (.v (.tup ((x::xs)++ys))) else none
 | _,_=>none
theorem a3e {x y:D}{w:W}(e:oAddE x y=some w):(∃ys,x= .tup []/\y= .tup ys/\w= .v (.tup ys))\/∃xs ys,x= .tup xs/\y= .tup ys/\xs≠[]/\xs.length+ys.length<=lim/\w= .v (.tup (xs++ys)):=by
 unfold oAddE at e;split at e
 ·cases e;exact .inl ⟨_,rfl,rfl,rfl⟩
 ·split at e
  ·rename_i h;cases e;exact .inr ⟨_,_,rfl,rfl,by simp,h,rfl⟩
  ·cases e
 ·cases e
theorem a4k (ha:QX X a f)(hb:QX X b g):QX X (.BinOp a .Add b pos) (fBin oAddE f g):=P6 (a8W.or a3M) (by
 intro A x y w v u H Q _ e hx hy q;rcases a3e e with ⟨ys,rfl,rfl,rfl⟩|⟨xs,ys,rfl,rfl,ne,hl,rfl⟩
 ·have hx:Den X.K A H (.tup []) v:=hx;have hy:Den X.K A H (.tup ys) u:=hy;rw[Den] at hx;obtain⟨a,vs,ev,ha,la⟩:=hx;have z:vs=[]:=yA.mp (by rw[<-b9 la];rfl)
  subst z;have hy':=hy;rw[Den] at hy';obtain⟨b,us,eu,hb,lb⟩:=hy';refine .inl ⟨a,b,us,ev,eu,ha,hb,q _ H (Same.refl H) ?_⟩;rw[<-eu];exact hy
 ·have hx:Den X.K A H (.tup xs) v:=hx;have hy:Den X.K A H (.tup ys) u:=hy;rw[Den] at hx hy;obtain⟨a,vs,ev,ha,la⟩:=hx;obtain⟨b,us,eu,hb,lb⟩:=hy;refine .inr ⟨a,b,vs,us,ev,eu,ha,hb,fun z=>?_,?_,fun z=>?_,fun _ p hp=>q _ _ (j7 hp _) (M0 hp (v3 la lb))⟩
  rotate_left 2
  ·subst z;have z:ys=[]:=yA.mp (b9 lb);subst z;refine q _ H (Same.refl H) ?_;show Den _ _ _ _ _;rw[jZ,Den];exact⟨a,vs,rfl,ha,la⟩
  ·subst z;exact ne (yA.mp (b9 la))
  ·rw[<-b9 la,<-b9 lb];exact zQ hl u5) ha hb
theorem a6h {xs ys:List D}(h:xs.length+ys.length<=1000000):oAddE (.tup xs) (.tup ys)=some (.v (.tup (xs++ys))):=by
 cases xs with
 | nil=>rfl
 | cons x xs=>exact if_pos h
end
def It2 (lo:Int) (n:Nat):It:=⟨fun i _=>i<n,fun i H x H'=>H'=H/\x= .int (lo+2*i),fun i _=>n<=i⟩
theorem a7N {P:Program}{w:World}{K:PySem.W.Frag}{tg:Expr}(it:Addr)(lo:Int)(n:Nat):Turn P w K tg (It2 lo n) [it] it (fun i h=>IsRangeIter h it (lo+(i:Nat)*2) ((n:Int)-(i:Nat)) 2) where
 mem:=by simp
 obj:=fun i h st b hb=>by
  have e:b=it:=by simpa using hb
  subst e
  exact⟨_,st,fun v z=>by
   have z':Data.fields _=Data.cell v:=z
   cases z'⟩
 keep:=fun i h h' st k=>k it (by simp) _ st
 item:=by
  intro X hP hw hK hc i pins s σ H E I hf st hg;subst hP hw hK;obtain⟨f0,f1,f2,f3,f4,f5⟩:=hf it (by simp)
  have W:=Walks.range (prog:=X.prog) (w:=X.w) (I.ok.hd hc) it lo 2 n;refine W.item i s _ _ hg st fun v h' tk hv st' kk=>?_;obtain⟨t,rfl⟩:=hv;have I1:Inv X pins σ H {s with heap:=h',toks:=tk}:=I.turned (fun b o hb e=>kk b o (by simpa using hb) e) f0 f1 f3 f4 f5
  refine⟨_,rfl,a4Z (s:={s with heap:=h',toks:=tk}) (n:="range_iterator") st' rfl rfl (by decide) ⟨.int (lo+2*i),H,I1,⟨t,?_⟩,⟨rfl,rfl⟩,st',fun b hb=>(hf b hb).1⟩⟩
  rw[show lo+(i:Int)*2=lo+2*i by walk_at "o"]
 done:=by
  intro X hP hw hK hc i pins s σ H E I hf st hg;subst hP hw hK;obtain⟨f0,f1,f2,f3,f4,f5⟩:=hf it (by simp)
  exact wpAny_pyNext_range_end (I.ok.hd hc) st (by have:n<=i:=hg;walk_at "o") fun h' eb=>⟨rfl,I.turned (t':=s.toks) (fun b o hb e=>eb b o hb e) f0 f1 f3 f4 f5⟩
 self:=fun _ _ _ _ _ st h=>wpAny_pyIter_rangeiter st h
theorem a2P (a b:Int):Builtin.Range.rangeSize a b 2=if a<b then(b-a-1)/2+1 else 0:=by
 unfold Builtin.Range.rangeSize;simp only[show(2:Int)>0 by decide,jL]
theorem a5x {a b:Int}(ha:-(2^61)<=a)(ha':a<2^61)(hb:-(2^61)<=b)(hb':b<2^61):Builtin.Range.small a b 2=true:=by
 unfold Builtin.Range.small;rw[a2P];simp only[Builtin.Range.rangeFitsLong,qR,Bool.or_eq_true,yG,xW,show(2:Int)>0 by decide,jL]
 split<;>walk_at "o"
section
variable {X:Cx}{tg a b c:Expr}{fa:FA}{pos:Pos}
theorem b0H {pins:List (Addr×PySem.Obj)}{σ:L2.St}{H:Hp}{s:Shared}{R:It->Hp->Prop}{E:Value->Shared->Prop}{lo hi:Int}{t u v:Tok}{tk:Nat}(I:Inv X pins σ H s)(h1:-(2^61)<=lo)(h2:lo<2^61)(h3:-(2^61)<=hi)(h4:hi<2^61)
  (q:R (It2 lo ((hi-lo+1)/2).toNat) H):wpAny (model X.prog X.w) X.A (pyIter (.ref s.heap.objs.size)) (PIE X pins σ tg R) E {s with heap:=s.heap.push {cls:=.type "range",data:=.fields #[.int lo t,.int hi u,.int 2 v]},toks:=tk}:=by
 refine wpAny_pyIter_range (IsRange.new ..) (a5x h1 h2 h3 h4) ?_;have I1:Inv X pins σ H {s with heap:=s.heap.push {cls:=.type "range",data:=.fields #[.int lo t,.int hi u,.int 2 v]},toks:=tk}:=I.kept fun b o e=>zE _ e
 refine⟨(s.heap.push {cls:=.type "range",data:=.fields #[.int lo t,.int hi u,.int 2 v]}).objs.size,[(s.heap.push {cls:=.type "range",data:=.fields #[.int lo t,.int hi u,.int 2 v]}).objs.size],_,_,H,rfl,
  I1.kept (t':=tk) fun b o e=>zE _ e,a7N _ lo ((hi-lo+1)/2).toNat,?_,fun b hb=>?_,q⟩
 ·have e1:lo+((0:Nat):Int)*2=lo:=by simp
  have e2:((((hi-lo+1)/2).toNat:Nat):Int)-((0:Nat):Int)=Builtin.Range.rangeSize lo hi 2:=by rw[a2P];split<;>walk_at "o"
  show IsRangeIter _ _ (lo+((0:Nat):Int)*2) (((((hi-lo+1)/2).toNat:Nat):Int)-((0:Nat):Int)) 2;rw[e1,e2];exact qA _ rfl
 ·have e:b=(s.heap.push {cls:=.type "range",data:=.fields #[.int lo t,.int hi u,.int 2 v]}).objs.size:=by simpa using hb
  subst e;exact I1.fpOk (zD _) (I1.hok.fresh (zD _))
def iTwo (ta:TA):TI:=fun σ H R=>ta σ H fun vs H1=>∃i j:Int,vs=[.int i,.int j,.int 2]/\(-(2^61)<=i/\i<2^61/\-(2^61)<=j/\j<2^61)/\R (It2 i ((j-i+1)/2).toNat) H1
theorem b1w {ta:TA}{p:Pos}(hg:Gl X "range")(hm:X.mg "range"=none)(ha:PA X [a,b,c] ta)(hs:starEach [a,b,c] X.env=[(false,eval a X.env),(false,eval b X.env),(false,eval c X.env)]:=by rfl)(hs2:starEach [b,c] X.env=[(false,eval b X.env),(false,eval c X.env)]:=by rfl):
  PI X tg (.Call (.Name "range" p) [a,b,c] [] pos) (iTwo ta):=by
 intro pins s σ H R I h;refine Call_ (J5 I hg hm boot_range (jF (thn (ha pos pins s σ H _ I h) fun us s1 h0=>ex5 h0 fun vs H1 I1 r1 q1=>?_) (by rw[hs,hs2]) (by rw[hs2];rfl)))
 obtain⟨i,j,e,⟨q1,q2,q3,q4⟩,q⟩:=q1;subst e;cases r1 with
 | cons r rr=>
  cases rr with
  | cons r' rr=>
   cases rr with
   | cons r'' rr=>
    cases rr;obtain⟨t,rfl⟩:=r;obtain⟨t',rfl⟩:=r';obtain⟨t'',rfl⟩:=r'';exact call_range_3 (by decide) (b0H I1 q1 q2 q3 q4 q) (.inl (PyProof.noPylong_of_log2 (by decide +kernel)))
def twoD (lo:Int) (n:Nat):List D:=(List.range n).map fun(i:Nat)=>D.int (lo+2*i)
theorem a5g {K:PySem.W.Frag}{P:List (D×V)}(lo:Int)(n:Nat):Wks K P (twoD lo n) (It2 lo n):=fun Y O L ρ σ H _ _=>by
 unfold twoD;refine⟨fun i x ex=>?_,by show(List.length _)≥n;simp⟩
 rw[qH] at ex
 by_cases hi:i<n
 ·rw[vD hi] at ex;cases ex;exact⟨hi,fun v H' ⟨y1,y2⟩=>by subst y1;exact⟨Same.refl _,w9.mpr y2⟩⟩
 ·rw[xB (by simpa using hi)] at ex;cases ex
def fiR3 (fa:FA):FI:=fun ρ=>(fa ρ).bind fun p=>match p.1 with
 | [.v (.int m),.v (.int n),.v (.int k)]=>if k=2/\(-(2^61)<=m/\m<2^61)/\-(2^61)<=n/\n<2^61 then some (twoD m ((n-m+1)/2).toNat,p.2) else none
 | _=>none
theorem a9n {p:Pos}(hm:X.mg "range"=none)(ha:QA X [a,b,c] fa)(hg:Gl X "range":=by rfl)(hs:starEach [a,b,c] X.env=[(false,eval a X.env),(false,eval b X.env),(false,eval c X.env)]:=by rfl)(hs2:starEach [b,c] X.env=[(false,eval b X.env),(false,eval c X.env)]:=by rfl):QI X tg (.Call (.Name "range" p) [a,b,c] [] pos) (fiR3 fa):=⟨PI.weak (b1w hg hm ha.to hs hs2) fun σ H R h0=>tIe h0 fun P O L ρ xs ρ' r e q=>by
 unfold fiR3 at e;obtain⟨⟨ws,ρ1⟩,e1,e⟩:=obs e;dsimp only at e;split at e
 ·rename_i m n k;split at e
  ·rename_i hn;cases e;refine⟨P,O,L,ρ,_,_,r,e1,fun vs H1 r1 l1=>?_⟩;obtain⟨v,rs,rfl,h1,u,rs',rfl,h2,z,rs2,rfl,h3,l1⟩:=l1;have l1:rs2=[]:=l1;have h1:Den X.K (AvO O ρ' σ) H1 (.int m) v:=h1;have h2:Den X.K (AvO O ρ' σ) H1 (.int n) u:=h2;have h3:Den X.K (AvO O ρ' σ) H1 (.int k) z:=h3;subst l1;exact⟨m,n,by rw[w9.mp h1,w9.mp h2,w9.mp h3,hn.1],⟨hn.2.1.1,hn.2.1.2,hn.2.2.1,hn.2.2.2⟩,q _ H1 P r1 (fun p hp=>hp) (a5g m _)⟩
  ·cases e
 ·cases e⟩
def tw2 (r:Option (List W×Ev)):Option (List D×Ev):=r.bind fun p=>match p.1 with
 | [.v (.int m),.v (.int n),.v (.int k)]=>if k=2/\(-(2^61)<=m/\m<2^61)/\-(2^61)<=n/\n<2^61 then some (twoD m ((n-m+1)/2).toNat,p.2) else none
 | _=>none
theorem r_tr {ρ:Ev}:fiR3 fa ρ=tw2 (fa ρ):=id rfl
theorem a9G {m n:Int}{ρ:Ev}(c:(-(2^61)<=m/\m<2^61)/\-(2^61)<=n/\n<2^61):tw2 (some ([.v (.int m),.v (.int n),.v (.int 2)],ρ))=some (twoD m ((n-m+1)/2).toNat,ρ):=by
 unfold tw2;rw[bind_some];dsimp only;rw[if_pos ⟨rfl,c⟩]
end
section
variable {X:Cx}{o:Expr}{apos pos:Pos}{f:FX}
def mClr (xs ds:List D):Option (W×List D):=match ds with
 | []=>some (.v .non,[])
 | _=>none
theorem b0C:PrM X mClr rClear:=fun A a xs ds w ys us vs H Q h l l' e q _=>by
 unfold mClr at e;split at e
 ·cases e;rw[DenL] at l';subst l';exact⟨a,us,rfl,rfl,h,q _ _ j6 K5⟩
 ·cases e
theorem b0L:∀xs ds w ys,mClr xs ds=some (w,ys)->∃d,w= .v d:=fun xs ds w ys e=>by
 unfold mClr at e;split at e
 ·cases e;exact⟨_,rfl⟩
 ·cases e
theorem a6Z (ho:QX X o f)(hbase:attributeBase o "clear" X.env (eval o X.env)=eval o X.env:=by rfl)(hline:(apos.endLine==pos.line)=true:=by rfl):QX X (.Call (.Attribute o "clear" apos) [] [] pos) (fMut mClr f fNil):=
 ⟨PE.weak (b1C PySem.F.plainAttrs_list PySem.F.slot_list_clear PySem.F.type_list_clear a6Q ho.to hbase hline) fun σ H Q h=>by
  obtain⟨P,O,L,ρ,w,ρ',r,e,q⟩:=a0s b0C b0L σ H Q h
  exact⟨P,O,L,ρ,w,ρ',r,e,fun v H1 H' r1 s1 d1=>by
   obtain⟨ty,P2,O2,L2',ρ2,ws,ρ2',r2,e2,q2⟩:=q v H1 H' r1 s1 d1;cases e2
   exact⟨ty,q2 [] H' r2 rfl⟩⟩⟩
theorem r_clr {xs:List D}:mClr xs []=some (.v .non,[]):=rfl
theorem V7 {eq:D->D->Option Bool}:∀{l:List D},(∀x∈l,eq x x=some true)->deqL eq l l=some true
 | [],_=>rfl
 | x::l,h=>by
  rw[deqL,h x (.head _),V7 fun y hy=>h y (.tail _ hy)];rfl
theorem a6T {m:Nat}(k:List Int):deq (m+1) (tupI k) (tupI k)=some true:=by rw[a22];simp
theorem a6x {m:Nat}(ks:List (List (List Int))):deq (m+3) (.lst (ks.map fun p=>.tup (p.map tupI))) (.lst (ks.map fun p=>.tup (p.map tupI)))=some true:=by
 show deqL (deq (m+2)) _ _=_;refine V7 fun x hx=>?_;obtain⟨p,_,rfl⟩:=zG.mp hx;show deqL (deq (m+1)) _ _=_;refine V7 fun y hy=>?_;obtain⟨k,_,rfl⟩:=zG.mp hy;exact a6T k
end
end Z
def rwN:=(".lim .r_fn .a7y .a55 .a9W .a2d .a77 .a7e .r_ge .a9z .a3V .a9T .b0l .r_dp .a9p .a9S .a9I .a9m .b0j .b0d .a9t .a9C .a96 .a0U .r_td .a9g .a9i .a9H .a9V .a9h .ix_0 .a_3 .it_t .it_l .r_iz .a9U .b0p .a9B .r_r1 .a97 .r_r2 .a9D .r_lr .a9w .a6R .r_tc .a9K .a4l .a4c .a9k .b0n .a9u .a98 .a3Q .a43 .a4o .r_c .a6V .a7A .a46 .a45 .a60 .a6F .a6p .a4g .a4d .a7v .a92 .a7K .a6a .a7d .a6S .r_un .a9O .a9c .a0z .a61 .b0i .a6H .a2m .a02 .a9f .a6W .a9e .r_or .a4h .a4J .a6I .a6X .a2C .a2X .a9P .a7L .a4P .a3X .a41 .a4j .a4B .a8a .a6f .a6c .a9M .b0f .a4p .a4K .a7i .a4f .a5a .r_k1 .r_k2 .a91 .a56 .a7C .a7z .r_dl .a9j .a9d .a9Z .r_sl .a9b .a9E .b0c .a9v .a6i .r_o0 .r_o1 .a93 .a6A .a00 .a1o .a9q .a4N .a3P .a3Z .a2f .r_ifS .a33 .a42 .b0o .a4i .a4V .r_ag .a9L .a9o .a9l .a37 .a6j .a4a .a9R .a52 .r_gs .b0b .a9Q .b0a .a5Y .a4G .r_is .a90 .a7G .a68 .a9J .a8c .a6d .a39 .r_mu .a9N .b0m .a94 .a87 .a95 .a9y .a9r .a2Z .a6Y .a0Z .o_i0 .o_i .a4U .a4w .a4v .a9X .a6b .a78 .a7l .a31 .b0q .a1j .o_d2 .a_0 .a_1 .a_2 .a99 .b0h .a4X .a8b .a0q .a4x .a4L .a7n .a7E .a1h .a89 .a9A .a6g .a6B .a7x .b0r .a9s .W.own .start0 .deq .flatE .lf .lfL .noR .frzL qB yI zP yL List.replicate jZ nil_append List.cons_append yO jK List.set_cons_zero List.set_cons_succ bind_some jS jL xF jJ xZ Nat.reduceAdd Nat.reduceSub jR Nat.add_one_sub_one and_self and_true true_and Bool.and_self Bool.not_true Bool.not_false ite_self decide_true decide_false Nat.reduceEqDiff Nat.reduceLeDiff beq_self_eq_true List.isEmpty_cons List.isEmpty_nil".splitOn " ")
local macro_rules|`(tactic|walk_at "z r")=>do
 let xs:=(rwN.map fun s=>Lean.mkIdent (if s.startsWith "." then "Z"++s else s).toName).toArray
 `(tactic|simp only[$[$xs:ident],*])
local macro_rules|`(tactic| walk_at "q") => `(tactic| repeat(first|walk_at "z r"))
local macro_rules|`(tactic|walk_at "z i")=>do
 let xs:=((rwN.filter fun s=>![".r_ifS"].contains s).map fun s=>Lean.mkIdent (if s.startsWith "." then "Z"++s else s).toName).toArray
 `(tactic|simp only[$[$xs:ident],*])
set_option maxHeartbeats 1500000
namespace Q20
open PySem L2 Z
abbrev LO:=List D->Option W
abbrev LL:=D->List D->Option (W×D)
local macro_rules|`(tactic| walk_at "c") => `(tactic| exact⟨rfl, rfl, rfl, by decide +kernel, rfl, by decide +kernel, by decide +kernel⟩)
def top (i:Nat):Stmt:=PySem.Challenge.pw_twainhoard_k20_all_best_told.main.body.getD i (.Pass ⟨0,0,0,0⟩)
section
variable {P:Program}{w:World}{K:PySem.W.Frag}{mg:Str->Option Value}{base:Heap}{f:Addr}{fd:FuncData}{k:Nat}
theorem a2o {ks:List (List Int)}{x:D}(h:x∈ks.map tupI):∃k∈ks,x=tupI k:=by obtain⟨k,hk,rfl⟩:=zG.mp h;exact⟨k,hk,rfl⟩
abbrev W1:Stmt:=top 1
theorem Z1:FnScope ["web","people","ties"] ["web"] (defScope W1):=by walk_at "c"
def a1c (g:LO):Prop:=∀(n:Int) (ts:List Tie),WebOk n ts->g [webD n ts]=some (.o (.lst ((sortK (parK n ts)).map tupI)))
def one1:D->D
 | .int i=>.tup [.int i]
 | d=>d
def cut2:D->D
 | .tup [a,b,_]=>.tup [a,b]
 | d=>d
theorem a1s {a b c:D}:cutD [a,b,c] none (some 2)=[a,b]:=rfl
theorem a54 (n:Int)(ts:List Tie):((rngD 0 n.toNat).filter fun _=>true).map one1++((ts.map tieD).filter fun _=>true).map cut2=(parK n ts).map tupI:=by
 rw[m7,m7];unfold parK rngD;rw[qF,qC,qC,qC,qC];congr 1;apply qS;intro i _;show D.tup [.int (0+(i:Int))]=D.tup [.int (i:Int)];rw[Int.zero_add]
theorem a3K (v7:mg "sorted"=none)(j8:mg "range"=none)(F:Fun K "parties" "parties" W1 f fd)(B:Binds K fd ["web"] [])(hm:mg "parties"=some (.ref f)):∃g,Fn P w K mg base "parties" (k+1) g/\a1c g:=by
 have nd:=Z1.nd
 refine⟨_,O7 F Z1 B hm rfl rfl (fun cdv A outer s H E hr=>(g5 (a7h (a8 0) (V8 rfl (u4 (j0 1 nd) (u4 (j0 2 nd) N2))))
  (i0 (o8 (W3 hr rfl v7 (a7 (p7 (v5 (N:=["person"]) (js:=[none]) (li:=none) rfl (t5 (by exact(.own .nil)) rfl (by exact trivial) (by rfl)) (E6 (X6 j8 (a7 (a8 1) b8))) (fun _ _ _ _=>(j0 0 (show((["person"]:List Str)++[accN]).Nodup by decide +kernel))) (fun _ _ _ _=>t8) (fun _ _ _ _=>(w8 (a7 (a8 0) b8)))) (v5 (N:=["tie"]) (js:=[none]) (li:=none) rfl (t5 (by exact(.own .nil)) rfl (by exact trivial) (by rfl)) (B7 2) (fun _ _ _ _=>(j0 0 (show((["tie"]:List Str)++[accN]).Nodup by decide +kernel))) (fun _ _ _ _=>t8) (fun _ _ _ _=>(Z3 (a8 0) a1M (a1S a9))))) b8)))))),?_⟩
 intro n ts hw;have hn:=hw.n1;have hl:=hw.len;obtain⟨pl,pne⟩:=a7Z hw;have r1:(-(2^62:Int)<=n/\n<2^62):=by walk_at "o"
 have so:=Y5 (ks:=parK n ts) (by walk_at "o") pne
 have pq:=a54 n ts;have ll:(((rngD 0 n.toNat).filter fun _=>true).map one1).length+(((ts.map tieD).filter fun _=>true).map cut2).length<=1000000:=by
  rw[m7,m7,zB,zB,zB,z3];walk_at "o"
 unfold webD;walk_at "q";rw[n6 (ρ1:=[some (.v (.tup [.int n,.tup (ts.map tieD)])),some (.v (.int n)),some (.v (.tup (ts.map tieD)))]) (xs:=rngD 0 n.toNat) (fun B=>∃o1:Option D,B=[o1.map .v]) (fun _=>true) one1]
 ·walk_at "q";rw[n6 (ρ1:=[some (.v (.tup [.int n,.tup (ts.map tieD)])),some (.v (.int n)),some (.v (.tup (ts.map tieD)))]) (xs:=ts.map tieD) (fun B=>∃o1:Option D,B=[o1.map .v]) (fun _=>true) cut2]
  ·repeat(first|walk_at "z r" | simp only[ll,pq,so])
  ·walk_at "q"
  ·rintro _ ⟨_,rfl⟩;rfl
  ·exact⟨none,rfl⟩
  ·rw[zB];unfold lim;walk_at "o"
  ·refine t9 fun y hy=>?_;obtain⟨x,hx,rfl⟩:=zG.mp hy;obtain⟨t,_,rfl⟩:=zG.mp (qJ.mp hx).1;rfl
  ·rintro x hx _ zs ⟨o1,rfl⟩;obtain⟨⟨a,b,c⟩,ha,rfl⟩:=zG.mp hx;refine⟨[some (.v (tieD (a,b,c)))],.v (.tup [.int a,.int b]),⟨some _,rfl⟩,?_,rfl,fun _=>⟨?_,.inl rfl⟩⟩
   ·walk_at "q"
   ·unfold tieD
    repeat(first|walk_at "z r" | simp only[a1s])
 ·repeat(first|walk_at "z r" | simp only[r1])
 ·rintro _ ⟨_,rfl⟩;rfl
 ·exact⟨none,rfl⟩
 ·rw[z3];unfold lim;walk_at "o"
 ·refine t9 fun y hy=>?_;obtain⟨x,hx,rfl⟩:=zG.mp hy;obtain⟨i,rfl,_⟩:=J2 (qJ.mp hx).1;rfl
 ·rintro x hx _ zs ⟨o1,rfl⟩;obtain⟨i,rfl,_⟩:=J2 hx;refine⟨[some (.v (.int i))],.v (.tup [.int i]),⟨some _,rfl⟩,?_,rfl,fun _=>⟨?_,.inl rfl⟩⟩
  ·walk_at "q"
  ·walk_at "q"
abbrev a1E:Stmt:=top 2
theorem a26:FnScope ["web"] ["web"] (defScope a1E):=by walk_at "c"
def a4I (g:LO):Prop:=∀(n:Int) (ts:List Tie),WebOk n ts->g [webD n ts]=some (.o (.dT (ts.map tkK) (ts.map fun t=>.int t.2.2)))
def keyT:D->List Key
 | .tup [.int a,.int b,.int _]=>[Sum.inl a,Sum.inl b]
 | _=>[]
def valT:D->D
 | .tup [_,_,c]=>c
 | d=>d
theorem a2G (ts:List Tie):(ts.map tieD).map keyT=ts.map tkK:=by rw[qC];rfl
theorem a2L (ts:List Tie):(ts.map tieD).map valT=ts.map fun t=>D.int t.2.2:=by rw[qC];rfl
theorem a7Y (F:Fun K "gains" "gains" a1E f fd)(B:Binds K fd ["web"] [])(hm:mg "gains"=some (.ref f)):∃g,Fn P w K mg base "gains" (k+1) g/\a4I g:=by
 have nd:=a26.nd;refine⟨_,O7 F a26 B hm rfl rfl (fun cdv A outer s H E hr=>(i0 (o8 (a74 (N:=["one","other","gain"]) (js:=[none,none,none]) (li:=none) 2 hr rfl (t5 (by exact(.own (.own (.own .nil)))) rfl (by exact trivial) (by rfl)) (D8 (n9 hr (a8 0) a9)) (fun _ _ _ _=>(V8 rfl (u4 (j0 0 (show((["one","other","gain"]:List Str)++[accN]).Nodup by decide +kernel)) (u4 (j0 1 (show((["one","other","gain"]:List Str)++[accN]).Nodup by decide +kernel)) (u4 (j0 2 (show((["one","other","gain"]:List Str)++[accN]).Nodup by decide +kernel)) N2))))) (fun _ _ _ _=>t8) (fun _ _ _ _=>(a7 (a8 0) (a7 (a8 1) b8))) (fun _ _ _ _=>a8J 2))))),?_⟩
 intro n ts hw;have hl:=hw.len;unfold webD;walk_at "q";rw[a5O (ρ1:=[some (.v (.tup [.int n,.tup (ts.map tieD)]))]) (xs:=ts.map tieD) (fun B=>∃o1 o2 o3:Option D,B=[o1.map .v,o2.map .v,o3.map .v]) keyT valT]
 ·rw[a2G,a2L];walk_at "q"
 ·walk_at "q"
 ·rintro _ ⟨_,_,_,rfl⟩;rfl
 ·exact⟨none,none,none,rfl⟩
 ·rw[zB];unfold lim;walk_at "o"
 ·rw[a2L];refine t9 fun y hy=>?_;obtain⟨x,hx,rfl⟩:=zG.mp hy;rfl
 ·rw[a2G];exact a7V hw
 ·rintro x hx _ ks zs ⟨o1,o2,o3,rfl⟩ hk;obtain⟨⟨a,b,c⟩,ha,rfl⟩:=zG.mp hx;unfold lim at hk;refine⟨[some (.v (.int a)),some (.v (.int b)),some (.v (.int c))],⟨some _,some _,some _,rfl⟩,?_⟩;rw[show tieD (a,b,c)= .tup [.int a,.int b,.int c] from rfl]
  repeat(first|walk_at "z r" | simp only[hk])
  rfl
def firstLast (p:Int) (ps:List Int) (k:List Int):Bool:=k.getD 0 0==p&&decide (k.getD (k.length-1) 0∈ps)
def pAm (ch:List (List Int)):Nat->List Int->List (List (List Int))
 | 0,_=>[]
 | _+1,[]=>[[]]
 | m+1,p::ps=>(ch.filter (firstLast p (p::ps))).flatMap fun k=>(pAm ch m ((p::ps).filter fun x=>decide (x∉k))).map fun r=>k::r
structure ChOk (ch:List (List Int)):Prop where
 two:∀k∈ch,(∃a,k=[a])\/∃a c,k=[a,c]/\a<c
 nd:ch.Nodup
 len:ch.length<=63
def fac:Nat->Nat
 | 0=>1
 | n+1=>(n+1)*fac n
theorem M5:∀{a b:Nat},a<=b->fac a<=fac b:=fun{a b} h=>by
 induction h with
 | refl=>exact zD _
 | step _ ih=>exact zQ ih (Nat.le_mul_of_pos_left _ (Nat.succ_pos _))
theorem a69 {α:Type} [DecidableEq α] {l m:List α}(nd:l.Nodup)(h:∀x∈l,x∈m):l.length<=m.length:=by
 induction l generalizing m with
 | nil=>exact qL _
 | cons x l ih=>
  obtain⟨n1,n2⟩:=nodup_cons.mp nd;have hx:=h x zM
  have:=ih (m:=m.erase x) n2 fun y hy=>(List.mem_erase_of_ne fun e=>n1 (by rw[<-e];exact hy)).mpr (h y (zL _ hy))
  rw[List.length_erase_of_mem hx] at this
  have:=yZ hx
  rw[qB];walk_at "o"
theorem b0B {ch:List (List Int)}(h:ChOk ch)(p:Int)(ps:List Int):(ch.filter (firstLast p ps)).length<=ps.length:=by
 have nd:((ch.filter (firstLast p ps)).map fun k=>k.getD (k.length-1) 0).Nodup:=by
  have n1:=h.nd.sublist (filter_sublist (p:=firstLast p ps));unfold List.Nodup at *;rw[jD];refine List.Pairwise.imp_of_mem ?_ n1;intro a b ha hb hne e;obtain⟨a1,a2⟩:=qJ.mp ha;obtain⟨b1,b2⟩:=qJ.mp hb;unfold firstLast at a2 b2;rw[qR,xW] at a2 b2;rcases h.two a a1 with ⟨x,rfl⟩|⟨x,y,rfl,hxy⟩<;>rcases h.two b b1 with ⟨u,rfl⟩|⟨u,v,rfl,huv⟩<;>simp at a2 b2 e hne<;>walk_at "o"
 have:=a69 nd fun x hx=>by
  obtain⟨k,hk,rfl⟩:=zG.mp hx
  have:=(qJ.mp hk).2
  unfold firstLast at this;rw[qR] at this;exact xK this.2
 rwa [zB] at this
theorem T5 {ch:List (List Int)}(h:ChOk ch):∀(m:Nat) (ps:List Int),(pAm ch m ps).length<=fac ps.length
 | 0,ps=>qL _
 | m+1,[]=>zD 1
 | m+1,p::ps=>by
  rw[pAm];have b:∀k∈ch.filter (firstLast p (p::ps)),((pAm ch m ((p::ps).filter fun x=>decide (x∉k))).map fun r=>k::r).length<=fac ps.length:=fun k hk=>by
   rw[zB];refine zQ (T5 h m _) (M5 ?_)
   have:=(qJ.mp hk).2
   unfold firstLast at this;rw[qR,xW] at this;have hp:p∈k:=by
    rcases h.two k (qJ.mp hk).1 with ⟨x,rfl⟩|⟨x,y,rfl,_⟩
    ·rw[<-this.1];simp
    ·rw[<-this.1];simp
   rw[yK,if_neg (by simp[hp])]
   exact jT _ _
  have key:∀l:List (List Int),(∀k∈l,((pAm ch m ((p::ps).filter fun x=>decide (x∉k))).map fun r=>k::r).length<=fac ps.length)->(l.flatMap fun k=>(pAm ch m ((p::ps).filter fun x=>decide (x∉k))).map fun r=>k::r).length<=l.length*fac ps.length:=fun l=>by
   induction l with
   | nil=>intro _;exact qL _
   | cons k l ih=>
    intro hl;have h1:=hl k zM;have h2:=ih fun y hy=>hl y (zL _ hy);rw[flatMap_cons,zH,qB,Nat.succ_mul];walk_at "o"
  refine zQ (key _ b) ?_;show _<=(ps.length+1)*fac ps.length;exact Nat.mul_le_mul_right _ (b0B h p (p::ps))
def pairD (p:List (List Int)):D:=.tup (p.map tupI)
def hasNot (k:List Int):D->Bool
 | .int x=>decide (x∉k)
 | _=>false
def consD (d:D):D->D
 | .tup xs=>.tup (d::xs)
 | e=>e
theorem a3I (k ps:List Int):((ps.map D.int).filter (hasNot k)).map id=(ps.filter fun x=>decide (x∉k)).map .int:=by
 rw[map_id,filter_map];rfl
theorem a5M (k:List Int)(rs:List (List (List Int))):((rs.map pairD).filter fun _=>true).map (consD (tupI k))=(rs.map fun r=>k::r).map pairD:=by
 rw[m7,qC,qC];exact qS fun r _=>rfl
theorem G0 (rs:List (List (List Int))):lfL (rs.map pairD)=true:=t9 fun x hx=>by obtain⟨r,_,rfl⟩:=zG.mp hx;exact B4 r
def upTo (ch:List (List Int)) (m:Nat) (p:Int) (ps:List Int) (i:Nat):List (List (List Int)):=((ch.take i).filter (firstLast p (p::ps))).flatMap fun k=>(pAm ch m ((p::ps).filter fun x=>decide (x∉k))).map fun r=>k::r
theorem a6K {ch:List (List Int)}(h:ChOk ch)(m:Nat)(p:Int)(ps:List Int)(i:Nat):(upTo ch m p ps i).length<=fac (ps.length+1):=by
 have:=T5 h (m+1) (p::ps)
 rw[pAm] at this;refine zQ ?_ this;rw[show ch.filter (firstLast p (p::ps))=(ch.take i).filter (firstLast p (p::ps))++(ch.drop i).filter (firstLast p (p::ps)) by rw[<-filter_append,jQ],List.flatMap_append,zH]
 exact Nat.le_add_right _ _
theorem a5X {ch:List (List Int)}{m:Nat}{p:Int}{ps:List Int}{i:Nat}{k:List Int}(hk:ch[i]? =some k):upTo ch m p ps (i+1)=upTo ch m p ps i++if firstLast p (p::ps) k=true then(pAm ch m ((p::ps).filter fun x=>decide (x∉k))).map fun r=>k::r else[]:=by
 unfold upTo;rw[vC,hk,Option.toList_some,filter_append,List.flatMap_append];congr 1;rw[yK,filter_nil]
 split
 ·simp
 ·rfl
theorem a8R {ch:List (List Int)}(h:ChOk ch){p:Int}{ps k:List Int}(hk:k∈ch.filter (firstLast p (p::ps))):((p::ps).filter fun x=>decide (x∉k)).length<=ps.length:=by
 have:=(qJ.mp hk).2
 unfold firstLast at this;rw[qR,xW] at this;have hp:p∈k:=by
  rcases h.two k (qJ.mp hk).1 with ⟨x,rfl⟩|⟨x,y,rfl,_⟩
  ·rw[<-this.1];simp
  ·rw[<-this.1];simp
 rw[yK,if_neg (by simp[hp])]
 exact jT _ _
theorem a3g {ch:List (List Int)}(h:ChOk ch):∀(m:Nat) (ps:List Int),∀q∈pAm ch m ps,q.length<=ps.length
 | 0,ps,q,hq=>by cases hq
 | m+1,[],q,hq=>by
  rw[pAm,zN] at hq;rw[hq];exact qL _
 | m+1,p::ps,q,hq=>by
  rw[pAm] at hq;obtain⟨k,hk,hr⟩:=mem_flatMap.mp hq;obtain⟨r,hr2,rfl⟩:=zG.mp hr
  have:=a3g h m _ r hr2
  have:=a8R h hk
  rw[qB,qB];walk_at "o"
abbrev C2:Stmt:=top 6
theorem B8:FnScope ["choices","people","told","party","others"] ["choices","people"] (defScope C2):=by walk_at "c"
def A6 (m:Nat) (g:LO):Prop:=∀(ch:List (List Int)) (ps:List Int),ChOk ch->ps.length<m->ps.length<=8->g [.lst (ch.map tupI),.lst (ps.map .int)]=some (.o (.lst ((pAm ch m ps).map pairD)))
def G4 (g:LO):Prop:=A6 9 g
theorem P4:A6 0 fun _=>none:=fun _ _ _ h _=>absurd h (Nat.not_lt_zero _)
theorem S9 (F:Fun K "pairings_among" "pairings_among" C2 f fd)(B:Binds K fd ["choices","people"] [])(hm:mg "pairings_among"=some (.ref f)):∃g,Fn P w K mg base "pairings_among" (k+9+1) g/\G4 g:=by
 have nd:=B8.nd
 refine a6N (S:=A6) F B8 B hm P4 (fun j m z8 u9 u6=>⟨_,O7 F B8 B hm rfl rfl (fun cdv A outer s H E hr=>(g5 (E7 (a7j (a7k (a8 1))) (i0 (o8 (A9 (a7 (w8 b8) b8)))) v4)
  (g5 (j9 2 nd (A9 b8))
  (g5 (D0 qP rfl (D8 (a8 0)) (j0 3 nd) (i0 (E7 (a30 (a3p (M8 hr (n9 hr (a8 3) a9) (n9 hr (a8 1) a9)) (a19 (b1m hr (n9 hr (a8 3) (b0S a9)) (a8 1))))) (g5 (T0 4 nd (K7 (N:=["person","party"]) (js:=[none,some 3]) (li:=none) rfl (t5 (by exact(.own (.cap rfl rfl rfl rfl .nil))) rfl (by exact⟨rfl,trivial⟩) (by rfl)) (B7 1) (fun _ _ _ _=>(j0 0 (show((["person","party"]:List Str)++[accN]).Nodup by decide +kernel))) (fun _ _ _ _=>(S8 rfl (N7 hr (a8 0) (a8 1)))) (fun _ _ _ _=>(a8 0))))
  (i0 (O0 (a07 (a8 2) (a7 (v5 (N:=["rest","party"]) (js:=[none,some 3]) (li:=none) rfl (t5 (by exact(.own (.cap rfl rfl rfl rfl .nil))) rfl (by exact⟨rfl,trivial⟩) (by rfl)) (E6 (D8 (C3 u9 hr (a7 (a8 0) (a7 (a8 4) b8))))) (fun _ _ _ _=>(j0 0 (show((["rest","party"]:List Str)++[accN]).Nodup by decide +kernel))) (fun _ _ _ _=>t8) (fun _ _ _ _=>(p7 (w8 (a7 (a8 1) b8)) (a8 0)))) b8))))) v4)))
  (i0 (o8 (a8 2))))))),?_⟩) 9
 intro ch ps hc hm h8;have lch:=B4 ch;have lch63:=hc.len;cases ps with
 | nil=>
  rw[show(pAm ch (m+1) []).map pairD=[D.tup []] from rfl];walk_at "q"
 | cons p ps=>
  rw[qB] at hm h8;have lps:=t4 (p::ps);have f8:fac (ps.length+1)<=40320:=zQ (M5 h8) (by decide)
  rw[zP];walk_at "q";generalize el:loopF _ _ _=r;refine z4 el (fun i ρ=>∃(o3:Option D) (x4:Option W),ρ=[some (.v (.lst (ch.map tupI))),some (.v (.lst (.int p::ps.map .int))),some (.o (.lst ((upTo ch m p ps i).map pairD))),o3.map .v,x4]/\freeO x4=true) ⟨none,none,rfl,rfl⟩ ?_ ?_
  ·rintro i x _ hx ⟨o3,x4,rfl,f4⟩;rw[qH] at hx;cases hk:ch[i]? with
   | none=>rw[hk] at hx;cases hx
   | some k=>
    rw[hk] at hx;cases hx;have hkm:k∈ch:=xE hk;have nx:=a5X (m:=m) (p:=p) (ps:=ps) hk;have ul:=a6K hc m p ps (i+1);have af:atI (k.map D.int) 0=some (.int (k.getD 0 0))/\atI (k.map D.int) (-1)=some (.int (k.getD (k.length-1) 0)):=by
     rcases hc.two k hkm with ⟨a,rfl⟩|⟨a,c,rfl,_⟩<;>exact⟨rfl,rfl⟩
    have gi:oInG false (.int (k.getD (k.length-1) 0)) (.lst (.int p::ps.map .int))=some (.v (.bl (decide (k.getD (k.length-1) 0∈p::ps)))):=by
     have:=a8v (b:=false) (n:=k.getD (k.length-1) 0) (m8 (p::ps))
     rw[nb_f] at this;exact this
    unfold firstLast at nx;have et:tupI k= .tup (k.map .int):=rfl
    by_cases c1:(k.getD 0 0==p)=true
    ·by_cases c2:decide (k.getD (k.length-1) 0∈p::ps)=true
     ·have fl:firstLast p (p::ps) k=true:=by unfold firstLast;rw[c1,c2];rfl
      have hp:p∈k:=by
       have c1:=xW.mp c1;rcases hc.two k hkm with ⟨a,rfl⟩|⟨a,c,rfl,_⟩<;>(rw[<-c1];simp)
      rw[c1,c2,Bool.and_self,if_pos rfl] at nx;obtain⟨ot,eot⟩:∃ot:List Int,((p::ps).filter fun x=>decide (x∉k))=ot:=⟨_,rfl⟩;have lot:ot.length<=ps.length:=by
       rw[<-eot,yK,if_neg (by simp[hp])]
       exact jT _ _
      have er:=u6 ch ot hc (by walk_at "o") (by walk_at "o")
      have hm1:=a3I k (p::ps);rw[eot] at nx hm1;have cm:=a5M k (pAm ch m ot);have lo:=t4 ot;have lr:=G0 (pAm ch m ot);have lr2:=G0 ((pAm ch m ot).map fun r=>k::r);have pl:(pAm ch m ot).length<=40320:=zQ (T5 hc m ot) (zQ (M5 (by walk_at "o")) f8)
      have hlen:((upTo ch m p ps i).map pairD).length+(((pAm ch m ot).map fun r=>k::r).map pairD).length<=1000000:=by
       rw[nx,zH] at ul;rw[zB,zB];walk_at "o"
      refine⟨_,?_,some (tupI k),some (.o (.lst (ot.map .int))),rfl,rfl⟩;rw[nx,qF];rw[et]
      repeat(first|walk_at "z r" | simp only[af.1,af.2,c1,gi,c2])
      rw[n6 (ρ1:=[some (.v (.lst (ch.map tupI))),some (.v (.lst (.int p::ps.map .int))),some (.o (.lst ((upTo ch m p ps i).map pairD))),some (.v (.tup (k.map .int))),x4]) (xs:=(p::ps).map .int) (fun B=>∃o1:Option D,B=[o1.map .v,some (.v (.tup (k.map .int)))]) (hasNot k) id]
      ·rw[hm1]
       repeat(first|walk_at "z r" | simp only[f4])
       rw[n6 (ρ1:=[some (.v (.lst (ch.map tupI))),some (.v (.lst (.int p::ps.map .int))),some (.o (.lst ((upTo ch m p ps i).map pairD))),some (.v (.tup (k.map .int))),some (.o (.lst (ot.map .int)))]) (xs:=(pAm ch m ot).map pairD) (fun B=>∃o1:Option D,B=[o1.map .v,some (.v (.tup (k.map .int)))]) (fun _=>true) (consD (tupI k))]
       ·rw[cm]
        repeat(first|walk_at "z r" | simp only[lr2,hlen,it_l,it_t])
       ·repeat(first|walk_at "z r" | simp only[lch,lo,er,lr])
       ·rintro _ ⟨_,rfl⟩;rfl
       ·exact⟨none,rfl⟩
       ·rw[zB];unfold lim;walk_at "o"
       ·rw[cm];exact lr2
       ·rintro x hx _ zs ⟨o1,rfl⟩;obtain⟨q,hq,rfl⟩:=zG.mp hx;have hql:1+(q.map tupI).length<=1000000:=by
         rw[zB]
         have:=a3g hc m ot q hq
         walk_at "o"
        refine⟨[some (.v (pairD q)),some (.v (.tup (k.map .int)))],.v (.tup (tupI k::q.map tupI)),⟨some _,rfl⟩,?_,rfl,fun _=>⟨?_,.inl rfl⟩⟩
        ·walk_at "q"
        ·unfold pairD
         repeat(first|walk_at "z r" | simp only[hql])
         rfl
      ·walk_at "q"
      ·rintro _ ⟨_,rfl⟩;rfl
      ·exact⟨none,rfl⟩
      ·rw[zB,qB];unfold lim;walk_at "o"
      ·rw[hm1];exact lo
      ·rintro x hx _ zs ⟨o1,rfl⟩;obtain⟨q,hq,rfl⟩:=zG.mp hx;have gt:oInG true (.int q) (.tup (k.map .int))=some (.v (.bl (hasNot k (.int q)))):=by
        rw[a1t (m8 k),nb_t];show _=some (W.v (D.bl (decide (q∉k))));rw[decide_not]
       refine⟨[some (.v (.int q)),some (.v (.tup (k.map .int)))],.v (.int q),⟨some _,rfl⟩,?_,?_,fun _=>⟨?_,.inl rfl⟩⟩
       ·walk_at "q"
       ·repeat(first|walk_at "z r" | simp only[gt])
       ·walk_at "q"
     ·have c2':decide (k.getD (k.length-1) 0∈p::ps)=false:=by simpa using c2
      rw[c1,c2',Bool.and_false,if_neg (by decide),jZ] at nx
      rw[nx,et];refine⟨_,?_,some (.tup (k.map .int)),x4,rfl,f4⟩
      repeat(first|walk_at "z r" | simp only[af.1,af.2,c1,gi,c2'])
    ·have c1':(k.getD 0 0==p)=false:=by simpa using c1
     rw[c1',Bool.false_and,if_neg (by decide),jZ] at nx
     rw[nx,et];refine⟨_,?_,some (.tup (k.map .int)),x4,rfl,f4⟩
     repeat(first|walk_at "z r" | simp only[af.1,af.2,c1'])
  ·rintro _ rfl ⟨o3,x4,rfl,f4⟩;rw[zB];have e:upTo ch m p ps ch.length=pAm ch (m+1) (p::ps):=by rw[pAm];unfold upTo;rw[jY]
   rw[e];have lr:=G0 (pAm ch (m+1) (p::ps))
   repeat(first|walk_at "z r" | simp only[lr])
def gainH (ts:List Tie):D->D
 | .tup xs=>match intsOf xs with
  | some k=>.int (gainOf ts k)
  | none=>.int 0
 | _=>.int 0
theorem a4u (ts:List Tie)(k:List Int):gainH ts (tupI k)= .int (gainOf ts k):=by unfold gainH tupI;dsimp only;rw[m8]
theorem a5z (ts:List Tie)(ps:List (List Int)):((ps.map tupI).filter fun _=>true).map (gainH ts)=(ps.map (gainOf ts)).map .int:=by
 rw[m7,qC,qC];exact qS fun k _=>a4u ts k
abbrev a14:Stmt:=top 4
theorem a2A:FnScope ["web","some","gained"] ["web","some"] (defScope a14):=by walk_at "c"
def a4O (g:LO):Prop:=∀(n:Int) (ts:List Tie) (ps:List (List Int)),WebOk n ts->ps.length<=63->g [webD n ts,.tup (ps.map tupI)]=some (.v (.int (ps.map (gainOf ts)).sum))
theorem a7D {a1C:LO}(a1W:Fn P w K mg base "gains" k a1C)(a1y:a4I a1C)(m_sum:mg "sum"=none)(F:Fun K "worth" "worth" a14 f fd)(B:Binds K fd ["web","some"] [])(hm:mg "worth"=some (.ref f)):∃g,Fn P w K mg base "worth" (k+1) g/\a4O g:=by
 have nd:=a2A.nd
 refine⟨_,O7 F a2A B hm rfl rfl (fun cdv A outer s H E hr=>(g5 (j9 2 nd (C3 a1W hr (a7 (a8 0) b8)))
  (i0 (o8 (qx_b ((X3 rfl).or (V5 rfl)) a16 m_sum (a7 (v5 (N:=["party","gained"]) (js:=[none,some 2]) (li:=none) rfl (t5 (by exact(.own (.cap rfl rfl rfl rfl .nil))) rfl (by exact⟨rfl,trivial⟩) (by rfl)) (B7 1) (fun _ _ _ _=>(j0 0 (show((["party","gained"]:List Str)++[accN]).Nodup by decide +kernel))) (fun _ _ _ _=>t8) (fun _ _ _ _=>(b04 hr (a8 1) (a7 (a8 0) (a7 a9 b8))))) b8)))))),?_⟩
 intro n ts ps hw hl;have eg:=a1y n ts hw;have lf1:lfL (ts.map fun t=>D.int t.2.2)=true:=t9 fun y hy=>by obtain⟨x,hx,rfl⟩:=zG.mp hy;rfl
 have g6:∀k ρ,ge6 (tupI k) (.int 0) ρ (some (.dT (ts.map tkK) (ts.map fun t=>D.int t.2.2)))=some (.v (.int (gainOf ts k)),ρ):=fun k ρ=>by rw[a8U (a3S k),a0L]
 have gm:=a5z ts ps;have os:=a3v (m8 (ps.map (gainOf ts)))
 repeat(first|walk_at "z r" | simp only[eg,lf1])
 rw[n6 (ρ1:=[some (.v (webD n ts)),some (.v (.tup (ps.map tupI))),some (.o (.dT (ts.map tkK) (ts.map fun t=>D.int t.2.2)))]) (xs:=ps.map tupI) (fun B=>∃o1:Option D,B=[o1.map .v,some (.v (.dT (ts.map tkK) (ts.map fun t=>D.int t.2.2)))]) (fun _=>true) (gainH ts)]
 ·rw[gm]
  repeat(first|walk_at "z r" | simp only[os])
 ·walk_at "q"
 ·rintro _ ⟨_,rfl⟩;rfl
 ·exact⟨none,rfl⟩
 ·rw[zB];unfold lim;walk_at "o"
 ·rw[gm];exact t4 _
 ·rintro x hx _ zs ⟨o1,rfl⟩;obtain⟨p,hpp,rfl⟩:=a2o hx;have gp:=g6 p;refine⟨[some (.v (tupI p)),some (.v (.dT (ts.map tkK) (ts.map fun t=>D.int t.2.2)))],.v (.int (gainOf ts p)),⟨some _,rfl⟩,?_,rfl,fun _=>⟨?_,.inl (by rw[a4u])⟩⟩
  ·walk_at "q"
  ·repeat(first|walk_at "z r" | simp only[gp])
def wK (ts:List Tie) (q:List (List Int)):Int:=(q.map (gainOf ts)).sum
theorem a4n {n:Int}{ts:List Tie}(hw:WebOk n ts):ChOk (sortK (parK n ts)):=by
 have hn:=hw.n1;have hl:=hw.len;have p:=t6 (parK n ts);refine⟨fun k hk=>?_,?_,?_⟩
 ·rcases qE.mp (p.mem_iff.mp hk) with z|z
  ·obtain⟨i,_,rfl⟩:=zG.mp z;exact .inl ⟨_,rfl⟩
  ·obtain⟨t,ht,rfl⟩:=zG.mp z;exact .inr ⟨_,_,rfl,(hw.t t ht).2.1⟩
 ·refine p.nodup_iff.mpr ?_;unfold parK;rw[qW];refine⟨?_,?_,fun a ha b hb e=>?_⟩
  ·unfold List.Nodup;rw[jD];exact List.nodup_range.imp fun h e=>h (by injection e with e;walk_at "o")
  ·have nd:=hw.nd;unfold List.Nodup at *;rw[jD] at nd ⊢;exact nd.imp fun h e=>h (by injection e with e1 e2;injection e2 with e2;rw[e1,e2])
  ·obtain⟨i,_,rfl⟩:=zG.mp ha;obtain⟨t,_,rfl⟩:=zG.mp hb;exact absurd (congrArg List.length e) (by simp)
 ·rw[p.length_eq];unfold parK;rw[zH,zB,zB,yC];walk_at "o"
def allP (n:Int) (ts:List Tie):List (List (List Int)):=pAm (sortK (parK n ts)) 9 (up n.toNat)
abbrev F2:Stmt:=top 5
theorem M6:FnScope ["web"] ["web"] (defScope F2):=by walk_at "c"
def O5 (g:LO):Prop:=∀(n:Int) (ts:List Tie),WebOk n ts->g [webD n ts]=some (.o (.lst ((allP n ts).map pairD)))
theorem a0h {z8:LO}{W4:LO}(u9:Fn P w K mg base "pairings_among" k z8)(u6:G4 z8)(V6:Fn P w K mg base "parties" k W4)(U3:a1c W4)(J0:mg "list"=none)(j8:mg "range"=none)(F:Fun K "pairings_of" "pairings_of" F2 f fd)(B:Binds K fd ["web"] [])(hm:mg "pairings_of"=some (.ref f)):∃g,Fn P w K mg base "pairings_of" (k+1) g/\O5 g:=by
 have nd:=M6.nd;refine⟨_,O7 F M6 B hm rfl rfl (fun cdv A outer s H E hr=>(i0 (o8 (C3 u9 hr (a7 (C3 V6 hr (a7 (a8 0) b8)) (a7 (a6w rfl J0 j8 (a7 (n9 hr (a8 0) a9) b8)) b8)))))),?_⟩;intro n ts hw;have hn:=hw.n1;have e1:=U3 n ts hw;have ul:=a1B n.toNat;have e2:=u6 (sortK (parK n ts)) (up n.toNat) (a4n hw) (by walk_at "o") (by walk_at "o")
 have r3:(0<=n/\n<=1000):=by walk_at "o"
 have ru:rngD 0 n.toNat=(up n.toNat).map .int:=b1H _;have lu:lfL ((up n.toNat).map D.int)=true:=t4 _;have lp:=B4 (sortK (parK n ts));have lr:=G0 (allP n ts);have ix0:oIxG (webD n ts) (.int 0)=some (.v (.int n)):=rfl;have lw:=X2 n ts;unfold allP at lr ⊢
 repeat(first|walk_at "z r" | simp only[e1,r3,ru,lu,lp,e2,ix0,lr,lw])
def bestP (n:Int) (ts:List Tie):List (List (List Int)):=(allP n ts).filter fun q=>wK ts q==maxI ((allP n ts).map (wK ts))
def wthD (ts:List Tie):D->D
 | .tup xs=>match tupsOf xs with
  | some ks=>.int (wK ts ks)
  | none=>.int 0
 | _=>.int 0
theorem a2I (ts:List Tie)(q:List (List Int)):wthD ts (pairD q)= .int (wK ts q):=by unfold wthD pairD;dsimp only;rw[J4]
theorem a8d (ts:List Tie)(qs:List (List (List Int))):((qs.map pairD).filter fun _=>true).map (wthD ts)=(qs.map (wK ts)).map .int:=by
 rw[m7,qC,qC];exact qS fun q _=>a2I ts q
def fstD:D->D
 | .tup [a,_]=>a
 | d=>d
def sndIs (m:Int):D->Bool
 | .tup [_,.int w]=>w==m
 | _=>false
theorem a2j (ts:List Tie)(m:Int):∀qs:List (List (List Int)),((zipD (qs.map pairD) ((qs.map (wK ts)).map .int)).filter (sndIs m)).map fstD=(qs.filter fun q=>wK ts q==m).map pairD
 | []=>rfl
 | q::qs=>by
  have ih:=a2j ts m qs;show(((D.tup [pairD q,.int (wK ts q)])::zipD (qs.map pairD) ((qs.map (wK ts)).map .int)).filter (sndIs m)).map fstD=_;rw[yK,yK];show(if(wK ts q==m)=true then _ else _:List D).map fstD=_
  split
  ·rw[zP,zP,ih];rfl
  ·exact ih
theorem a6z {ch:List (List Int)}:∀(m:Nat) (ps:List Int),ps.length<m->(∀p∈ps,[p]∈ch)->pAm ch m ps≠[]
 | 0,ps,h,_=>absurd h (Nat.not_lt_zero _)
 | m+1,[],_,_=>by rw[pAm];exact List.cons_ne_nil _ _
 | m+1,p::ps,h,hs=>by
  rw[qB] at h;have hk:[p]∈ch.filter (firstLast p (p::ps)):=qJ.mpr ⟨hs p zM,by unfold firstLast;simp⟩
  have lr:((p::ps).filter fun x=>decide (x∉[p])).length<=ps.length:=by
   rw[yK,if_neg (by simp)]
   exact jT _ _
  have ne:=a6z (ch:=ch) m ((p::ps).filter fun x=>decide (x∉[p])) (by walk_at "o") fun x hx=>hs x (qJ.mp hx).1
  obtain⟨r,hr⟩:=List.exists_mem_of_ne_nil _ ne;rw[pAm];exact List.ne_nil_of_mem (mem_flatMap.mpr ⟨[p],hk,zG.mpr ⟨r,hr,rfl⟩⟩)
theorem a8F {n:Int}{ts:List Tie}(hw:WebOk n ts):allP n ts≠[]:=a6z 9 _ (by have:=hw.n1;rw[a1B];walk_at "o") fun p hp=>by
 have:=b1D.mp hp
 refine(t6 _).mem_iff.mpr (xG _ (zG.mpr ⟨p.toNat,xO.mpr (by walk_at "o"),?_⟩))
 rw[Int.toNat_of_nonneg this.1]
theorem a7B {n:Int}{ts:List Tie}(hw:WebOk n ts):(allP n ts).length<=40320:=by
 have:=T5 (a4n hw) 9 (up n.toNat)
 refine zQ this (zQ (M5 (show(up n.toNat).length<=8 by rw[a1B];have:=hw.n1;walk_at "o")) (by decide))
theorem a67 {ns:List Int}(h:0<ns.length):maxI ns∈ns/\∀a∈ns,a<=maxI ns:=by
 cases ns with
 | nil=>cases h
 | cons a r=>
  obtain⟨h1,h2,h3⟩:=V3 r a;refine⟨?_,fun x hx=>?_⟩
  ·rcases h1 with z|z
   ·show r.foldl (fun m x=>if x>m then x else m) a∈a::r;rw[z];exact zM
   ·exact zL _ z
  ·rcases zS.mp hx with rfl|z
   ·exact h2
   ·exact h3 x z
abbrev P1:Stmt:=top 8
theorem X9:FnScope ["web","pairings","worths","most"] ["web"] (defScope P1):=by walk_at "c"
def a0j (g:LO):Prop:=∀(n:Int) (ts:List Tie),WebOk n ts->g [webD n ts]=some (.o (.lst ((bestP n ts).map pairD)))
theorem a2w {F6:LO}{Y9:LO}(F5:Fn P w K mg base "pairings_of" k F6)(F1:O5 F6)(a1U:Fn P w K mg base "worth" k Y9)(a1O:a4O Y9)(m_max:mg "max"=none)(m_zip:mg "zip"=none)(F:Fun K "all_best" "all_best" P1 f fd)(B:Binds K fd ["web"] [])(hm:mg "all_best"=some (.ref f)):∃g,Fn P w K mg base "all_best" (k+1) g/\a0j g:=by
 have nd:=X9.nd
 refine⟨_,O7 F X9 B hm rfl rfl (fun cdv A outer s H E hr=>(g5 (j9 1 nd (C3 F5 hr (a7 (a8 0) b8)))
  (g5 (T0 2 nd (K7 (N:=["pairing","web"]) (js:=[none,some 0]) (li:=none) rfl (t5 (by exact(.own (.cap rfl rfl rfl rfl .nil))) rfl (by exact⟨rfl,trivial⟩) (by rfl)) (B7 1) (fun _ _ _ _=>(j0 0 (show((["pairing","web"]:List Str)++[accN]).Nodup by decide +kernel))) (fun _ _ _ _=>t8) (fun _ _ _ _=>(C3 a1U hr (a7 (a8 1) (a7 (a8 0) b8))))))
  (g5 (j9 3 nd (qx_b (a0S rfl) a48 m_max (a7 (a8 2) b8)))
  (i0 (o8 (v5 (N:=["pairing","each","most"]) (js:=[none,none,some 3]) (li:=none) rfl (t5 (by exact(.own (.own (.cap rfl rfl rfl rfl .nil)))) rfl (by exact⟨rfl,trivial⟩) (by rfl)) (E6 (b1r m_zip (a7 (a8 1) (a7 (a8 2) b8)))) (fun _ _ _ _=>(V8 rfl (u4 (j0 0 (show((["pairing","each","most"]:List Str)++[accN]).Nodup by decide +kernel)) (u4 (j0 1 (show((["pairing","each","most"]:List Str)++[accN]).Nodup by decide +kernel)) N2)))) (fun _ _ _ _=>(S8 rfl (M8 hr (a8 1) (a8 2)))) (fun _ _ _ _=>(a8 0))))))))),?_⟩
 intro n ts hw;have hn:=hw.n1;have e1:=F1 n ts hw;have l1:=G0 (allP n ts);have ln:=a7B hw;have wm:=a8d ts (allP n ts);have lw:=t4 ((allP n ts).map (wK ts));have lweb:=X2 n ts;have pos:0<((allP n ts).map (wK ts)).length:=by rw[zB];exact List.length_pos_iff.mpr (a8F hw)
 have om:=a6D pos;obtain⟨M,eM⟩:∃M:Int,maxI ((allP n ts).map (wK ts))=M:=⟨_,rfl⟩;rw[eM] at om;have bm:=a2j ts M (allP n ts);have lb:=G0 ((allP n ts).filter fun q=>wK ts q==M);have lA:∀q∈allP n ts,q.length<=63:=fun q hq=>by
  have:=a3g (a4n hw) 9 (up n.toNat) q hq
  rw[a1B] at this;walk_at "o"
 unfold bestP;rw[eM];generalize allP n ts=Q at e1 l1 ln wm lw om bm lb lA ⊢
 repeat(first|walk_at "z r" | simp only[e1,l1])
 rw[n6 (ρ1:=[some (.v (webD n ts)),some (.o (.lst (Q.map pairD))),none,none]) (xs:=Q.map pairD) (fun B=>∃o1:Option D,B=[o1.map .v,some (.v (webD n ts))]) (fun _=>true) (wthD ts)]
 ·rw[wm]
  repeat(first|walk_at "z r" | simp only[lw,om])
  rw[n6 (ρ1:=[some (.v (webD n ts)),some (.v (.lst (Q.map pairD))),some (.v (.lst ((Q.map (wK ts)).map .int))),some (.v (.int M))]) (xs:=zipD (Q.map pairD) ((Q.map (wK ts)).map .int)) (fun B=>∃o1 o2:Option D,B=[o1.map .v,o2.map .v,some (.v (.int M))]) (sndIs M) fstD]
  ·rw[bm]
   repeat(first|walk_at "z r" | simp only[lb])
  ·repeat(first|walk_at "z r" | simp only[lw,l1,it_l,it_t])
  ·rintro _ ⟨_,_,rfl⟩;rfl
  ·exact⟨none,none,rfl⟩
  ·unfold zipD;rw[List.length_zipWith,zB,zB,zB,Nat.min_self];unfold lim;walk_at "o"
  ·rw[bm];exact lb
  ·rintro x hx _ zs ⟨o1,o2,rfl⟩;obtain⟨q,hq,rfl⟩:∃q∈Q,x= .tup [pairD q,.int (wK ts q)]:=by
    have:∀R:List (List (List Int)),x∈zipD (R.map pairD) ((R.map (wK ts)).map .int)->∃q∈R,x= .tup [pairD q,.int (wK ts q)]:=fun R=>by
     induction R with
     | nil=>intro h;cases h
     | cons q R ih=>
      intro h;have h:x∈D.tup [pairD q,.int (wK ts q)]::zipD (R.map pairD) ((R.map (wK ts)).map .int):=h;rcases zS.mp h with z|z
      ·exact⟨q,zM,z⟩
      ·obtain⟨q',h1,h2⟩:=ih z;exact⟨q',zL _ h1,h2⟩
    exact this Q hx
   refine⟨[some (.v (pairD q)),some (.v (.int (wK ts q))),some (.v (.int M))],.v (pairD q),⟨some _,some _,rfl⟩,?_,?_,fun _=>⟨?_,.inl rfl⟩⟩
   ·walk_at "q"
   ·rw[show sndIs M (.tup [pairD q,.int (wK ts q)])=(wK ts q==M) from rfl];walk_at "q"
   ·walk_at "q"
 ·walk_at "q"
 ·rintro _ ⟨_,rfl⟩;rfl
 ·exact⟨none,rfl⟩
 ·rw[zB];unfold lim;walk_at "o"
 ·rw[wm];exact lw
 ·rintro x hx _ zs ⟨o1,rfl⟩;obtain⟨q,hq,rfl⟩:=zG.mp hx;have ew:Y9 [webD n ts,pairD q]=some (.v (.int (wK ts q))):=a1O n ts q hw (lA q hq);have lq:lf (pairD q)=true:=B4 q;refine⟨[some (.v (pairD q)),some (.v (webD n ts))],.v (.int (wK ts q)),⟨some _,rfl⟩,?_,rfl,fun _=>⟨?_,.inl (by rw[a2I])⟩⟩
  ·walk_at "q"
  ·repeat(first|walk_at "z r" | simp only[ew,lweb,lq])
def poolD (p:Int):D:=.lst [.int p]
abbrev M7:Stmt:=top 10
theorem S0:FnScope ["script","k","cell","great","number","found","turn"] ["script","k"] (defScope M7):=by walk_at "c"
def X8 (g:LO):Prop:=∀(ns:List Int) (k:Int),ns.length<=63->0<=k->k<=63->∃p:Int,g [.lst (ns.map D.int),.int k]=some (.o (poolD p))
theorem a1Q (j8:mg "range"=none)(m_len:mg "len"=none)(F:Fun K "_law_pool" "_law_pool" M7 f fd)(B:Binds K fd ["script","k"] [])(hm:mg "_law_pool"=some (.ref f)):∃g,Fn P w K mg base "_law_pool" (k+1) g/\X8 g:=by
 have nd:=S0.nd
 refine⟨_,O7 F S0 B hm rfl rfl (fun cdv A outer s H E hr=>(g5 (j9 2 nd a9)
  (g5 (E7 (b1q hr (a8 1) (qx_b T6 a6e m_len (a7 (a8 0) b8))) (i0 (j9 2 nd (n9 hr (a8 0) (a8 1)))) v4)
  (g5 (E7 (qt_ge (a8 2) (M3 a9 a9)) (g5 (j9 3 nd (E4 (E4 (M3 a9 a9) (M3 a9 a9)) (M3 a9 a9)))
  (i0 (o8 (A9 (a7 (Q7 (a8 2) (E4 (a8 3) (a8 3))) b8))))) v4)
  (g5 (j9 4 nd (Q7 (p7 (p7 (p7 (a8 2) (E4 (E4 a9 (a8 1)) (a8 1))) (E4 a9 (a8 1))) a9) a9))
  (g5 (j9 5 nd a9)
  (g5 (D0 qP rfl (X6 j8 (a7 a9 b8)) (j0 6 nd) (g5 (j9 4 nd (Q7 (p7 (p7 (E4 (a8 4) a9) (E4 a9 (a8 6))) a9) a9))
  (g5 (j9 4 nd (Q7 (E4 (a8 4) (a8 4)) a9))
  (i0 (j9 5 nd (p7 (E4 (a8 5) a9) (Q7 (p7 (E4 (a8 4) a9) (a8 1)) a9)))))))
  (i0 (o8 (A9 (a7 (a8 5) b8))))))))))),?_⟩
 intro ns k hl h0 hk;have pw:CPow 10 18:=by decide
 have pw6:CPow 10 60:=by decide
 have ln:=t4 ns;have r1:(-(2^62:Int)<=40/\(40:Int)<2^62):=by walk_at "o"
 have c1:(0:Int)<2147483647:=by decide
 have c2:(0:Int)<2147483629:=by decide
 have c3:(0:Int)<2147483587:=by decide
 have e60:(10:Int)^(60:Int).toNat=1000000000000000000000000000000000000000000000000000000000000:=by decide +kernel
 have dg:(0:Int)<1000000000000000000000000000000000000000000000000000000000000*1000000000000000000000000000000000000000000000000000000000000*1000000000000000000000000000000000000000000000000000000000000*(1000000000000000000000000000000000000000000000000000000000000*1000000000000000000000000000000000000000000000000000000000000*1000000000000000000000000000000000000000000000000000000000000):=by decide +kernel
 have g1:mOk 1000000000000000000000000000000000000000000000000000000000000 1000000000000000000000000000000000000000000000000000000000000:=by decide +kernel
 have g2:mOk (1000000000000000000000000000000000000000000000000000000000000*1000000000000000000000000000000000000000000000000000000000000) 1000000000000000000000000000000000000000000000000000000000000:=by decide +kernel
 have g3:mOk (1000000000000000000000000000000000000000000000000000000000000*1000000000000000000000000000000000000000000000000000000000000*1000000000000000000000000000000000000000000000000000000000000) (1000000000000000000000000000000000000000000000000000000000000*1000000000000000000000000000000000000000000000000000000000000*1000000000000000000000000000000000000000000000000000000000000):=by decide +kernel
 have p1:mOk 104729 k:=.inl (by decide)
 have p2:mOk (104729*k) k:=.inr (.inl (by walk_at "o"))
 have p3:mOk 7 k:=.inl (by decide)
 have e18:(10:Int)^(18:Int).toNat=1000000000000000000:=by decide +kernel
 unfold poolD
 by_cases h:k<ns.length
 case' pos=>
  have h':decide (k<(ns.length:Int))=true:=qO h;have ha:=a4t (ns:=ns) (i:=k) h0 h;generalize ns.getD k.toNat 0=c at ha
  by_cases hb:(1000000000000000000:Int)<=c
  case pos=>
   have hb':decide ((1000000000000000000:Int)<=c)=true:=qO hb;refine⟨c%(1000000000000000000000000000000000000000000000000000000000000*1000000000000000000000000000000000000000000000000000000000000*1000000000000000000000000000000000000000000000000000000000000*(1000000000000000000000000000000000000000000000000000000000000*1000000000000000000000000000000000000000000000000000000000000*1000000000000000000000000000000000000000000000000000000000000)),?_⟩
   repeat(first|walk_at "z r" | simp only[ln,zB,h',ha,pw,e18,hb',pw6,e60,g1,g2,g3,dg])
  have hb':decide ((1000000000000000000:Int)<=c)=false:=qM hb
  repeat(first|walk_at "z i" | simp only[ln,zB,h',ha,pw,e18,hb',r1,c1,p1,p2,p3])
  repeat(first|walk_at "z r" | simp only[ln,zB,h',ha,pw,e18,hb',r1,c1,p1,p2,p3])
 case' neg=>
  have h':decide (k<(ns.length:Int))=false:=qM h;have hb':decide ((1000000000000000000:Int)<=0)=false:=by decide
  repeat(first|walk_at "z i" | simp only[ln,zB,h',pw,e18,hb',r1,c1,p1,p2,p3])
  repeat(first|walk_at "z r" | simp only[ln,zB,h',pw,e18,hb',r1,c1,p1,p2,p3])
 all_goals
  generalize el:loopF _ _ _=r;refine z4 el (fun i ρ=>∃(a b:Int) (o:Option D),ρ=[some (.v (.lst (ns.map .int))),some (.v (.int k)),some (.v (.int _)),none,some (.v (.int a)),some (.v (.int b)),o.map .v]) ⟨_,0,none,rfl⟩ ?_ ?_
  ·rintro i x _ hx ⟨a,b,o,rfl⟩;obtain⟨rfl,hi⟩:=R1 hx;have q1:∀a:Int,mOk a 48271:=fun a=>.inr (.inl (by decide))
   have q2:mOk 7919 (0+(i:Int)):=.inl (by decide)
   have q3:∀a:Int,mOk (a%2147483629) (a%2147483629):=fun a=>.inl (by
    have:=Int.emod_nonneg a (b:=2147483629) (by decide)
    have:=Int.emod_lt_of_pos a (b:=2147483629) (by decide)
    walk_at "o")
   have q4:∀a:Int,mOk a 2147483587:=fun a=>.inr (.inl (by decide))
   have q5:∀a:Int,mOk a 69621:=fun a=>.inr (.inl (by decide))
   refine⟨?_,?_,?_⟩
   rotate_left
   ·repeat(first|walk_at "z r" | simp only[c2,c3,q1,q2,q3,q4,q5])
    rfl
   ·exact⟨_,_,some (.int (0+(i:Int))),rfl⟩
  ·rintro _ rfl ⟨a,b,o,rfl⟩;refine⟨b,?_⟩;walk_at "q"
abbrev M1:Stmt:=top 11
theorem T2:FnScope ["pool","many","digit"] ["pool","many"] (defScope M1):=by walk_at "c"
def A2 (g:LL):Prop:=∀m n:Int,dOk n->∃i m':Int,(0<=i/\i<n)/\g (poolD m) [.int n]=some (.v (.int i),poolD m')
theorem a1N (F:Fun K "_law_take" "_law_take" M1 f fd)(B:Binds K fd ["pool","many"] [])(hm:mg "_law_take"=some (.ref f)):∃g,FnL P w K mg base "_law_take" (k+1) g/\A2 g:=by
 have nd:=T2.nd
 refine⟨_,Z8 F T2 B hm rfl rfl (fun cdv A outer s H E hr=>(g5 (j9 2 nd (Q7 (n9 hr (a8 0) a9) (a8 1)))
  (g5 (a7h (b1I (n9 hr (a8 0) a9) (a8 1)) (b0N (a8 0) a9))
  (i0 (o8 (a8 2)))))),?_⟩
 intro m n hn;have n0:=hn.1;have i10:ixN 1 0=some 0:=rfl;unfold poolD;refine⟨m%n,m/n,⟨Int.emod_nonneg _ (by walk_at "o"),Int.emod_lt_of_pos _ n0⟩,?_⟩
 repeat(first|walk_at "z r" | simp only[n0,hn,i10])
theorem atL {xs:List Int}{i:Int}(h0:0<=i)(h:i<xs.length):∃s:Int,atI (xs.map D.int) i=some (.int s)/\s∈xs:=by
 refine⟨xs.getD i.toNat 0,a4t h0 h,?_⟩;rw[yE,xS (by walk_at "o")]
 exact List.getElem_mem _
abbrev L3:Stmt:=top 12
theorem T3:FnScope ["pool","kind","ahead"] ["pool","kind","ahead"] (defScope L3):=by walk_at "c"
def Y2 (g:LL):Prop:=∀p k a:Int,-(2^62)<a->a<2^62->∃v q:Int,(1<=v/\v<=10^12)/\g (poolD p) [.int k,.int a]=some (.v (.int v),poolD q)
theorem a1u {j5:LL}(g7:FnL P w K mg base "_law_take" k j5)(c9:A2 j5)(m_max:mg "max"=none)(m_min:mg "min"=none)(F:Fun K "_law_gain" "_law_gain" L3 f fd)(B:Binds K fd ["pool","kind","ahead"] [])(hm:mg "_law_gain"=some (.ref f)):∃g,FnL P w K mg base "_law_gain" (k+1) g/\Y2 g:=by
 have nd:=T3.nd
 refine⟨_,Z8 F T3 B hm rfl rfl (fun cdv A outer s H E hr=>(g5 (E7 (M8 hr (a8 1) a9) (i0 (o8 (p7 a9 (k6 g7 hr (a7 (a8 0) (a7 a9 b8)))))) v4)
  (g5 (E7 (M8 hr (a8 1) a9) (i0 (o8 (p7 a9 (k6 g7 hr (a7 (a8 0) (a7 a9 b8)))))) v4)
  (g5 (E7 (M8 hr (a8 1) a9) (i0 (o8 (qx_b (U6 rfl) a3F m_max (a7 a9 (a7 (qx_b (F8 rfl) a0E m_min (a7 (M3 a9 a9) (a7 (a0d (p7 (a8 2) (k6 g7 hr (a7 (a8 0) (a7 a9 b8)))) a9) b8))) b8))))) v4)
  (i0 (o8 (p7 a9 (k6 g7 hr (a7 (a8 0) (a7 (M3 a9 a9) b8)))))))))),?_⟩
 intro p k a ha1 ha2;have lp:∀p,lfC (poolD p)=true:=fun _=>rfl;have pw:CPow 10 12:=by decide
 have e12:(10:Int)^(12:Int).toNat=1000000000000:=by decide +kernel
 have e12':(10:Int)^12=1000000000000:=by decide +kernel
 rw[e12'];obtain⟨i2,q2,a2,x2⟩:=c9 p 2 (o7 (by decide) (by decide))
 obtain⟨i6,q6,a6,x6⟩:=c9 p 6 (o7 (by decide) (by decide))
 obtain⟨i3,q3,a3,x3⟩:=c9 p 3 (o7 (by decide) (by decide))
 obtain⟨i1,q1,a1,x1⟩:=c9 p 1000000000000 (o7 (by decide) (by decide +kernel))
 by_cases h0:k=0
 ·subst h0;refine⟨1+i2,q2,by walk_at "o",?_⟩
  repeat(first|walk_at "z r" | simp only[lp,x2])
 have z0:(k==0)=false:=by simpa using h0
 by_cases h1:k=1
 ·subst h1;refine⟨1+i6,q6,by walk_at "o",?_⟩
  repeat(first|walk_at "z r" | simp only[lp,z0,x6])
 have z1:(k==1)=false:=by simpa using h1
 by_cases h2:k=2
 ·subst h2;refine⟨if(if a+i3-1<1000000000000 then a+i3-1 else 1000000000000)>1 then(if a+i3-1<1000000000000 then a+i3-1 else 1000000000000) else 1,q3,by split<;>(try split)<;>walk_at "o",?_⟩
  repeat(first|walk_at "z r" | simp only[lp,z0,z1,pw,e12,x3])
 have z2:(k==2)=false:=by simpa using h2
 refine⟨1+i1,q1,by walk_at "o",?_⟩
 repeat(first|walk_at "z r" | simp only[lp,z0,z1,z2,pw,e12,x1])
def rwD (x:List Tie×List Int):D:=.tup [.tup (x.1.map tieD),.tup (x.2.map .int)]
theorem a9a (F:List (List Tie×List Int)):lfL (F.map rwD)=true:=t9 fun x hx=>by
 obtain⟨y,_,rfl⟩:=zG.mp hx;show lfL [D.tup (y.1.map tieD),.tup (y.2.map .int)]=true;have h1:lf (.tup (y.1.map tieD))=true:=t7 y.1;have h2:lf (.tup (y.2.map D.int))=true:=t4 y.2;simp only[lfL,h1,h2,Bool.and_self]
def fstW:D->D
 | .tup [x,_]=>x
 | d=>d
theorem a4Y (F:List (List Tie×List Int)):((F.map rwD).filter fun _=>true).map fstW=(F.map (·.1)).map fun m=>.tup (m.map tieD):=by
 rw[m7,qC,qC];rfl
def RwOk (ts:List Tie):Prop:=∀i,(mtF (ts.take i)).length<=40320
abbrev C8:Stmt:=top 15
theorem G3:FnScope ["people","ties","found","tie","some","held"] ["people","ties"] (defScope C8):=by walk_at "c"
def C7 (g:LO):Prop:=∀(n:Int) (ts:List Tie),ts.length<=100->RwOk ts->(∀t∈ts,t.1<t.2.1)->g [.int n,.tup (ts.map tieD)]=some (.o (.lst ((rowsM ts).map fun m=>.tup (m.map tieD))))
theorem U9 (J0:mg "list"=none)(F:Fun K "_law_pairs_of" "_law_pairs_of" C8 f fd)(B:Binds K fd ["people","ties"] [])(hm:mg "_law_pairs_of"=some (.ref f)):∃g,Fn P w K mg base "_law_pairs_of" (k+1) g/\C7 g:=by
 have nd:=G3.nd
 refine⟨_,O7 F G3 B hm rfl rfl (fun cdv A outer s H E hr=>(g5 (j9 2 nd (A9 (a7 (w8 (a7 (w8 b8) (a7 (w8 b8) b8))) b8)))
  (g5 (D0 qP rfl (D8 (a8 1)) (j0 3 nd) (i0 (D0 qP rfl (D8 (a57 rfl J0 (a7 (a8 2) b8))) (V8 rfl (u4 (j0 4 nd) (u4 (j0 5 nd) N2))) (i0 (E7 (a30 (a3p (N7 hr (n9 hr (a8 3) a9) (a8 5)) (a19 (N7 hr (n9 hr (a8 3) a9) (a8 5))))) (i0 (O0 (X1 (a8 2) (a7 (w8 (a7 (a4k (a8 4) (w8 (a7 (a8 3) b8))) (a7 (a4k (a8 5) (Z3 (a8 3) a1M (a1S a9))) b8))) b8)))) v4)))))
  (i0 (o8 (v5 (N:=["some","held"]) (js:=[none,none]) (li:=none) rfl (t5 (by exact(.own (.own .nil))) rfl (by exact trivial) (by rfl)) (B7 2) (fun _ _ _ _=>(V8 rfl (u4 (j0 0 (show((["some","held"]:List Str)++[accN]).Nodup by decide +kernel)) (u4 (j0 1 (show((["some","held"]:List Str)++[accN]).Nodup by decide +kernel)) N2)))) (fun _ _ _ _=>t8) (fun _ _ _ _=>(a8 0)))))))),?_⟩
 intro n ts h100 hr ht;walk_at "q";generalize el:loopF _ _ _=r;refine z4 el (fun i ρ=>∃x3 x4 x5:Option D,ρ=[some (.v (.int n)),some (.v (.tup (ts.map tieD))),some (.o (.lst ((mtF (ts.take i)).map rwD))),x3.map .v,x4.map .v,x5.map .v]) ⟨none,none,none,rfl⟩ ?_ ?_
 ·rintro i x _ hx ⟨x3,x4,x5,rfl⟩;rw[qH] at hx;cases hk:ts[i]? with
  | none=>rw[hk] at hx;cases hx
  | some t=>
   rw[hk] at hx;cases hx;have et:ts.take (i+1)=ts.take i++[t]:=by rw[vC,hk];rfl
   have lm:=hr i;have yb:∀y∈mtF (ts.take i),y.1.length<=100/\y.2.length<=200:=fun y hy=>by
    obtain⟨b1,b2,_⟩:=a0t (fun u hu=>ht u (yD hu)) y hy;have b3:=b2.length_le;rw[qK] at b3
    have:∀m:List Tie,(hld m).length=2*m.length:=fun m=>by
     induction m with
     | nil=>rfl
     | cons a m ih=>show(key2 a++hld m).length=_;rw[zH,ih,qB];simp[key2];walk_at "o"
    rw[b1,this];walk_at "o"
   rw[et,S4];generalize mtF (ts.take i)=F at lm yb;have lF:=a9a F
   repeat(first|walk_at "z r" | simp only[lF])
   generalize el2:loopF _ _ _=r2;refine z4 el2 (fun j ρ=>∃x4 x5:Option D,ρ=[some (.v (.int n)),some (.v (.tup (ts.map tieD))),some (.o (.lst ((F++((F.take j).filter fun x=>decide (t.1∉x.2)&&decide (t.2.1∉x.2)).map fun x=>(x.1++[t],x.2++[t.1,t.2.1])).map rwD))),some (.v (tieD t)),x4.map .v,x5.map .v]) ⟨x4,x5,by simp⟩ ?_ ?_
   ·rintro j x _ hx ⟨x4,x5,rfl⟩;rw[qH] at hx;cases hy:F[j]? with
    | none=>rw[hy] at hx;cases hx
    | some y=>
     rw[hy] at hx;cases hx;have ej:F.take (j+1)=F.take j++[y]:=by rw[vC,hy];rfl
     have g1:=a1t (b:=true) (n:=t.1) (m8 y.2);have g2:=a1t (b:=true) (n:=t.2.1) (m8 y.2);rw[nb_t] at g1 g2;have lt:(F++((F.take j).filter fun x=>decide (t.1∉x.2)&&decide (t.2.1∉x.2)).map fun x=>(x.1++[t],x.2++[t.1,t.2.1])).length<1000000:=by
      rw[zH,zB]
      have:=jT (fun x:List Tie×List Int=>decide (t.1∉x.2)&&decide (t.2.1∉x.2)) (F.take j)
      rw[qK] at this;walk_at "o"
     have l1:lfL (y.1.map tieD)=true:=t7 y.1;have l2:=t4 y.2
     by_cases c:t.1∉y.2/\t.2.1∉y.2
     ·refine⟨_,?_,some (.tup (y.1.map tieD)),some (.tup (y.2.map .int)),rfl⟩;have ek:F++((F.take (j+1)).filter fun x=>decide (t.1∉x.2)&&decide (t.2.1∉x.2)).map (fun x=>(x.1++[t],x.2++[t.1,t.2.1]))=(F++((F.take j).filter fun x=>decide (t.1∉x.2)&&decide (t.2.1∉x.2)).map fun x=>(x.1++[t],x.2++[t.1,t.2.1]))++[(y.1++[t],y.2++[t.1,t.2.1])]:=by
       rw[ej,filter_append,yP (by simpa using c),filter_nil,qF,qU];rfl
      rw[ek];generalize (F++((F.take j).filter fun x=>decide (t.1∉x.2)&&decide (t.2.1∉x.2)).map fun x=>(x.1++[t],x.2++[t.1,t.2.1]))=Y at lt;rw[show(Y++[(y.1++[t],y.2++[t.1,t.2.1])]).map rwD=Y.map rwD++[.tup [.tup (y.1.map tieD++[tieD t]),.tup (y.2.map .int++[.int t.1,.int t.2.1])]] by rw[qF];unfold rwD;simp]
      have d1:decide (t.1∈y.2)=false:=qM c.1;have d2:decide (t.2.1∈y.2)=false:=qM c.2;rw[d1] at g1;rw[d2] at g2;rw[show tieD t= .tup [.int t.1,.int t.2.1,.int t.2.2] from rfl];unfold rwD;have yl:=yb y (xE hy);have a1:oAddE (.tup (y.1.map tieD)) (.tup [.tup [.int t.1,.int t.2.1,.int t.2.2]])=some (.v (.tup (y.1.map tieD++[.tup [.int t.1,.int t.2.1,.int t.2.2]]))):=a6h (by rw[zB];show y.1.length+1<=_;walk_at "o")
      have a2:oAddE (.tup (y.2.map .int)) (.tup [.int t.1,.int t.2.1])=some (.v (.tup (y.2.map .int++[.int t.1,.int t.2.1]))):=a6h (by rw[zB];show y.2.length+2<=_;walk_at "o")
      have l3:lfL (y.1.map tieD++[.tup [.int t.1,.int t.2.1,.int t.2.2]])=true:=by
       have:lfL ((y.1++[t]).map tieD)=true:=t7 (y.1++[t])
       rwa [qF] at this
      have l4:lfL (y.2.map D.int++[.int t.1,.int t.2.1])=true:=by
       have:=t4 (y.2++[t.1,t.2.1])
       rwa [qF] at this
      repeat(first|walk_at "z r" | simp only[g1,g2,a1s,lt,zB,l1,l2,a1,a2,l3,l4])
     ·refine⟨_,?_,some (.tup (y.1.map tieD)),some (.tup (y.2.map .int)),rfl⟩;have ek:F++((F.take (j+1)).filter fun x=>decide (t.1∉x.2)&&decide (t.2.1∉x.2)).map (fun x=>(x.1++[t],x.2++[t.1,t.2.1]))=F++((F.take j).filter fun x=>decide (t.1∉x.2)&&decide (t.2.1∉x.2)).map fun x=>(x.1++[t],x.2++[t.1,t.2.1]):=by
       rw[ej,filter_append,yQ (by simpa using c),filter_nil,jZ]
      rw[ek];generalize (F++((F.take j).filter fun x=>decide (t.1∉x.2)&&decide (t.2.1∉x.2)).map fun x=>(x.1++[t],x.2++[t.1,t.2.1]))=Y at lt;rw[show tieD t= .tup [.int t.1,.int t.2.1,.int t.2.2] from rfl];unfold rwD
      by_cases c1:t.1∈y.2
      ·rw[qO c1] at g1
       repeat(first|walk_at "z r" | simp only[g1,g2,a1s,lt,zB])
      ·have c2:t.2.1∈y.2:=Decidable.byContradiction fun z=>c ⟨c1,z⟩;rw[qM c1] at g1;rw[qO c2] at g2
       repeat(first|walk_at "z r" | simp only[g1,g2,a1s,lt,zB])
   ·rintro _ rfl ⟨x4,x5,rfl⟩;rw[zB,jY];exact⟨_,rfl,some (tieD t),x4,x5,rfl⟩
 ·rintro _ rfl ⟨x3,x4,x5,rfl⟩;rw[zB,jY];have l0:=a9a (mtF ts);have rn:(mtF ts).length<=40320:=by have:=hr ts.length;rwa [jY] at this
  unfold rowsM;have lq:lfL (((mtF ts).map (·.1)).map fun m=>D.tup (m.map tieD))=true:=t9 fun x hx=>by
   obtain⟨y,_,rfl⟩:=zG.mp hx;exact t7 y
  walk_at "q";rw[n6 (ρ1:=[some (.v (.int n)),some (.v (.tup (ts.map tieD))),some (.o (.lst ((mtF ts).map rwD))),x3.map .v,x4.map .v,x5.map .v]) (xs:=(mtF ts).map rwD) (fun B=>∃o1 o2:Option D,B=[o1.map .v,o2.map .v]) (fun _=>true) fstW]
  ·rw[a4Y]
   repeat(first|walk_at "z r" | simp only[lq])
  ·repeat(first|walk_at "z r" | simp only[l0])
  ·rintro _ ⟨_,_,rfl⟩;rfl
  ·exact⟨none,none,rfl⟩
  ·rw[zB];unfold lim;walk_at "o"
  ·rw[a4Y];exact lq
  ·rintro x hx _ zs ⟨o1,o2,rfl⟩;obtain⟨y,_,rfl⟩:=zG.mp hx;refine⟨[some (.v (.tup (y.1.map tieD))),some (.v (.tup (y.2.map .int)))],.v (.tup (y.1.map tieD)),⟨some _,some _,rfl⟩,?_,rfl,fun _=>⟨?_,.inl rfl⟩⟩
   ·unfold rwD;walk_at "q"
   ·walk_at "q"
def thrd:D->D
 | .tup [_,_,c]=>c
 | d=>d
theorem L8 (m:List Tie):((m.map tieD).filter fun _=>true).map thrd=(m.map fun t=>t.2.2).map D.int:=by
 rw[m7,qC,qC];rfl
def sumT:D->D
 | .tup xs=>match intsOf (xs.map thrd) with
  | some ns=>.int ns.sum
  | none=>.non
 | d=>d
theorem a3a (m:List Tie):sumT (.tup (m.map tieD))= .int (sumM m):=by
 have:=L8 m
 rw[m7] at this;unfold sumT;dsimp only;rw[this,m8];rfl
theorem a2e (ms:List (List Tie)):((ms.map fun m=>D.tup (m.map tieD)).filter fun _=>true).map sumT=(ms.map sumM).map D.int:=by
 rw[m7,qC,qC];exact qS fun m _=>a3a m
abbrev B0:Stmt:=top 16
theorem E8:FnScope ["web"] ["web"] (defScope B0):=by walk_at "c"
def F0 (g:LO):Prop:=∀(n:Int) (ts:List Tie),ts.length<=100->RwOk ts->(∀t∈ts,t.1<t.2.1)->g [webD n ts]=some (.v (.int (maxI ((rowsM ts).map sumM))))
theorem P8 {p9:LO}(q8:Fn P w K mg base "_law_pairs_of" k p9)(p8:C7 p9)(m_max:mg "max"=none)(m_sum:mg "sum"=none)(F:Fun K "_law_most_worth" "_law_most_worth" B0 f fd)(B:Binds K fd ["web"] [])(hm:mg "_law_most_worth"=some (.ref f)):∃g,Fn P w K mg base "_law_most_worth" (k+1) g/\F0 g:=by
 have nd:=E8.nd;refine⟨_,O7 F E8 B hm rfl rfl (fun cdv A outer s H E hr=>(i0 (o8 (qx_b (a0S rfl) a48 m_max (a7 (v5 (N:=["some"]) (js:=[none]) (li:=none) rfl (t5 (by exact(.own .nil)) rfl (by exact trivial) (by rfl)) (E6 (D8 (C3 q8 hr (a7 (n9 hr (a8 0) a9) (a7 (n9 hr (a8 0) a9) b8))))) (fun _ _ _ _=>(j0 0 (show((["some"]:List Str)++[accN]).Nodup by decide +kernel))) (fun _ _ _ _=>t8) (fun _ _ _ _=>(qx_b ((X3 rfl).or (V5 rfl)) a16 m_sum (a7 (v5 (N:=["tie"]) (js:=[none]) (li:=none) rfl (t5 (by exact(.own .nil)) rfl (by exact trivial) (by rfl)) (B7 0) (fun _ _ _ _=>(j0 0 (show((["tie"]:List Str)++[accN]).Nodup by decide +kernel))) (fun _ _ _ _=>t8) (fun _ _ _ _=>(n9 hr (a8 0) a9))) b8)))) b8))))),?_⟩
 intro n ts h100 hr ht;have e1:=p8 n ts h100 hr ht;have rn:(rowsM ts).length<=40320:=by
  have:=hr ts.length
  rw[jY] at this;unfold rowsM;rw[zB];exact this
 have sl:∀m∈rowsM ts,m.length<=100:=fun m hm=>by
  obtain⟨x,hx,rfl⟩:=zG.mp hm;exact zQ (a0t ht x hx).2.1.length_le h100
 have pos:0<((rowsM ts).map sumM).length:=by
  have:([]:List Tie)∈rowsM ts:=zG.mpr ⟨([],hld []),a3u (List.nil_sublist _) .nil,rfl⟩
  rw[zB];exact yZ this
 have om:=a6D pos;generalize rowsM ts=R at e1 rn sl pos om;have lR:lfL (R.map fun m=>D.tup (m.map tieD))=true:=t9 fun x hx=>by
  obtain⟨y,_,rfl⟩:=zG.mp hx;exact t7 y
 have ln:=t4 (R.map sumM);have lw:=X2 n ts;have lt:lf (.tup (ts.map tieD))=true:=t7 ts;unfold webD at lw ⊢
 repeat(first|walk_at "z r" | simp only[e1])
 rw[n6 (ρ1:=[some (.v (.tup [.int n,.tup (ts.map tieD)]))]) (xs:=R.map fun m=>D.tup (m.map tieD)) (fun B=>∃o:Option D,B=[o.map .v]) (fun _=>true) sumT]
 ·rw[a2e]
  repeat(first|walk_at "z r" | simp only[ln,om])
 ·repeat(first|walk_at "z r" | simp only[e1,lt,lR])
 ·rintro _ ⟨_,rfl⟩;rfl
 ·exact⟨none,rfl⟩
 ·rw[zB];unfold lim;walk_at "o"
 ·rw[a2e];exact ln
 ·rintro x hx _ zs ⟨o,rfl⟩;obtain⟨m,hm,rfl⟩:=zG.mp hx;have s1:=sl m hm;have lm:lf (.tup (m.map tieD))=true:=t7 m;have l3:=t4 (m.map fun t=>t.2.2);refine⟨[some (.v (.tup (m.map tieD)))],.v (sumT (.tup (m.map tieD))),⟨some _,rfl⟩,?_,rfl,fun _=>⟨?_,.inl rfl⟩⟩
  ·walk_at "q"
  ·rw[a3a];walk_at "q";rw[n6 (ρ1:=some (.v (.tup (m.map tieD)))::acc zs) (xs:=m.map tieD) (fun B=>∃o:Option D,B=[o.map .v]) (fun _=>true) thrd]
   ·rw[L8];have os:=a3v (m8 (m.map fun t=>t.2.2))
    repeat(first|walk_at "z r" | simp only[l3,os])
    rfl
   ·repeat(first|walk_at "z r" | simp only[lm])
   ·rintro _ ⟨_,rfl⟩;rfl
   ·exact⟨none,rfl⟩
   ·rw[zB];unfold lim;walk_at "o"
   ·rw[L8];exact l3
   ·rintro x hx _ zs ⟨o,rfl⟩;obtain⟨t,_,rfl⟩:=zG.mp hx;refine⟨[some (.v (tieD t))],.v (.int t.2.2),⟨some _,rfl⟩,?_,rfl,fun _=>⟨?_,.inl rfl⟩⟩
    ·walk_at "q"
    ·rw[show tieD t= .tup [.int t.1,.int t.2.1,.int t.2.2] from rfl];walk_at "q"
theorem cutT (t:Tie):cutD [D.int t.1,.int t.2.1,.int t.2.2] none (some 2)=[D.int t.1,.int t.2.1]:=rfl
def cutH:D->D
 | .tup [a,b,_]=>.tup [a,b]
 | d=>d
theorem a2z (m:List Tie):((m.map tieD).filter fun _=>true).map cutH=(m.map key2).map tupI:=by
 rw[m7,qC,qC];rfl
abbrev hK (ks:List Int):D:=.dK (ks.map Sum.inl) (List.replicate ks.length (.bl true))
def notH (ks:List Int):D->Bool
 | .int x=>decide (x∉ks)
 | _=>false
theorem a4s (n:Int)(m:List Tie):((rngD 0 n.toNat).filter (notH (hld m))).map one1=(sgl n m).map tupI:=by
 unfold rngD sgl upI;rw[filter_map,qC,filter_map,qC,qC];have e:(notH (hld m)∘fun(i:Nat)=>D.int (0+(i:Int)))=((fun x=>decide (x∉hld m))∘fun(i:Nat)=>(i:Int)):=by
  funext i
  show decide _=decide _;rw[Int.zero_add]
 rw[e];refine qS fun i _=>?_;show D.tup [.int (0+(i:Int))]=_;rw[Int.zero_add];rfl
theorem b02 {ks:List Int}{v:Int}(h:v∉ks):putKs (ks.map (Sum.inl:Int->Key)) (.inl v)=(ks++[v]).map Sum.inl/\putX (ks.map (Sum.inl:Int->Key)) (List.replicate ks.length (D.bl true)) (.inl v) (.bl true)=List.replicate (ks++[v]).length (D.bl true):=by
 have h':(Sum.inl v:Key)∉ks.map (Sum.inl:Int->Key):=fun z=>by
  obtain⟨x,hx,e⟩:=zG.mp z;injection e with e
  exact h (e▸hx)
 unfold putKs putX;rw[if_neg h',if_neg h',qF,zH];exact⟨rfl,List.replicate_succ'.symm⟩
theorem a8Y {m:List Tie}(i:Nat)(nd:(hld m).Nodup):(hld (m.take i)).Nodup:=by
 rw[<-jQ i m] at nd;unfold hld at nd ⊢;rw[qF,List.flatten_append,qW] at nd;exact nd.1
theorem a8j (m:List Tie):(hld m).length=2*m.length:=by
 induction m with
 | nil=>rfl
 | cons a m ih=>show(key2 a++hld m).length=_;rw[zH,ih,qB];simp[key2];walk_at "o"
theorem lf_hK (ks:List Int):lfC (hK ks)=true:=by
 show lfL (List.replicate ks.length (D.bl true))=true;exact t9 fun x hx=>by rw[(List.mem_replicate.mp hx).2];rfl
abbrev A8:Stmt:=top 17
theorem E3:FnScope ["people","some","pairs","held","pair","person"] ["people","some"] (defScope A8):=by walk_at "c"
def E9 (g:LO):Prop:=∀(n:Int) (m:List Tie),0<=n->n<=8->m.length<=40->(hld m).Nodup->g [.int n,.tup (m.map tieD)]=some (.v (pairD (pof n m)))
theorem Q9 (D2:mg "tuple"=none)(v7:mg "sorted"=none)(j8:mg "range"=none)(F:Fun K "_law_pairing_of" "_law_pairing_of" A8 f fd)(B:Binds K fd ["people","some"] [])(hm:mg "_law_pairing_of"=some (.ref f)):∃g,Fn P w K mg base "_law_pairing_of" (k+1) g/\E9 g:=by
 have nd:=E3.nd
 refine⟨_,O7 F E3 B hm rfl rfl (fun cdv A outer s H E hr=>(g5 (T0 2 nd (K7 (N:=["tie"]) (js:=[none]) (li:=none) rfl (t5 (by exact(.own .nil)) rfl (by exact trivial) (by rfl)) (B7 1) (fun _ _ _ _=>(j0 0 (show((["tie"]:List Str)++[accN]).Nodup by decide +kernel))) (fun _ _ _ _=>t8) (fun _ _ _ _=>(Z3 (a8 0) a1M (a1S a9)))))
  (g5 (j9 3 nd a8g)
  (g5 (D0 qP rfl (D8 (a8 2)) (j0 4 nd) (i0 (D0 qP rfl (D8 (a8 4)) (j0 5 nd) (i0 (a7b hr (a8 3) (a8 5) a4M)))))
  (i0 (o8 (qx_t F4 a0p D2 (a7 (W3 hr rfl v7 (a7 (p7 (a8 2) (v5 (N:=["person","held"]) (js:=[none,some 3]) (li:=none) rfl (t5 (by exact(.own (.cap rfl rfl rfl rfl .nil))) rfl (by exact⟨rfl,trivial⟩) (by rfl)) (E6 (X6 j8 (a7 (a8 0) b8))) (fun _ _ _ _=>(j0 0 (show((["person","held"]:List Str)++[accN]).Nodup by decide +kernel))) (fun _ _ _ _=>(S8 rfl (N7 hr (a8 0) (a8 1)))) (fun _ _ _ _=>(w8 (a7 (a8 0) b8))))) b8)) b8)))))))),?_⟩
 intro n m hn0 hn8 hm nd;have lm:lf (.tup (m.map tieD))=true:=t7 m;have lk:=B4 (m.map key2);have rn:(-(2^62:Int)<=n/\n<2^62):=by walk_at "o"
 walk_at "q";rw[n6 (ρ1:=[some (.v (.int n)),some (.v (.tup (m.map tieD))),none,none,none,none]) (xs:=m.map tieD) (fun B=>∃o:Option D,B=[o.map .v]) (fun _=>true) cutH]
 ·rw[a2z]
  repeat(first|walk_at "z r" | simp only[lk])
  generalize el:loopF _ _ _=r;refine z4 el (fun i ρ=>∃x4 x5:Option D,ρ=[some (.v (.int n)),some (.v (.tup (m.map tieD))),some (.v (.lst ((m.map key2).map tupI))),some (.o (hK (hld (m.take i)))),x4.map .v,x5.map .v]) ⟨none,none,rfl⟩ ?_ ?_
  ·rintro i x _ hx ⟨x4,x5,rfl⟩;rw[qH,qH] at hx;cases hk:m[i]? with
   | none=>rw[hk] at hx;cases hx
   | some t=>
    rw[hk] at hx;cases hx;have et:m.take (i+1)=m.take i++[t]:=by rw[vC,hk];rfl
    have nd1:=a8Y (i+1) nd;have ll:=a8j (m.take i);rw[qK] at ll;rw[et,M2] at nd1;rw[et,M2];generalize hld (m.take i)=K at *;walk_at "q";rw[show tupI (key2 t)= .tup ([t.1,t.2.1].map D.int) from rfl]
    repeat(first|walk_at "z i" | simp only[it_t])
    generalize hab:[t.1,t.2.1]=ab at nd1 ⊢;have lab:ab.length=2:=by rw[<-hab];rfl
    generalize el2:loopF _ _ _=r2;refine z4 (xs:=ab.map D.int) (by simpa [<-hab] using el2) (fun j ρ=>∃x5:Option D,ρ=[some (.v (.int n)),some (.v (.tup (m.map tieD))),some (.v (.lst ((m.map key2).map tupI))),some (.o (hK (K++ab.take j))),some (.v (.tup (ab.map .int))),x5.map .v]) ⟨x5,by simp[<-hab]⟩ ?_ ?_
    ·rintro j x _ hx ⟨x5,rfl⟩;rw[qH] at hx;cases hv:ab[j]? with
     | none=>rw[hv] at hx;cases hx
     | some v=>
      rw[hv] at hx;cases hx;have ej:ab.take (j+1)=ab.take j++[v]:=by rw[vC,hv];rfl
      have vn:v∉K++ab.take j:=fun z=>by
       rw[<-jQ (j+1) ab,ej,<-qU,<-qU,qW] at nd1;exact(qW.mp nd1.1).2.2 v z v (by simp) rfl
      obtain⟨p1,p2⟩:=b02 vn;have lk6:((K++ab.take j).map (Sum.inl:Int->Key)).length<1000000:=by
       rw[zB,zH,qK];walk_at "o"
      refine⟨_,?_,some (.int v),rfl⟩;rw[ej,<-qU]
      repeat(first|walk_at "z r" | simp only[r_ek,r_ek2,r_ek3,r_ek4,r_ek5,r_ek6,lk6,p1,p2])
    ·rintro _ rfl ⟨x5,rfl⟩;refine⟨_,rfl,some (.tup (ab.map .int)),x5,?_⟩;rw[zB,jY];rfl
  ·rintro _ rfl ⟨x4,x5,rfl⟩;rw[zB,zB,jY];have hq:=lf_hK (hld m)
   have so:=Y5 (ks:=m.map key2++sgl n m) (by
    have:=(E5 n m)
    rw[zH,zB]
    have:(sgl n m).length<=8:=by
     unfold sgl;rw[zB];refine zQ (jT _ _) ?_;rw[D6];walk_at "o"
    walk_at "o") (fun k hk=>by
     rcases qE.mp hk with z|z
     ·obtain⟨t,_,rfl⟩:=zG.mp z;unfold key2;simp
     ·have:=Z0 _ z;intro e;rw[e] at this;cases this)
   rw[qF] at so;have ls:=B4 (pof n m);have sl:(sgl n m).length<=8:=by
     unfold sgl;rw[zB];refine zQ (jT _ _) ?_;rw[D6];walk_at "o"
   walk_at "q";rw[n6 (ρ1:=[some (.v (.int n)),some (.v (.tup (m.map tieD))),some (.v (.lst ((m.map key2).map tupI))),some (.o (hK (hld m))),x4.map .v,x5.map .v]) (xs:=rngD 0 n.toNat) (fun B=>∃o:Option D,B=[o.map .v,some (.v (hK (hld m)))]) (notH (hld m)) one1]
   ·rw[a4s];have l5:m.length+(sgl n m).length<=1000000:=by walk_at "o"
    have l6:lfL ((m.map key2).map tupI++(sgl n m).map tupI)=true:=by
     have:=B4 (m.map key2++sgl n m)
     rwa [qF] at this
    unfold pairD pof;unfold pof at ls
    repeat(first|walk_at "z r" | simp only[zB,l5,l6,so,ls])
   ·repeat(first|walk_at "z r" | simp only[rn])
   ·rintro _ ⟨_,rfl⟩;rfl
   ·exact⟨none,rfl⟩
   ·rw[z3];unfold lim;walk_at "o"
   ·rw[a4s];exact B4 _
   ·rintro x hx _ zs ⟨o,rfl⟩;obtain⟨v,rfl,_⟩:=J2 hx;have gi:=b1k (b:=true) (d:=.int v) (kx:=.inl v) (kq:=(hld m).map Sum.inl) (xs:=List.replicate (hld m).length (.bl true)) rfl (by rw[zB,List.length_replicate])
    have mk:memK (Sum.inl v:Key) ((hld m).map Sum.inl)=decide (v∈hld m):=by
     unfold memK;refine decide_eq_decide.mpr ⟨fun z=>?_,fun z=>List.mem_map_of_mem z⟩;obtain⟨y,hy,e⟩:=zG.mp z;injection e with e
     exact e▸hy
    rw[mk,nb_t] at gi;refine⟨[some (.v (.int v)),some (.v (hK (hld m)))],.v (.tup [.int v]),⟨some _,rfl⟩,?_,?_,fun _=>⟨?_,.inl rfl⟩⟩
    ·walk_at "q"
    ·rw[show notH (hld m) (.int v)= !decide (v∈hld m) by show decide (v∉hld m)=_;by_cases z:v∈hld m<;>simp[z]]
     repeat(first|walk_at "z r" | simp only[gi])
    ·walk_at "q"
 ·repeat(first|walk_at "z r" | simp only[lm])
 ·rintro _ ⟨_,rfl⟩;rfl
 ·exact⟨none,rfl⟩
 ·rw[zB];unfold lim;walk_at "o"
 ·rw[a2z];exact lk
 ·rintro x hx _ zs ⟨o,rfl⟩;obtain⟨t,_,rfl⟩:=zG.mp hx;refine⟨[some (.v (tieD t))],.v (.tup [.int t.1,.int t.2.1]),⟨some _,rfl⟩,?_,rfl,fun _=>⟨?_,.inl rfl⟩⟩
  ·walk_at "q"
  ·rw[show tieD t= .tup [.int t.1,.int t.2.1,.int t.2.2] from rfl]
   repeat(first|walk_at "z r" | simp only[cutT])
theorem X5 {α β:Type}(b:α->Bool)(F:α->List β):∀cs:List α,(cs.filter b).flatMap F=cs.flatMap fun c=>if b c=true then F c else[]
 | []=>rfl
 | c::cs=>by
  rw[yK,flatMap_cons,<-X5 b F cs]
  split
  ·rw[flatMap_cons]
  ·rw[nil_append]
theorem a0f {α β:Type}{F G:α->List β}:∀{cs:List α},(∀c∈cs,F c=G c)->cs.flatMap F=cs.flatMap G
 | [],_=>rfl
 | c::cs,h=>by rw[flatMap_cons,flatMap_cons,h c zM,a0f fun d hd=>h d (zL _ hd)]
theorem a6k {p:Int}{ps k:List Int}(h:Pty k):firstLast p ps k=true↔(k.head? =some p/\k.getLast? ∈ps.map some):=by
 unfold firstLast;rcases h with ⟨a,rfl⟩|⟨a,b,rfl,_⟩
 ·simp
 ·simp
theorem a2b {cs:List (List Int)}(hp:∀c∈cs,Pty c):∀(m:Nat) (ps:List Int) (f:Nat),ps.length<m->ps.length<=f->pAm cs m ps=prs cs f ps
 | 0,ps,f,h,_=>absurd h (Nat.not_lt_zero _)
 | m+1,[],f,_,_=>by rw[pAm];cases f<;>rfl
 | m+1,p::ps,0,_,h=>by simp at h
 | m+1,p::ps,f+1,h1,h2=>by
  rw[pAm,prs,X5];refine a0f fun c hc=>?_
  by_cases hb:firstLast p (p::ps) c=true
  ·have hh:=(a6k (hp c hc)).mp hb;rw[if_pos hb,if_pos hh];obtain⟨x,e1,e2⟩:=G2 (hp c hc);rw[hh.1] at e1;cases e1;have fl:=Q2 (P:=ps) e2;rw[qB] at h1 h2;rw[a2b hp m _ f (by walk_at "o") (by walk_at "o")]
  ·rw[if_neg hb,if_neg fun z=>hb ((a6k (hp c hc)).mpr z)]
theorem a8Z {n:Int}{ts:List Tie}(h:WebOk n ts)(i:Nat):WebOk n (ts.take i) where
 n1:=h.n1
 t:=fun t ht=>h.t t (yD ht)
 nd:=h.nd.sublist ((take_sublist i ts).map _)
 len:=by rw[qK];have:=h.len;walk_at "o"
theorem a29 {n:Int}{ts:List Tie}(h:WebOk n ts):(ts.map key2).Nodup:=by
 have:=h.nd
 rw[qX,jD] at this ⊢;exact this.imp fun{a b} x y=>x (by unfold key2 at y;simp at y;rw[y.1,y.2])
theorem a05 {n:Int}{ts:List Tie}(h:WebOk n ts):∀t∈ts,0<=t.1/\t.1<t.2.1/\t.2.1<n:=fun t ht=>⟨(h.t t ht).1,(h.t t ht).2.1,(h.t t ht).2.2.1⟩
theorem a7R {n:Int}{ts:List Tie}(h:WebOk n ts):(prsP n ts).length<=40320:=by
 unfold prsP;have hn:=h.n1;rw[<-a2b (a1K (a05 h)) 9 (upI n) n.toNat (by rw[D6];walk_at "o") (by rw[D6];exact zD _)]
 refine zQ (T5 (a4n h) _ _) ?_;rw[D6];exact zQ (M5 (show n.toNat<=8 by walk_at "o")) (by decide)
theorem rw_ok {n:Int}{ts:List Tie}(h:WebOk n ts):RwOk ts:=fun i=>by
 have hw:=a8Z h i
 have:=(U7 (a29 hw) (a05 hw)).length_eq
 unfold rowsM at this;rw[zB,zB] at this;rw[this];exact a7R hw
theorem b1e (n:Int):up n.toNat=upI n:=by
 unfold up upI;exact qS fun i _=>Int.zero_add _
theorem a70 {n:Int}{ts:List Tie}(h:WebOk n ts):allP n ts=prsP n ts:=by
 have hn:=h.n1;unfold allP prsP;rw[b1e];exact a2b (a1K (a05 h)) 9 (upI n) n.toNat (by rw[D6];walk_at "o") (by rw[D6];exact zD _)
theorem a7r {n:Int}{ts:List Tie}(h:WebOk n ts):bestP n ts=sortN (((rowsM ts).filter fun m=>decide (sumM m=maxI ((rowsM ts).map sumM))).map (pof n)):=by
 rw[a8N (a29 h) (a05 h)];have pos:0<((rowsM ts).map sumM).length:=by
  have:([]:List Tie)∈rowsM ts:=zG.mpr ⟨([],hld []),a3u (List.nil_sublist _) .nil,rfl⟩
  rw[zB];exact yZ this
 obtain⟨m1,m2⟩:=a67 pos;have wm:=a8P (a29 h) (a05 h);have eM:maxI ((rowsM ts).map sumM)=maxI ((prsP n ts).map (wthP ts)):=a4E ((wm _).mpr m1) fun a ha=>m2 a ((wm a).mp ha);unfold bestP;rw[eM,a70 h];refine filter_congr fun q _=>?_;show(wthP ts q==maxI ((prsP n ts).map (wthP ts)))=decide (wthP ts q=maxI ((prsP n ts).map (wthP ts)));rfl
structure Tg (n:Int) (i:Int) (ts:List Tie):Prop where
 t:∀t∈ts,(0<=t.1/\t.1<t.2.1/\t.2.1<n)/\t.1<i/\1<=t.2.2/\t.2.2<=10^13
 nd:(ts.map fun t=>(t.1,t.2.1)).Nodup
theorem twoAt {a0 a1:Int}{i:Int}(h0:0<=i)(h2:i<2):∃s:Int,atI [D.int a0,.int a1] i=some (.int s)/\(s=a0\/s=a1):=by
 have hc:i=0\/i=1:=by walk_at "o"
 rcases hc with rfl|rfl
 ·exact⟨a0,a_0,.inl rfl⟩
 ·exact⟨a1,a_1,.inr rfl⟩
theorem thrAt {a0 a1 a2:Int}{i:Int}(h0:0<=i)(h2:i<3):∃s:Int,atI [D.int a0,.int a1,.int a2] i=some (.int s)/\(s=a0\/s=a1\/s=a2):=by
 have hc:i=0\/i=1\/i=2:=by walk_at "o"
 rcases hc with rfl|rfl|rfl
 ·exact⟨a0,a_0,.inl rfl⟩
 ·exact⟨a1,a_1,.inr (.inl rfl)⟩
 ·exact⟨a2,a_2,.inr (.inr rfl)⟩
abbrev C4:Stmt:=top 18
theorem G1:FnScope ["pool","people","gain","rare","ties","a","b"] ["pool"] (defScope C4):=by walk_at "c"
def J7 (g:LL):Prop:=∀p:Int,∃(n q:Int) (ts:List Tie),WebOk n ts/\ts.length<=28/\g (poolD p) []=some (.v (webD n ts),poolD q)
theorem W6 {j5:LL}(g7:FnL P w K mg base "_law_take" k j5)(c9:A2 j5)(j8:mg "range"=none)(D2:mg "tuple"=none)(m_int:mg "int"=none)(F:Fun K "_law_all_tied" "_law_all_tied" C4 f fd)(B:Binds K fd ["pool"] [])(hm:mg "_law_all_tied"=some (.ref f)):∃g,FnL P w K mg base "_law_all_tied" (k+1) g/\J7 g:=by
 have nd:=G1.nd
 refine⟨_,Z8 F G1 B hm rfl rfl (fun cdv A outer s H E hr=>(g5 (j9 1 nd (p7 a9 (k6 g7 hr (a7 (a8 0) (a7 a9 b8)))))
  (g5 (j9 2 nd (p7 a9 (k6 g7 hr (a7 (a8 0) (a7 (n9 hr (A9 (a7 a9 (a7 (a0d (M3 a9 a9) a9) b8))) (k6 g7 hr (a7 (a8 0) (a7 a9 b8)))) b8)))))
  (g5 (j9 3 nd (n9 hr (A9 (a7 a9 (a7 a9 (a7 a9 b8)))) (k6 g7 hr (a7 (a8 0) (a7 a9 b8)))))
  (g5 (j9 4 nd (A9 b8))
  (g5 (D0 qP rfl (X6 j8 (a7 (a8 1) b8)) (j0 5 nd) (i0 (D0 qP rfl (b0k j8 (a7 (p7 (a8 5) a9) (a7 (a8 1) b8))) (j0 6 nd) (i0 (O0 (X1 (a8 4) (a7 (w8 (a7 (a8 5) (a7 (a8 6) (a7 (a0d (a8 2) (qx_t a5j b1n m_int (a7 (b0z (qx_gt (a8 3) a9) (b1c (qx_eq hr (k6 g7 hr (a7 (a8 0) (a7 (a8 3) b8))) a9))) b8))) b8)))) b8)))))))
  (i0 (o8 (w8 (a7 (a8 1) (a7 (qx_t F4 a0p D2 (a7 (a8 4) b8)) b8))))))))))),?_⟩
 intro p;have lp:∀p,lfC (poolD p)=true:=fun _=>rfl;have pw:CPow 10 12:=by decide
 have e12:(10:Int)^(12:Int).toNat=1000000000000:=by decide +kernel
 obtain⟨i1,p1,a1,x1⟩:=c9 p 3 (o7 (by decide) (by decide))
 obtain⟨i2,p2,a2,x2⟩:=c9 p1 2 (o7 (by decide) (by decide))
 obtain⟨m,am,hm⟩:=twoAt (a0:=3) (a1:=1000000000000-2) a2.1 a2.2;obtain⟨i3,p3,a3,x3⟩:=c9 p2 m ⟨by walk_at "o",by rcases hm with rfl|rfl<;>decide +kernel⟩
 obtain⟨i4,p4,a4,x4⟩:=c9 p3 3 (o7 (by decide) (by decide))
 obtain⟨r,ar,hr⟩:=thrAt (a0:=1) (a1:=1) (a2:=9) a4.1 a4.2;obtain⟨n,hn,hn2⟩:∃n:Int,6+i1=n/\6<=n/\n<=8:=⟨_,rfl,by walk_at "o"⟩
 obtain⟨G,hG,hG2⟩:∃G:Int,2+i3=G/\2<=G/\G<=10^13:=⟨_,rfl,by walk_at "o"⟩
 have rn:(-(2^62:Int)<=n/\n<2^62):=by walk_at "o"
 refine⟨n,?_⟩
 repeat(first|walk_at "z i" | simp only[lp,pw,e12,x1,x2,am,x3,x4,ar,hn,hG,rn])
 repeat(first|walk_at "z r" | simp only[lp,pw,e12,x1,x2,am,x3,x4,ar,hn,hG,rn])
 generalize el:loopF _ _ _=rr;refine z4 el (fun i ρ=>∃(q:Int) (ts:List Tie) (o5 o6:Option D),ρ=[some (.l (poolD q)),some (.v (.int n)),some (.v (.int G)),some (.v (.int r)),some (.o (.lst (ts.map tieD))),o5.map .v,o6.map .v]/\Tg n i ts/\2*ts.length+(8-i)*(7-i)<=56/\i<=n.toNat) ⟨p4,[],none,none,rfl,⟨fun _ h=>(nomatch h),.nil⟩,by decide,qL _⟩ ?_ ?_
 ·rintro i x _ hx ⟨q,ts,o5,o6,rfl,tg,hl,hi⟩;obtain⟨rfl,hi'⟩:=R1 hx;have ra:(-(2^62:Int)<=0+(i:Int)+1/\0+(i:Int)+1<2^62)/\-(2^62:Int)<=n/\n<2^62:=by walk_at "o"
  repeat(first|walk_at "z r" | simp only[ra])
  generalize el2:loopF _ _ _=r2;refine z4 el2 (fun j ρ=>∃(q:Int) (us:List Tie) (o6:Option D),ρ=[some (.l (poolD q)),some (.v (.int n)),some (.v (.int G)),some (.v (.int r)),some (.o (.lst (us.map tieD))),some (.v (.int (0+(i:Int)))),o6.map .v]/\Tg n (i+1:Nat) us/\(∀t∈us,t.1=(i:Int)->t.2.1<i+1+j)/\us.length<=ts.length+j/\j<=n.toNat-(i+1)) ⟨q,ts,o6,rfl,⟨fun t ht=>?_,tg.nd⟩,fun t ht e=>?_,Nat.le_add_right _ _,qL _⟩ ?_ ?_
  ·obtain⟨h1,h2,h3⟩:=tg.t t ht;exact⟨h1,by walk_at "o",h3⟩
  ·have:=(tg.t t ht).2.1
   walk_at "o"
  ·rintro j x _ hx ⟨q,us,o6,rfl,tu,hb,hl2,hj⟩;obtain⟨rfl,hj'⟩:=R1 hx;obtain⟨i5,q5,a5,x5⟩:=c9 q r ⟨by walk_at "o",by rcases hr with rfl|rfl|rfl<;>decide +kernel⟩
   have lt:us.length<1000000:=by have:=hl;walk_at "o"
   have add:∀c:Int,0<=c->c<=1->Tg n (i+1:Nat) (us++[((i:Int),(i:Int)+1+j,G-c)])/\(∀t∈us++[((i:Int),(i:Int)+1+j,G-c)],t.1=(i:Int)->t.2.1<i+1+(j+1:Nat)):=fun c c0 c1=>by
    refine⟨⟨fun t ht=>?_,?_⟩,fun t ht e=>?_⟩
    ·rcases qE.mp ht with z|z
     ·exact tu.t t z
     ·rw[zN.mp z];refine⟨⟨by walk_at "o",?_,?_⟩,?_,?_,?_⟩
      ·show(i:Int)<i+1+j;walk_at "o"
      ·show(i:Int)+1+j<n;walk_at "o"
      ·show(i:Int)<(i+1:Nat);walk_at "o"
      ·show 1<=G-c;walk_at "o"
      ·show G-c<=10^13;walk_at "o"
    ·rw[qF,qW];refine⟨tu.nd,by simp,fun x hx y hy z=>?_⟩
     subst z;have hy:=zN.mp hy;obtain⟨t,ht,e⟩:=zG.mp hx;rw[hy] at e;simp at e
     have:=hb t ht e.1
     walk_at "o"
    ·rcases qE.mp ht with z|z
     ·have:=hb t z e;walk_at "o"
     ·rw[zN.mp z];show(i:Int)+1+j<_;walk_at "o"
   have eb:(0:Int)+(i:Int)=i:=Int.zero_add _;rw[eb]
   by_cases hr1:r=1
   ·subst hr1;obtain⟨g1,g2⟩:=add 0 (by walk_at "o") (by walk_at "o")
    refine⟨_,?_,q,us++[((i:Int),(i:Int)+1+j,G-0)],some (.int ((i:Int)+1+j)),rfl,g1,g2,by rw[zH];simp;walk_at "o",by walk_at "o"⟩
    rw[qF,show([((i:Int),(i:Int)+1+(j:Int),G-0)]:List Tie).map tieD=[.tup [.int i,.int ((i:Int)+1+j),.int (G-0)]] from rfl];have c11:decide ((1:Int)<1)=false:=by decide
    have gi:gInt (.bl false)=some (.v (.int 0)):=rfl
    repeat(first|walk_at "z r" | simp only[lp,lt,zB,c11,gi])
   ·have hr9:r=9:=by walk_at "o"
    subst hr9;have c19:decide ((1:Int)<9)=true:=by decide
    have gi:gInt (.bl false)=some (.v (.int 0)):=rfl;have gi2:gInt (.bl true)=some (.v (.int 1)):=rfl
    by_cases h5:i5=1
    ·obtain⟨g1,g2⟩:=add 1 (by walk_at "o") (by walk_at "o")
     have z5:(i5==1)=true:=by simpa using h5
     refine⟨_,?_,q5,us++[((i:Int),(i:Int)+1+j,G-1)],some (.int ((i:Int)+1+j)),rfl,g1,g2,by rw[zH];simp;walk_at "o",by walk_at "o"⟩
     rw[qF,show([((i:Int),(i:Int)+1+(j:Int),G-1)]:List Tie).map tieD=[.tup [.int i,.int ((i:Int)+1+j),.int (G-1)]] from rfl]
     repeat(first|walk_at "z r" | simp only[lp,lt,zB,c19,gi2,x5,z5])
    ·obtain⟨g1,g2⟩:=add 0 (by walk_at "o") (by walk_at "o")
     have z5:(i5==1)=false:=by simpa using h5
     refine⟨_,?_,q5,us++[((i:Int),(i:Int)+1+j,G-0)],some (.int ((i:Int)+1+j)),rfl,g1,g2,by rw[zH];simp;walk_at "o",by walk_at "o"⟩
     rw[qF,show([((i:Int),(i:Int)+1+(j:Int),G-0)]:List Tie).map tieD=[.tup [.int i,.int ((i:Int)+1+j),.int (G-0)]] from rfl]
     repeat(first|walk_at "z r" | simp only[lp,lt,zB,c19,gi,x5,z5])
  ·rintro _ rfl ⟨q,us,o6,rfl,tu,hb,hl2,hj⟩;have lr:(rngD (0+(i:Int)+1) (n-(0+(i:Int)+1)).toNat).length=n.toNat-(i+1):=by rw[z3];walk_at "o"
   refine⟨_,rfl,q,us,some (.int (0+(i:Int))),o6,rfl,tu,?_,by walk_at "o"⟩
   have hi8:i<8:=by walk_at "o"
   have hc:i=0\/i=1\/i=2\/i=3\/i=4\/i=5\/i=6\/i=7:=by walk_at "o"
   rw[lr] at hl2;rcases hc with rfl|rfl|rfl|rfl|rfl|rfl|rfl|rfl<;>walk_at "o"
 ·rintro _ rfl ⟨q,ts,o5,o6,rfl,tg,hl,hi⟩;rw[z3] at hl tg;have l28:ts.length<=28:=by walk_at "o"
  refine⟨q,ts,⟨by walk_at "o",fun t ht=>?_,tg.nd,by walk_at "o"⟩,l28,?_⟩
  ·obtain⟨h1,h2,h3⟩:=tg.t t ht;exact⟨h1.1,h1.2.1,h1.2.2,by walk_at "o"⟩
  ·have lt:=t7 ts;unfold webD
   repeat(first|walk_at "z r" | simp only[lp,lt])
def prD (x:Int×Int):D:=.tup [.int x.1,.int x.2]
theorem z9 (l:List (Int×Int)):lfL (l.map prD)=true:=t9 fun x hx=>by obtain⟨y,_,rfl⟩:=zG.mp hx;rfl
def Pl (n:Int) (l:List (Int×Int)):Prop:=∀x∈l,(0<=x.1/\x.1<n)/\0<=x.2/\x.2<n
theorem fourL {i:Int}(h0:0<=i)(h:i<4):∃s:Int,atI [D.int 3,.int 3,.int 5,.int 7] i=some (.int s)/\3<=s/\s<=7:=by
 have hc:i=0\/i=1\/i=2\/i=3:=by walk_at "o"
 rcases hc with rfl|rfl|rfl|rfl
 ·exact⟨3,a_0,by walk_at "o"⟩
 ·exact⟨3,a_1,by walk_at "o"⟩
 ·exact⟨5,a_2,by walk_at "o"⟩
 ·exact⟨7,a_3,by walk_at "o"⟩
def ringH (r:Int):D->D
 | .int k=>.tup [.int k,.int ((k+1)%r)]
 | d=>d
theorem a2T (r:Int)(m:Nat):((rngD 0 m).filter fun _=>true).map (ringH r)=(((List.range m).map fun(i:Nat)=>(((0:Int)+i),((0:Int)+i+1)%r)):List (Int×Int)).map prD:=by
 rw[m7];unfold rngD;rw[qC,qC];rfl
abbrev L7:Stmt:=top 13
theorem T1:FnScope ["pool","people","shape","found","ring","a","turn"] ["pool","people","shape"] (defScope L7):=by walk_at "c"
def Y6 (g:LL):Prop:=∀p n s:Int,1<=n->n<=8->0<=s->s<4->∃(l:List (Int×Int)) (q:Int),Pl n l/\l.length<=40/\g (poolD p) [.int n,.int s]=some (.o (.lst (l.map prD)),poolD q)
theorem a1X {j5:LL}(g7:FnL P w K mg base "_law_take" k j5)(c9:A2 j5)(j8:mg "range"=none)(m_min:mg "min"=none)(F:Fun K "_law_twos" "_law_twos" L7 f fd)(B:Binds K fd ["pool","people","shape"] [])(hm:mg "_law_twos"=some (.ref f)):∃g,FnL P w K mg base "_law_twos" (k+1) g/\Y6 g:=by
 have nd:=T1.nd
 refine⟨_,Z8 F T1 B hm rfl rfl (fun cdv A outer s H E hr=>(g5 (j9 3 nd (A9 b8))
  (g5 (E7 (M8 hr (a8 2) a9) (g5 (j9 4 nd (qx_b (F8 rfl) a0E m_min (a7 (a8 1) (a7 (n9 hr (A9 (a7 a9 (a7 a9 (a7 a9 (a7 a9 b8))))) (k6 g7 hr (a7 (a8 0) (a7 a9 b8)))) b8))))
  (i0 (j9 3 nd (p7 (v5 (N:=["k","ring"]) (js:=[none,some 4]) (li:=none) rfl (t5 (by exact(.own (.cap rfl rfl rfl rfl .nil))) rfl (by exact⟨rfl,trivial⟩) (by rfl)) (E6 (X6 j8 (a7 (a8 4) b8))) (fun _ _ _ _=>(j0 0 (show((["k","ring"]:List Str)++[accN]).Nodup by decide +kernel))) (fun _ _ _ _=>t8) (fun _ _ _ _=>(w8 (a7 (a8 0) (a7 (Q7 (p7 (a8 0) a9) (a8 1)) b8))))) (v5 (N:=["k","pool"]) (js:=[none,some 0]) (li:=some (1,0)) rfl (t5 (by exact(.own (.cap rfl rfl rfl rfl .nil))) rfl (by exact⟨rfl,trivial⟩) (by rfl)) (E6 (b0k j8 (a7 (a8 4) (a7 (a8 1) b8)))) (fun _ _ _ _=>(j0 0 (show((["k","pool"]:List Str)++[accN]).Nodup by decide +kernel))) (fun _ _ _ _=>t8) (fun _ _ _ _=>(w8 (a7 (k6 g7 hr (a7 (a8 1) (a7 (a8 0) b8))) (a7 (a8 0) b8))))))))) v4)
  (g5 (E7 (M8 hr (a8 2) a9) (i0 (D0 qP rfl (a9n j8 (a7 a9 (a7 (a8 1) (a7 a9 b8)))) (j0 5 nd) (i0 (O0 (a07 (a8 3) (a7 (v5 (N:=["b","a","pool"]) (js:=[none,some 5,some 0]) (li:=some (2,0)) rfl (t5 (by exact(.own (.cap rfl rfl rfl rfl (.cap rfl rfl rfl rfl .nil)))) rfl (by exact⟨rfl,⟨rfl,trivial⟩⟩) (by rfl)) (E6 (a9n j8 (a7 a9 (a7 (a8 1) (a7 a9 b8))))) (fun _ _ _ _=>(j0 0 (show((["b","a","pool"]:List Str)++[accN]).Nodup by decide +kernel))) (fun _ _ _ _=>(S8 rfl (qt_gt (k6 g7 hr (a7 (a8 2) (a7 a9 b8))) a9))) (fun _ _ _ _=>(w8 (a7 (a8 1) (a7 (a8 0) b8))))) b8)))))) v4)
  (g5 (E7 (M8 hr (a8 2) a9) (i0 (T0 3 nd (K7 (N:=["k","pool"]) (js:=[none,some 0]) (li:=some (1,0)) rfl (t5 (by exact(.own (.cap rfl rfl rfl rfl .nil))) rfl (by exact⟨rfl,trivial⟩) (by rfl)) (E6 (X6 j8 (a7 (a0d (a8 1) a9) b8))) (fun _ _ _ _=>(j0 0 (show((["k","pool"]:List Str)++[accN]).Nodup by decide +kernel))) (fun _ _ _ _=>t8) (fun _ _ _ _=>(w8 (a7 (k6 g7 hr (a7 (a8 1) (a7 (p7 a9 (n9 hr (A9 (a7 a9 (a7 (a8 0) b8))) (k6 g7 hr (a7 (a8 1) (a7 a9 b8))))) b8))) (a7 (p7 (a8 0) a9) b8))))))) v4)
  (g5 (D0 qP rfl (X6 j8 (a7 (k6 g7 hr (a7 (a8 0) (a7 (n9 hr (A9 (a7 a9 (a7 a9 (a7 a9 (a7 a9 b8))))) (a8 2)) b8))) b8)) (j0 6 nd) (i0 (O0 (X1 (a8 3) (a7 (w8 (a7 (k6 g7 hr (a7 (a8 0) (a7 (a8 1) b8))) (a7 (k6 g7 hr (a7 (a8 0) (a7 (a8 1) b8))) b8))) b8)))))
  (i0 (o8 (a8 3))))))))),?_⟩
 intro p n s n1 n8 s0 s4;have lp:∀p,lfC (poolD p)=true:=fun _=>rfl;have dn:dOk n:=⟨by walk_at "o",by have:n.natAbs<2^8:=(by walk_at "o");exact zJ this (jV (by decide) (by decide))⟩
 have rn:(-(2^62:Int)<=n/\n<2^62):=by walk_at "o"
 have hs:s=3\/s=0\/s=1\/s=2:=by walk_at "o"
 rcases hs with rfl|rfl|rfl|rfl
 case inl=>
  have z0:((3:Int)==0)=false:=by decide
  have z1:((3:Int)==1)=false:=by decide
  have z2:((3:Int)==2)=false:=by decide
  have a3:atI [D.int 4,.int 2,.int 3,.int 10] 3=some (.int 10):=a_3;obtain⟨c,q,hc,x⟩:=c9 p 10 (o7 (by decide) (by decide))
  have rc:(-(2^62:Int)<=c/\c<2^62):=by walk_at "o"
  repeat(first|walk_at "z r" | simp only[lp,z0,z1,z2,a3,x,rc])
  generalize el:loopF _ _ _=r;refine z4 el (fun i ρ=>∃(q:Int) (l:List (Int×Int)) (y4 y5 o6:Option D),ρ=[some (.l (poolD q)),some (.v (.int n)),some (.v _),some (.o (.lst (l.map prD))),y4.map .v,y5.map .v,o6.map .v]/\Pl n l/\l.length<=0+i) ⟨_,[],none,none,none,rfl,(fun _ h=>(nomatch h)),(qL _)⟩ ?_ ?_
  ·rintro i x _ hx ⟨q,l,y4,y5,o6,rfl,pl,hl⟩;obtain⟨rfl,hi⟩:=R1 hx;obtain⟨j1,q1,b1,w1⟩:=c9 q n dn;obtain⟨j2,q2,b2,w2⟩:=c9 q1 n dn;have lt:l.length<1000000:=by walk_at "o"
   refine⟨_,?_,q2,l++[(j1,j2)],y4,y5,some (.int (0+(i:Int))),rfl,fun z hz=>?_,by rw[zH];simp;walk_at "o"⟩
   ·rw[qF,show([(j1,j2)]:List (Int×Int)).map prD=[.tup [.int j1,.int j2]] from rfl]
    repeat(first|walk_at "z r" | simp only[lp,w1,w2,lt,zB])
   ·rcases qE.mp hz with z1|z1
    ·exact pl z z1
    ·rw[zN.mp z1];exact⟨b1,b2⟩
  ·rintro _ rfl ⟨q,l,y4,y5,o6,rfl,pl,hl⟩;rw[z3] at hl;have ll:=z9 l;refine⟨l,q,pl,by walk_at "o",?_⟩
   repeat(first|walk_at "z r" | simp only[lp,ll])
 case inr.inl=>
  have z1:((0:Int)==1)=false:=by decide
  have z2:((0:Int)==2)=false:=by decide
  have a3:atI [D.int 4,.int 2,.int 3,.int 10] 0=some (.int 4):=a_0;obtain⟨i1,p1,h1,x1⟩:=c9 p 4 (o7 (by decide) (by decide))
  obtain⟨m,am,hm⟩:=fourL h1.1 h1.2;obtain⟨R,eR,hR⟩:∃R:Int,(if m<n then m else n)=R/\1<=R/\R<=n:=⟨_,rfl,by split<;>walk_at "o",by split<;>walk_at "o"⟩
  have rR:(-(2^62:Int)<=R/\R<2^62):=by walk_at "o"
  repeat(first|walk_at "z r" | simp only[lp,x1,am,eR])
  rw[n6 (ρ1:=[some (.l (poolD p1)),some (.v (.int n)),some (.v (.int 0)),some (.o (.lst [])),some (.v (.int R)),none,none]) (xs:=rngD 0 R.toNat) (fun B=>∃o:Option D,B=[o.map .v,some (.v (.int R))]) (fun _=>true) (ringH R)]
  ·rw[a2T];have pr:Pl n ((List.range R.toNat).map fun(i:Nat)=>(((0:Int)+i),((0:Int)+i+1)%R)):=fun z hz=>by
    obtain⟨k,hk,rfl⟩:=zG.mp hz
    have:=xO.mp hk
    have m1:=Int.emod_nonneg ((0:Int)+k+1) (show R≠0 by walk_at "o")
    have m2:=Int.emod_lt_of_pos ((0:Int)+k+1) (show 0<R by walk_at "o")
    exact⟨⟨by show(0:Int)<=0+k;walk_at "o",by show(0:Int)+k<n;walk_at "o"⟩,m1,by show _<n;walk_at "o"⟩
   have pl0:((List.range R.toNat).map fun(i:Nat)=>(((0:Int)+i),((0:Int)+i+1)%R)).length<=8:=by rw[zB,yC];walk_at "o"
   generalize ((List.range R.toNat).map fun(i:Nat)=>(((0:Int)+i),((0:Int)+i+1)%R))=L0 at pr pl0;have l0:=z9 L0;have rR2:(-(2^62:Int)<=R/\R<2^62)/\-(2^62:Int)<=n/\n<2^62:=⟨rR,rn⟩
   repeat(first|walk_at "z r" | simp only[l0])
   generalize ec:fComp _ _ _ _ _ _ _=rcc;refine U8 ec (fun d B zs=>∃(o:Option D) (m:Int) (l:List (Int×Int)),B=[o.map .v,some (.l (poolD m))]/\zs=l.map prD/\l.length=d.length/\Pl n l) (xs:=rngD R (n-R).toNat) (ρ1:=[some (.l (poolD p1)),some (.v (.int n)),some (.v (.int 0)),some (.o (.lst [])),some (.v (.int R)),none,none]) ?_ ?_ ?_ ?_ ?_ ?_ ?_ ?_
   ·repeat(first|walk_at "z r" | simp only[rR2])
   ·rw[z3];unfold lim;walk_at "o"
   ·rfl
   ·rintro d _ _ ⟨_,_,_,rfl,_⟩;rfl
   ·exact⟨none,p1,[],rfl,rfl,rfl,fun _ h=>(nomatch h)⟩
   ·rintro d x _ _ hx ⟨o,m,l,rfl,rfl,hb,pl⟩ hl;obtain⟨k,rfl,hk⟩:=J2 hx;obtain⟨j2,q2,b2,w2⟩:=c9 m k ⟨by walk_at "o",by have:k.natAbs<2^8:=(by walk_at "o");exact zJ this (jV (by decide) (by decide))⟩
    rw[zB] at hl;unfold lim at hl;refine⟨[some (.v (.int k)),some (.l (poolD q2))],(l++[(j2,k)]).map prD,?_,⟨some _,q2,l++[(j2,k)],rfl,rfl,?_,fun z hz=>?_⟩,?_⟩
    ·rw[qF,show([(j2,k)]:List (Int×Int)).map prD=[.tup [.int j2,.int k]] from rfl]
     repeat(first|walk_at "z r" | simp only[lp,w2,zB,hl])
    ·rw[zH,zH,hb];rfl
    ·rcases qE.mp hz with z1|z1
     ·exact pl z z1
     ·rw[zN.mp z1];exact⟨⟨b2.1,by show j2<n;walk_at "o"⟩,by show 0<=k;walk_at "o",by show k<n;walk_at "o"⟩
    ·rw[zB,zB,zH];exact zD _
   ·rintro _ _ ⟨o,m,l,rfl,rfl,_⟩;exact⟨z9 l,_,rfl,rfl⟩
   rintro _ _ cc ⟨o,m,l,rfl,rfl,hb,pl⟩ hc rfl;cases hc;rw[z3] at hb;have ll:=z9 l;have la:=z9 (L0++l);obtain⟨c,q,hc,x⟩:=c9 m 4 (o7 (by decide) (by decide))
   have rc:(-(2^62:Int)<=c/\c<2^62):=by walk_at "o"
   have l9:L0.length+l.length<=1000000:=by walk_at "o"
   rw[qF] at la
   repeat(first|walk_at "z r" | simp only[lp,ll,la,l9,zB,a3,x,rc,z1,z2])
   rw[<-qF];generalize el:loopF _ _ _=r;refine z4 el (fun i ρ=>∃(q:Int) (l:List (Int×Int)) (y4 y5 o6:Option D),ρ=[some (.l (poolD q)),some (.v (.int n)),some (.v _),some (.o (.lst (l.map prD))),y4.map .v,y5.map .v,o6.map .v]/\Pl n l/\l.length<=16+i) ⟨_,(L0++l),(some (.int R)),none,none,rfl,(fun z hz=>(qE.mp hz).elim (pr z) (pl z)),(by rw[zH];walk_at "o")⟩ ?_ ?_
   ·rintro i x _ hx ⟨q,l,y4,y5,o6,rfl,pl,hl⟩;obtain⟨rfl,hi⟩:=R1 hx;obtain⟨j1,q1,b1,w1⟩:=c9 q n dn;obtain⟨j2,q2,b2,w2⟩:=c9 q1 n dn;have lt:l.length<1000000:=by walk_at "o"
    refine⟨_,?_,q2,l++[(j1,j2)],y4,y5,some (.int (0+(i:Int))),rfl,fun z hz=>?_,by rw[zH];simp;walk_at "o"⟩
    ·rw[qF,show([(j1,j2)]:List (Int×Int)).map prD=[.tup [.int j1,.int j2]] from rfl]
     repeat(first|walk_at "z r" | simp only[lp,w1,w2,lt,zB])
    ·rcases qE.mp hz with z1|z1
     ·exact pl z z1
     ·rw[zN.mp z1];exact⟨b1,b2⟩
   ·rintro _ rfl ⟨q,l,y4,y5,o6,rfl,pl,hl⟩;rw[z3] at hl;have ll:=z9 l;refine⟨l,q,pl,by walk_at "o",?_⟩
    repeat(first|walk_at "z r" | simp only[lp,ll])
  ·repeat(first|walk_at "z r" | simp only[rR])
  ·rintro _ ⟨_,rfl⟩;rfl
  ·exact⟨none,rfl⟩
  ·rw[z3];unfold lim;walk_at "o"
  ·rw[a2T];exact z9 _
  ·rintro x hx _ zs ⟨o,rfl⟩;obtain⟨k,rfl,_⟩:=J2 hx;have R0:0<R:=by walk_at "o"
   refine⟨[some (.v (.int k)),some (.v (.int R))],.v (.tup [.int k,.int ((k+1)%R)]),⟨some _,rfl⟩,?_,rfl,fun _=>⟨?_,.inl rfl⟩⟩
   ·walk_at "q"
   ·repeat(first|walk_at "z r" | simp only[R0])
 case inr.inr.inl=>
  have z0:((1:Int)==0)=false:=by decide
  have z2:((1:Int)==2)=false:=by decide
  have a3:atI [D.int 4,.int 2,.int 3,.int 10] 1=some (.int 2):=a_1;have c61:(-(2^61:Int)<=0/\(0:Int)<2^61)/\-(2^61:Int)<=n/\n<2^61:=by walk_at "o"
  have c61':(-(2^61:Int)<=1/\(1:Int)<2^61)/\-(2^61:Int)<=n/\n<2^61:=by walk_at "o"
  repeat(first|walk_at "z r" | simp only[lp,z0,z2,r_tr,a9G c61])
  generalize el0:loopF _ _ _=r0;refine z4 el0 (fun i ρ=>∃(q:Int) (l:List (Int×Int)) (o5:Option D),ρ=[some (.l (poolD q)),some (.v (.int n)),some (.v (.int 1)),some (.o (.lst (l.map prD))),none,o5.map .v,none]/\Pl n l/\l.length<=4*i/\i<=4) ⟨p,[],none,rfl,fun _ h=>(nomatch h),qL _,qL _⟩ ?_ ?_
  ·rintro i x _ hx ⟨q,l,o5,rfl,pl,hl,hi4⟩;have hx':i<((n-0+1)/2).toNat/\x= .int (0+2*(i:Int)):=by
    unfold twoD at hx;rw[qH] at hx
    by_cases hi:i<((n-0+1)/2).toNat
    ·rw[vD hi] at hx;cases hx;exact⟨hi,rfl⟩
    ·rw[xB (by simpa using hi)] at hx;cases hx
   obtain⟨hi,rfl⟩:=hx';have l0:=z9 l
   repeat(first|walk_at "z r" | simp only[lp,l0])
   generalize ec:fComp _ _ _ _ _ _ _=rcc;refine U8 ec (fun d B zs=>∃(o:Option D) (m:Int) (u:List (Int×Int)),B=[o.map .v,some (.v (.int (0+2*(i:Int)))),some (.l (poolD m))]/\zs=u.map prD/\u.length<=d.length/\Pl n u) (xs:=twoD 1 ((n-1+1)/2).toNat) (ρ1:=[some (.l (poolD q)),some (.v (.int n)),some (.v (.int 1)),some (.o (.lst (l.map prD))),none,some (.v (.int (0+2*(i:Int)))),none]) ?_ ?_ ?_ ?_ ?_ ?_ ?_ ?_
   ·repeat(first|walk_at "z r" | simp only[r_tr,a9G c61'])
   ·unfold twoD;rw[zB,yC];unfold lim;walk_at "o"
   ·rfl
   ·rintro d _ _ ⟨_,_,_,rfl,_⟩;rfl
   ·exact⟨none,q,[],rfl,rfl,qL _,fun _ h=>(nomatch h)⟩
   ·rintro d x _ _ hx ⟨o,m,u,rfl,rfl,hb,pu⟩ hlz;obtain⟨k,hk,rfl⟩:∃k:Int,(0<=k/\k<n)/\x= .int k:=by
     unfold twoD at hx;obtain⟨j,hj,rfl⟩:=zG.mp hx
     have:=xO.mp hj
     exact⟨1+2*j,by walk_at "o",rfl⟩
    obtain⟨j1,q1,b1,w1⟩:=c9 m 4 (o7 (by decide) (by decide))
    rw[zB] at hlz;unfold lim at hlz
    by_cases hj:0<j1
    ·have dj:decide (j1>0)=true:=qO hj;refine⟨[some (.v (.int k)),some (.v (.int (0+2*(i:Int)))),some (.l (poolD q1))],(u++[(0+2*(i:Int),k)]).map prD,?_,⟨some _,q1,u++[(0+2*(i:Int),k)],rfl,rfl,?_,fun z hz=>?_⟩,?_⟩
     ·rw[qF,show([(0+2*(i:Int),k)]:List (Int×Int)).map prD=[.tup [.int (0+2*(i:Int)),.int k]] from rfl]
      repeat(first|walk_at "z r" | simp only[lp,w1,dj,zB,hlz])
     ·rw[zH,zH];simp;walk_at "o"
     ·rcases qE.mp hz with y1|y1
      ·exact pu z y1
      ·rw[zN.mp y1];exact⟨⟨by show(0:Int)<=0+2*i;walk_at "o",by show(0:Int)+2*i<n;walk_at "o"⟩,hk⟩
     ·rw[zB,zB,zH];exact zD _
    ·have dj:decide (j1>0)=false:=qM hj;refine⟨[some (.v (.int k)),some (.v (.int (0+2*(i:Int)))),some (.l (poolD q1))],u.map prD,?_,⟨some _,q1,u,rfl,rfl,?_,pu⟩,Nat.le_succ _⟩
     ·repeat(first|walk_at "z r" | simp only[lp,w1,dj,zB,hlz])
     ·rw[zH];walk_at "o"
   ·rintro _ _ ⟨o,m,u,rfl,rfl,_⟩;exact⟨z9 u,_,rfl,rfl⟩
   rintro _ _ cc ⟨o,m,u,rfl,rfl,hb,pu⟩ hc rfl;cases hc;have l9:l.length+u.length<=1000000:=by
    unfold twoD at hb;rw[zB,yC] at hb;walk_at "o"
   have lu:=z9 u;refine⟨_,?_,m,l++u,some (.int (0+2*(i:Int))),rfl,fun z hz=>(qE.mp hz).elim (pl z) (pu z),?_,by walk_at "o"⟩
   ·rw[qF]
    repeat(first|walk_at "z r" | simp only[lp,lu,l9,zB])
   ·unfold twoD at hb;rw[zB,yC] at hb;rw[zH];walk_at "o"
  ·rintro _ rfl ⟨q0,l,o5,rfl,pl,hl,hi4⟩;have ll:=z9 l;obtain⟨c,q,hc,x⟩:=c9 q0 2 (o7 (by decide) (by decide))
   have rc:(-(2^62:Int)<=c/\c<2^62):=by walk_at "o"
   repeat(first|walk_at "z r" | simp only[lp,ll,a3,x,rc,z2])
   generalize el:loopF _ _ _=r;refine z4 el (fun i ρ=>∃(q:Int) (l:List (Int×Int)) (y4 y5 o6:Option D),ρ=[some (.l (poolD q)),some (.v (.int n)),some (.v _),some (.o (.lst (l.map prD))),y4.map .v,y5.map .v,o6.map .v]/\Pl n l/\l.length<=16+i) ⟨_,l,none,o5,none,rfl,pl,(by walk_at "o")⟩ ?_ ?_
   ·rintro i x _ hx ⟨q,l,y4,y5,o6,rfl,pl,hl⟩;obtain⟨rfl,hi⟩:=R1 hx;obtain⟨j1,q1,b1,w1⟩:=c9 q n dn;obtain⟨j2,q2,b2,w2⟩:=c9 q1 n dn;have lt:l.length<1000000:=by walk_at "o"
    refine⟨_,?_,q2,l++[(j1,j2)],y4,y5,some (.int (0+(i:Int))),rfl,fun z hz=>?_,by rw[zH];simp;walk_at "o"⟩
    ·rw[qF,show([(j1,j2)]:List (Int×Int)).map prD=[.tup [.int j1,.int j2]] from rfl]
     repeat(first|walk_at "z r" | simp only[lp,w1,w2,lt,zB])
    ·rcases qE.mp hz with z1|z1
     ·exact pl z z1
     ·rw[zN.mp z1];exact⟨b1,b2⟩
   ·rintro _ rfl ⟨q,l,y4,y5,o6,rfl,pl,hl⟩;rw[z3] at hl;have ll:=z9 l;refine⟨l,q,pl,by walk_at "o",?_⟩
    repeat(first|walk_at "z r" | simp only[lp,ll])
 case inr.inr.inr=>
  have z0:((2:Int)==0)=false:=by decide
  have z1:((2:Int)==1)=false:=by decide
  have a3:atI [D.int 4,.int 2,.int 3,.int 10] 2=some (.int 3):=a_2;have rn1:(-(2^62:Int)<=n-1/\n-1<2^62):=by walk_at "o"
  repeat(first|walk_at "z r" | simp only[lp,z0,z1])
  generalize ec:fComp _ _ _ _ _ _ _=rcc;refine U8 ec (fun d B zs=>∃(o:Option D) (m:Int) (l:List (Int×Int)),B=[o.map .v,some (.l (poolD m))]/\zs=l.map prD/\l.length=d.length/\Pl n l) (xs:=rngD 0 (n-1).toNat) (ρ1:=[some (.l (poolD p)),some (.v (.int n)),some (.v (.int 2)),some (.o (.lst [])),none,none,none]) ?_ ?_ ?_ ?_ ?_ ?_ ?_ ?_
  ·repeat(first|walk_at "z r" | simp only[rn1])
  ·rw[z3];unfold lim;walk_at "o"
  ·rfl
  ·rintro d _ _ ⟨_,_,_,rfl,_⟩;rfl
  ·exact⟨none,p,[],rfl,rfl,rfl,fun _ h=>(nomatch h)⟩
  ·rintro d x _ _ hx ⟨o,m,l,rfl,rfl,hb,pl⟩ hl;obtain⟨k,rfl,hk⟩:=J2 hx;obtain⟨j1,q1,b1,w1⟩:=c9 m 2 (o7 (by decide) (by decide))
   obtain⟨v,av,hv⟩:=twoAt (a0:=0) (a1:=k) b1.1 b1.2;obtain⟨j2,q2,b2,w2⟩:=c9 q1 (1+v) ⟨by walk_at "o",by have:(1+v).natAbs<2^8:=(by walk_at "o");exact zJ this (jV (by decide) (by decide))⟩
   rw[zB] at hl;unfold lim at hl;refine⟨[some (.v (.int k)),some (.l (poolD q2))],(l++[(j2,k+1)]).map prD,?_,⟨some _,q2,l++[(j2,k+1)],rfl,rfl,?_,fun z hz=>?_⟩,?_⟩
   ·rw[qF,show([(j2,k+1)]:List (Int×Int)).map prD=[.tup [.int j2,.int (k+1)]] from rfl]
    repeat(first|walk_at "z r" | simp only[lp,w1,av,w2,zB,hl])
   ·rw[zH,zH,hb];rfl
   ·rcases qE.mp hz with z1|z1
    ·exact pl z z1
    ·rw[zN.mp z1];exact⟨⟨b2.1,by show j2<n;walk_at "o"⟩,by show 0<=k+1;walk_at "o",by show k+1<n;walk_at "o"⟩
   ·rw[zB,zB,zH];exact zD _
  ·rintro _ _ ⟨o,m,l,rfl,rfl,_⟩;exact⟨z9 l,_,rfl,rfl⟩
  rintro _ _ cc ⟨o,m,l,rfl,rfl,hb,pl⟩ hc rfl;cases hc;rw[z3] at hb;have ll:=z9 l;obtain⟨c,q,hc,x⟩:=c9 m 3 (o7 (by decide) (by decide))
  have rc:(-(2^62:Int)<=c/\c<2^62):=by walk_at "o"
  repeat(first|walk_at "z r" | simp only[lp,ll,a3,x,rc])
  generalize el:loopF _ _ _=r;refine z4 el (fun i ρ=>∃(q:Int) (l:List (Int×Int)) (y4 y5 o6:Option D),ρ=[some (.l (poolD q)),some (.v (.int n)),some (.v _),some (.o (.lst (l.map prD))),y4.map .v,y5.map .v,o6.map .v]/\Pl n l/\l.length<=7+i) ⟨_,l,none,none,none,rfl,pl,(by walk_at "o")⟩ ?_ ?_
  ·rintro i x _ hx ⟨q,l,y4,y5,o6,rfl,pl,hl⟩;obtain⟨rfl,hi⟩:=R1 hx;obtain⟨j1,q1,b1,w1⟩:=c9 q n dn;obtain⟨j2,q2,b2,w2⟩:=c9 q1 n dn;have lt:l.length<1000000:=by walk_at "o"
   refine⟨_,?_,q2,l++[(j1,j2)],y4,y5,some (.int (0+(i:Int))),rfl,fun z hz=>?_,by rw[zH];simp;walk_at "o"⟩
   ·rw[qF,show([(j1,j2)]:List (Int×Int)).map prD=[.tup [.int j1,.int j2]] from rfl]
    repeat(first|walk_at "z r" | simp only[lp,w1,w2,lt,zB])
   ·rcases qE.mp hz with z1|z1
    ·exact pl z z1
    ·rw[zN.mp z1];exact⟨b1,b2⟩
  ·rintro _ rfl ⟨q,l,y4,y5,o6,rfl,pl,hl⟩;rw[z3] at hl;have ll:=z9 l;refine⟨l,q,pl,by walk_at "o",?_⟩
   repeat(first|walk_at "z r" | simp only[lp,ll])
def TkOk (n:Int) (ts:List Tie):Prop:=(∀t∈ts,0<=t.1/\t.1<t.2.1/\t.2.1<n/\1<=t.2.2/\t.2.2<=10^12)/\(ts.map fun t=>(t.1,t.2.1)).Nodup
theorem a2D {α β γ δ:Type}(f:β->γ->δ)(g:α->β)(h:α->γ):∀l:List α,List.zipWith f (l.map g) (l.map h)=l.map fun x=>f (g x) (h x)
 | []=>rfl
 | x::l=>by rw[zP,zP,yY,a2D f g h l,zP]
theorem b0u {n:Int}{ts:List Tie}{a b g:Int}(h:TkOk n ts)(ha:0<=a/\a<b/\b<n/\1<=g/\g<=10^12):∃ts',TkOk n ts'/\ts'.length<=ts.length+1/\putKs (ts.map tkK) [Sum.inl a,Sum.inl b]=ts'.map tkK/\putX (ts.map tkK) (ts.map fun t=>D.int t.2.2) [Sum.inl a,Sum.inl b] (.int g)=ts'.map fun t=>D.int t.2.2:=by
 by_cases hm:[Sum.inl a,Sum.inl b]∈ts.map tkK
 ·refine⟨ts.map fun t=>if tkK t=[Sum.inl a,Sum.inl b] then(t.1,t.2.1,g) else t,⟨fun t ht=>?_,?_⟩,by rw[zB];walk_at "o",?_,?_⟩
  ·obtain⟨t,ht',rfl⟩:=zG.mp ht
   have:=h.1 t ht'
   split
   ·exact⟨this.1,this.2.1,this.2.2.1,ha.2.2.2⟩
   ·exact this
  ·rw[qC];rw[show((fun t:Tie=>(t.1,t.2.1))∘fun t=>if tkK t=[Sum.inl a,Sum.inl b] then(t.1,t.2.1,g) else t)=fun t=>(t.1,t.2.1) from funext fun t=>by dsimp only[Function.comp];split<;>rfl]
   exact h.2
  ·unfold putKs;rw[if_pos hm,qC];refine qS fun t _=>?_;dsimp only[Function.comp]
   split<;>rfl
  ·unfold putX;rw[if_pos hm,a2D,qC];refine qS fun t _=>?_;dsimp only[Function.comp]
   split<;>rfl
 ·obtain⟨q1,q2⟩:=a4H (kl:=ts.map tkK) (xs:=ts.map fun t=>D.int t.2.2) (d:=.int g) hm;refine⟨ts++[(a,b,g)],⟨fun t ht=>?_,?_⟩,by rw[zH,length_singleton];walk_at "o",by rw[q1,qF];rfl,by rw[q2,qF];rfl⟩
  ·rcases qE.mp ht with ht|ht
   ·exact h.1 t ht
   ·rw[zN.mp ht];exact ha
  ·rw[qF,qW];refine⟨h.2,by simp,fun x hx y hy e=>?_⟩
   rw[zP,yL,zN] at hy;subst hy;obtain⟨t,ht,rfl⟩:=zG.mp hx;have e1:t.1=a:=congrArg Prod.fst e;have e2:t.2.1=b:=congrArg Prod.snd e;refine hm (zG.mpr ⟨t,ht,?_⟩);unfold tkK;rw[e1,e2]
def gT (ts:List Tie):D:=.dT (ts.map tkK) (ts.map fun t=>D.int t.2.2)
theorem b1v (ts:List Tie):ts.map tkK=(ts.map key2).map fun k=>k.map Sum.inl:=by rw[qC];rfl
theorem a8y {ts:List Tie}(hl:ts.length<64):gSort (gT ts)=some (.o (.lst ((sortK (ts.map key2)).map tupI))):=by
 show gSortT (gT ts)=_;have e:keysOf (gT ts)=some (ts.map key2):=by
  show inlKs (ts.map tkK)=_;rw[b1v,a08]
 unfold gSortT;rw[e];exact if_pos ⟨by rw[zB];exact hl,fun k hk=>by obtain⟨t,_,rfl⟩:=zG.mp hk;exact nofun⟩
def tieH (ts:List Tie):D->D
 | .tup ds=>match intsOf ds with
  | some k=>tieD (tieOf ts k)
  | none=>.non
 | _=>.non
theorem a20 (ts:List Tie)(k:List Int):tieH ts (tupI k)=tieD (tieOf ts k):=by unfold tieH tupI;simp only[m8]
theorem a2F (ts:List Tie):(((sortK (ts.map key2)).map tupI).filter fun _=>true).map (tieH ts)=(resort ts).map tieD:=by
 rw[m7,qC];unfold resort;rw[qC];apply qS;intro k _;exact a20 ts k
abbrev P3:Stmt:=top 14
theorem X7:FnScope ["pool","most","people","shape","kind","gain","gains_v","a","b"] ["pool","most"] (defScope P3):=by walk_at "c"
def a0b (g:LL):Prop:=∀p:Int,∃(n q:Int) (ts:List Tie),WebOk n ts/\ts.length<=40/\g (poolD p) [.int 8]=some (.v (webD n ts),poolD q)
theorem a2M {j5:LL}{K2:LL}{J9:LL}(g7:FnL P w K mg base "_law_take" k j5)(c9:A2 j5)(K1:FnL P w K mg base "_law_twos" k K2)(L5:Y6 K2)(K8:FnL P w K mg base "_law_gain" k J9)(K3:Y2 J9)(m_min:mg "min"=none)(D2:mg "tuple"=none)(m_max:mg "max"=none)(v7:mg "sorted"=none)(F:Fun K "_law_web" "_law_web" P3 f fd)(B:Binds K fd ["pool","most"] [])(hm:mg "_law_web"=some (.ref f)):∃g,FnL P w K mg base "_law_web" (k+1) g/\a0b g:=by
 have nd:=X7.nd
 refine⟨_,Z8 F X7 B hm rfl rfl (fun cdv A outer s H E hr=>(g5 (j9 2 nd (qx_b (F8 rfl) a0E m_min (a7 (a8 1) (a7 (n9 hr (A9 (a7 a9 (a7 a9 (a7 a9 (a7 a9 (a7 a9 (a7 a9 (a7 a9 (a7 a9 b8))))))))) (k6 g7 hr (a7 (a8 0) (a7 a9 b8)))) b8))))
  (g5 (j9 3 nd (k6 g7 hr (a7 (a8 0) (a7 a9 b8))))
  (g5 (j9 4 nd (k6 g7 hr (a7 (a8 0) (a7 a9 b8))))
  (g5 (j9 5 nd (n9 hr (A9 (a7 a9 (a7 a9 (a7 a9 (a7 (a0d (M3 a9 a9) a9) b8))))) (k6 g7 hr (a7 (a8 0) (a7 a9 b8)))))
  (g5 (j9 6 nd a6O)
  (g5 (D0 qP rfl (D8 (k6 K1 hr (a7 (a8 0) (a7 (a8 2) (a7 (a8 3) b8))))) (V8 rfl (u4 (j0 7 nd) (u4 (j0 8 nd) N2))) (g5 (j9 5 nd (k6 K8 hr (a7 (a8 0) (a7 (a8 4) (a7 (a8 5) b8)))))
  (i0 (E7 (a6J hr (a8 7) (a8 8)) (i0 (a58 hr (a8 6) (a7 (qx_b (F8 rfl) a0E m_min (a7 (a8 7) (a7 (a8 8) b8))) (a7 (qx_b (U6 rfl) a3F m_max (a7 (a8 7) (a7 (a8 8) b8))) b8)) (a8 5))) v4))))
  (i0 (o8 (w8 (a7 (a8 2) (a7 (qx_t F4 a0p D2 (a7 (v5 (N:=["two","gains_v"]) (js:=[none,some 6]) (li:=none) rfl (t5 (by exact(.own (.cap rfl rfl rfl rfl .nil))) rfl (by exact⟨rfl,trivial⟩) (by rfl)) (E6 (D8 (W3 hr rfl v7 (a7 (a8 6) b8)))) (fun _ _ _ _=>(j0 0 (show((["two","gains_v"]:List Str)++[accN]).Nodup by decide +kernel))) (fun _ _ _ _=>t8) (fun _ _ _ _=>(p7 (a8 0) (w8 (a7 (n9 hr (a8 1) (a8 0)) b8))))) b8)) b8)))))))))))),?_⟩
 intro p;have lp:∀p,lfC (poolD p)=true:=fun _=>rfl;have pw:CPow 10 12:=by decide
 have e12:(10:Int)^(12:Int).toNat=1000000000000:=by decide +kernel
 obtain⟨i1,p1,a1,x1⟩:=c9 p 8 (o7 (by decide) (by decide))
 obtain⟨m,am,hm⟩:=atL (xs:=[1,2,3,4,5,6,5,8]) a1.1 a1.2;have hm:1<=m/\m<=8:=by
  simp only[zS,yX,or_false] at hm;walk_at "o"
 obtain⟨n,en,hn⟩:∃n:Int,(if m<8 then m else 8)=n/\1<=n/\n<=8:=⟨_,rfl,by split<;>walk_at "o",by split<;>walk_at "o"⟩
 obtain⟨i2,p2,a2,x2⟩:=c9 p1 4 (o7 (by decide) (by decide))
 obtain⟨i3,p3,a3,x3⟩:=c9 p2 4 (o7 (by decide) (by decide))
 obtain⟨i4,p4,a4,x4⟩:=c9 p3 4 (o7 (by decide) (by decide))
 obtain⟨G,aG,hG⟩:=atL (xs:=[1,5,9,1000000000000-3]) a4.1 a4.2;have hG:1<=G/\G<=10^12:=by
  simp only[zS,yX,or_false] at hG;walk_at "o"
 simp only[zP,yL] at am aG;obtain⟨l,p5,pl,ll,x5⟩:=L5 p4 n i2 hn.1 hn.2 a2.1 a2.2;have lf:=z9 l;refine⟨n,?_⟩
 repeat(first|walk_at "z i" | simp only[lp,pw,e12,x1,am,en,x2,x3,x4,aG,x5,lf])
 repeat(first|walk_at "z r" | simp only[lp,pw,e12,x1,am,en,x2,x3,x4,aG,x5,lf])
 generalize el:loopF _ _ _=rr;refine z4 el (fun i ρ=>∃(q G:Int) (ts:List Tie) (o1 o2:Option D),ρ=[some (.l (poolD q)),some (.v _),some (.v (.int n)),some (.v (.int i2)),some (.v (.int i3)),some (.v (.int G)),some (.o (.dT (ts.map tkK) (ts.map fun t=>D.int t.2.2))),o1.map .v,o2.map .v]/\TkOk n ts/\ts.length<=i/\1<=G/\G<=10^12) ⟨p5,G,[],none,none,rfl,⟨(fun _ h=>by cases h),nodup_nil⟩,zD _,hG⟩ ?_ ?_
 ·rintro i x _ hx ⟨q,G,ts,o1,o2,rfl,hts,htl,g1,g2⟩;rw[qH] at hx;cases hp:l[i]? with
  | none=>rw[hp] at hx;cases hx
  | some pr=>
   rw[hp] at hx;cases hx;obtain⟨a,b⟩:=pr;have hab:=pl _ (xE hp);have hil:=(zO.mp hp).1;obtain⟨v,q1,hv,xg⟩:=K3 q i3 G (by walk_at "o") (by walk_at "o")
   rw[show prD (a,b)= .tup [.int a,.int b] from rfl];cases hne:(a==b) with
   | true=>
    refine⟨_,?_,q1,v,ts,some (.int a),some (.int b),rfl,hts,by walk_at "o",hv⟩
    repeat(first|walk_at "z r" | simp only[lp,xg,hne])
   | false=>
    have hab2:a≠b:=by simpa using hne
    obtain⟨ts',ht',hl',ek,ex⟩:=b0u (a:=if b<a then b else a) (b:=if b>a then b else a) hts ⟨by split<;>walk_at "o",by split<;>split<;>walk_at "o",by split<;>walk_at "o",hv⟩
    have klt:(ts.map tkK).length<1000000:=by rw[zB];walk_at "o"
    refine⟨_,?_,q1,v,ts',some (.int a),some (.int b),rfl,ht',by walk_at "o",hv⟩
    repeat(first|walk_at "z r" | simp only[lp,xg,hne,klt,ek,ex])
 ·rintro _ rfl ⟨q,G,ts,o1,o2,rfl,hts,htl,g1,g2⟩;rw[zB] at htl;have sg:=a8y (ts:=ts) (by walk_at "o")
  have ltk:=B4 (sortK (ts.map key2));have hw:WebOk n ts:=⟨hn,fun t ht=>by have:=hts.1 t ht;walk_at "o",hts.2,by walk_at "o"⟩
  have lr:(resort ts).length<=40:=by rw[(Y1 hw.nk).length_eq];walk_at "o"
  refine⟨q,resort ts,hw.perm (Y1 hw.nk),lr,?_⟩;rw[show D.dT (ts.map tkK) (ts.map fun t=>D.int t.2.2)=gT ts from rfl]
  repeat(first|walk_at "z i")
  rw[n6 (ρ1:=[some (.l (poolD q)),some (.v (.int 8)),some (.v (.int n)),some (.v (.int i2)),some (.v (.int i3)),some (.v (.int G)),some (.o (gT ts)),o1.map .v,o2.map .v]) (xs:=(sortK (ts.map key2)).map tupI) (fun B=>∃o1:Option D,B=[o1.map .v,some (.v (gT ts))]) (fun _=>true) (tieH ts)]
  ·rw[a2F]
   repeat(first|walk_at "z i" | simp only[lp])
   rfl
  ·repeat(first|walk_at "z r" | simp only[sg,ltk])
  ·rintro _ ⟨_,rfl⟩;rfl
  ·exact⟨none,rfl⟩
  ·rw[zB,(t6 _).length_eq,zB];unfold lim;walk_at "o"
  ·rw[a2F];exact t7 _
  ·rintro x hx _ zs ⟨o1,rfl⟩;obtain⟨k,hk,rfl⟩:=a2o hx;obtain⟨t,ht,rfl⟩:=zG.mp ((t6 _).mem_iff.mp hk);have lk:oIxG (gT ts) (tupI (key2 t))=some (.v (.int (gainOf ts (key2 t)))):=b0y (a3S (key2 t)) (O6 (zG.mpr ⟨t,ht,rfl⟩));rw[a20];have tk:tupI (key2 t)= .tup [.int t.1,.int t.2.1]:=rfl;rw[tk] at lk ⊢;refine⟨[some (.v (.tup [.int t.1,.int t.2.1])),some (.v (gT ts))],.v (tieD (tieOf ts (key2 t))),⟨some _,rfl⟩,?_,rfl,fun _=>⟨?_,.inl rfl⟩⟩
   ·walk_at "q"
   ·repeat(first|walk_at "z r" | simp only[lk])
    rfl
theorem b1F {n:Int}(hn:1<=n)(m:List Tie):pof n m≠[]:=fun e=>by
 have p:=(E5 n m).length_eq;rw[e,zH,zB,yI] at p;have m0:m=[]:=yA.mp (by walk_at "o")
 subst m0;have h:[0]∈sgl n []:=zG.mpr ⟨0,qJ.mpr ⟨zG.mpr ⟨0,xO.mpr (by walk_at "o"),rfl⟩,by decide⟩,rfl⟩
 have:=yZ h
 walk_at "o"
abbrev rwT (m:List Tie):D:=.tup (m.map tieD)
def hsM (M:Int):D->Bool:=fun x=>match sumT x with
 | .int s=>s==M
 | _=>false
theorem hs_m (M:Int)(m:List Tie):hsM M (rwT m)=(sumM m==M):=by
 unfold hsM;rw[a3a]
theorem a6E (M:Int)(R:List (List Tie)):((R.map rwT).filter (hsM M)).map (fun d=>d)=(R.filter fun m=>decide (sumM m=M)).map rwT:=by
 rw[List.map_id',filter_map];congr 1;refine filter_congr fun m _=>?_;show hsM M (rwT m)=_;rw[hs_m];exact(Bool.eq_iff_iff.mpr (by simp))
def pofT (n:Int):D->D
 | .tup xs=>pairD (pof n ((xs.filterMap fun d=>match d with|.tup [.int a,.int b,.int c]=>some (a,b,c)|_=>none)))
 | d=>d
theorem a9Y (n:Int)(m:List Tie):pofT n (rwT m)=pairD (pof n m):=by
 unfold pofT;dsimp only;congr 2;rw[List.filterMap_map]
 induction m with
 | nil=>rfl
 | cons t m ih=>rw[filterMap_cons];show t::_=_;rw[ih]
theorem a3Y (n:Int)(S:List (List Tie)):((S.map rwT).filter fun _=>true).map (pofT n)=(S.map (pof n)).map pairD:=by
 rw[m7,qC,qC];exact qS fun m _=>a9Y n m
theorem a7S (l:List (List (List Int))):lfL (l.map pairD)=true:=t9 fun x hx=>by
 obtain⟨p,_,rfl⟩:=zG.mp hx;exact B4 p
abbrev U2:Stmt:=top 19
theorem a66:FnScope ["script","at","pool","web","most","rows","due","found"] ["script"] (defScope U2):=by walk_at "c"
theorem b1j {K0:LO}{P5:LL}{B9:LO}{Q4:LO}{C9:LL}{j5:LL}{p9:LO}{C0:LO}(K4:Fn P w K mg base "_law_pool" k K0)(L9:X8 K0)(Q5:FnL P w K mg base "_law_web" k P5)(Q0:a0b P5)(A7:Fn P w K mg base "_law_most_worth" k B9)(A4:F0 B9)(G8:Fn P w K mg base "all_best" k Q4)(Q6:a0j Q4)(C6:FnL P w K mg base "_law_all_tied" k C9)(C5:J7 C9)(g7:FnL P w K mg base "_law_take" k j5)(c9:A2 j5)(q8:Fn P w K mg base "_law_pairs_of" k p9)(p8:C7 p9)(B3:Fn P w K mg base "_law_pairing_of" k C0)(B5:E9 C0)(j8:mg "range"=none)(m_max:mg "max"=none)(v7:mg "sorted"=none)(m_min:mg "min"=none)(m_len:mg "len"=none)(G7:mg "isinstance"=none)(J0:mg "list"=none)(m_sum:mg "sum"=none)(F:Fun K "law" "law" U2 f fd):FnOk P w K mg base CX0 (k+1) f fd ["script"] (spLaw K):=by
 have nd:=a66.nd
 refine b1A F a66 rfl rfl (fun cdv A outer s H E hr=>(g5 (D0 qP rfl (X6 j8 (a7 (qx_b (U6 rfl) a3F m_max (a7 a9 (a7 (qx_b (F8 rfl) a0E m_min (a7 (qx_b T6 a6e m_len (a7 (a8 0) b8)) (a7 a9 b8))) b8))) b8)) (j0 1 nd) (g5 (j9 2 nd (C3 K4 hr (a7 (a8 0) (a7 (a8 1) b8))))
  (g5 (j9 3 nd (k6 Q5 hr (a7 (a8 2) (a7 a9 b8))))
  (g5 (E7 (a30 (a3p (M8 hr (a8 1) a9) (a19 (M8 hr (k6 g7 hr (a7 (a8 2) (a7 a9 b8))) a9)))) (i0 (j9 3 nd (k6 C6 hr (a7 (a8 2) b8)))) v4)
  (g5 (j9 4 nd (C3 A7 hr (a7 (a8 3) b8)))
  (g5 (T0 5 nd (K7 (N:=["some","most"]) (js:=[none,some 4]) (li:=none) rfl (t5 (by exact(.own (.cap rfl rfl rfl rfl .nil))) rfl (by exact⟨rfl,trivial⟩) (by rfl)) (E6 (D8 (C3 q8 hr (a7 (n9 hr (a8 3) a9) (a7 (n9 hr (a8 3) a9) b8))))) (fun _ _ _ _=>(j0 0 (show((["some","most"]:List Str)++[accN]).Nodup by decide +kernel))) (fun _ _ _ _=>(S8 rfl (M8 hr (qx_b ((X3 rfl).or (V5 rfl)) a16 m_sum (a7 (v5 (N:=["tie"]) (js:=[none]) (li:=none) rfl (t5 (by exact(.own .nil)) rfl (by exact trivial) (by rfl)) (B7 0) (fun _ _ _ _=>(j0 0 (show((["tie"]:List Str)++[accN]).Nodup by decide +kernel))) (fun _ _ _ _=>t8) (fun _ _ _ _=>(n9 hr (a8 0) a9))) b8)) (a8 1)))) (fun _ _ _ _=>(a8 0))))
  (g5 (j9 6 nd (a3x hr v7 (a7 (v5 (N:=["some","web"]) (js:=[none,some 3]) (li:=none) rfl (t5 (by exact(.own (.cap rfl rfl rfl rfl .nil))) rfl (by exact⟨rfl,trivial⟩) (by rfl)) (B7 5) (fun _ _ _ _=>(j0 0 (show((["some","web"]:List Str)++[accN]).Nodup by decide +kernel))) (fun _ _ _ _=>t8) (fun _ _ _ _=>(C3 B3 hr (a7 (n9 hr (a8 1) a9) (a7 (a8 0) b8))))) b8)))
  (g5 (j9 7 nd (C3 G8 hr (a7 (a8 3) b8)))
  (g5 (E7 (a30 (qw_or (a7j (a7k (b0K (T:="list") (b1x (by decide)) G7 J0 (a8 7)))) (b1d (a6J hr (a8 7) (a8 6))))) (i0 (o8 a4M)) v4)
  (g5 (O0 (a6Z (a8 7)))
  (i0 (E7 (a6J hr (C3 G8 hr (a7 (a8 3) b8)) (a8 6)) (i0 (o8 a4M)) v4))))))))))))
  (i0 (o8 a4M)))) ?_
 intro ns hl;obtain⟨M,eM,hM⟩:∃M:Int,(if(if 4<(ns.length:Int) then 4 else(ns.length:Int))>1 then(if 4<(ns.length:Int) then 4 else(ns.length:Int)) else 1)=M/\1<=M/\M<=4:=⟨_,rfl,by split<;>(try split)<;>walk_at "o",by split<;>(try split)<;>walk_at "o"⟩
 have r1:((-(2^62:Int)<=0/\(0:Int)<2^62)/\-(2^62:Int)<=M/\M<2^62):=by walk_at "o"
 have ln:=t4 ns
 repeat(first|walk_at "z r" | simp only[zB,eM,r1])
 generalize el:loopF _ _ _=r;refine a5K el (fun _ ρ=>∃x1 x2 x3 x4 x5 x6 x7:Option W,ρ=[some (.v (.lst (ns.map .int))),x1,x2,x3,x4,x5,x6,x7]/\freeO x1=true/\freeO x2=true/\freeO x3=true/\freeO x4=true/\freeO x5=true/\freeO x6=true/\freeO x7=true) ⟨none,none,none,none,none,none,none,rfl,rfl,rfl,rfl,rfl,rfl,rfl,rfl⟩ ?_ ?_
 ·rintro d x _ hx _ ⟨x1,x2,x3,x4,x5,x6,x7,rfl,f1,f2,f3,f4,f5,f6,f7⟩;obtain⟨i,rfl,hi⟩:=J2 hx;obtain⟨p,e1⟩:=L9 ns i hl (by walk_at "o") (by walk_at "o")
  obtain⟨n0,q0,ts0,hw0,h400,e2⟩:=Q0 p;have lp:∀q,lfC (poolD q)=true:=fun q=>rfl;have lp':∀q,lfW (.o (poolD q))=true:=fun q=>rfl;have lw0:=X2 n0 ts0
  repeat(first|walk_at "z i" | simp only[f1,f2,f3,ln,e1,lp,lp',e2,lw0])
  generalize ei:fIfS _ _ _ _=rr;obtain⟨n,q,ts,hw,h40,rfl⟩:∃(n q:Int) (ts:List Tie),WebOk n ts/\ts.length<=40/\rr=some (.nx [some (.v (.lst (ns.map .int))),some (.v (.int i)),some (.o (poolD q)),some (.v (webD n ts)),x4,x5,x6,x7]):=by
   rw[<-ei]
   by_cases hi0:i=0
   ·subst hi0;obtain⟨j,q1,hj,e3⟩:=c9 q0 8 (o7 (by decide) (by decide))
    by_cases hj7:j=7
    ·subst hj7;obtain⟨n,q,ts,hw,h28,e4⟩:=C5 q1;refine⟨n,q,ts,hw,by walk_at "o",?_⟩
     have lw:=X2 n ts
     repeat(first|walk_at "z r" | simp only[lp,lp',e3,e4,lw,lw0])
    ·have z:(j==7)=false:=by simpa using hj7
     refine⟨n0,q1,ts0,hw0,h400,?_⟩
     repeat(first|walk_at "z r" | simp only[lp,lp',e3,z])
   ·have z:(i==0)=false:=by simpa using hi0
    refine⟨n0,q0,ts0,hw0,h400,?_⟩
    repeat(first|walk_at "z r" | simp only[lp,lp',z])
  have hlt:∀t∈ts,t.1<t.2.1:=fun t ht=>(a05 hw t ht).2.1;have hR:=rw_ok hw;have e5:=A4 n ts (by walk_at "o") hR hlt
  have e6:=p8 n ts (by walk_at "o") hR hlt
  have e7:=Q6 n ts hw;have bd:=a7r hw;have hn:=hw.n1;have rn:(rowsM ts).length<=40320:=by
   have:=hR ts.length
   rw[jY] at this;unfold rowsM;rw[zB];exact this
  have sl:∀m∈rowsM ts,m.length<=40/\(hld m).Nodup:=fun m hm=>by
   obtain⟨x,hx,rfl⟩:=zG.mp hm;obtain⟨q1,q2,q3⟩:=a0t hlt x hx;exact⟨zQ q2.length_le h40,q1▸q3⟩
  rw[bd] at e7;have lw:=X2 n ts;have lt:lf (.tup (ts.map tieD))=true:=t7 ts;have ix0:oIxG (webD n ts) (.int 0)=some (.v (.int n)):=rfl;have ix1:oIxG (webD n ts) (.int 1)=some (.v (.tup (ts.map tieD))):=rfl;generalize maxI ((rowsM ts).map sumM)=MM at e5 e7;generalize rowsM ts=R at e6 e7 rn sl;have lR:lfL (R.map rwT)=true:=t9 fun x hx=>by
   obtain⟨y,_,rfl⟩:=zG.mp hx;exact t7 y
  obtain⟨S,eS,hS⟩:∃S,(R.filter fun m=>decide (sumM m=MM))=S/\∀m∈S,m∈R:=⟨_,rfl,fun m hm=>(qJ.mp hm).1⟩;have lS:S.length<=40320:=by rw[<-eS];exact zQ (jT _ _) rn
  have lSf:lfL (S.map rwT)=true:=t9 fun x hx=>by
   obtain⟨y,_,rfl⟩:=zG.mp hx;exact t7 y
  rw[eS] at e7;have so:=a8q (ks:=S.map (pof n)) (fun k hk=>by obtain⟨m,_,rfl⟩:=zG.mp hk;exact b1F hn.1 m)
  have so:gSortN (.lst ((S.map (pof n)).map pairD))=some (.o (.lst ((sortN (S.map (pof n))).map pairD))):=so;have lP:=a7S (S.map (pof n));have lQ:=a7S (sortN (S.map (pof n)));have dq:deqL (deq 19) ((sortN (S.map (pof n))).map pairD) ((sortN (S.map (pof n))).map pairD)=some true:=a6x (m:=17) _
  repeat(first|walk_at "z i" | simp only[f4,f5,f6,f7,lp,lp',lw,e5])
  rw[n6 (ρ1:=[some (.v (.lst (ns.map .int))),some (.v (.int i)),some (.o (poolD q)),some (.v (webD n ts)),some (.v (.int MM)),x5,x6,x7]) (xs:=R.map rwT) (fun B=>∃o:Option D,B=[o.map .v,some (.v (.int MM))]) (hsM MM) (fun d=>d)]
  ·rw[a6E,eS]
   repeat(first|walk_at "z i" | simp only[f5,f6,f7,lSf])
   rw[n6 (ρ1:=[some (.v (.lst (ns.map .int))),some (.v (.int i)),some (.o (poolD q)),some (.v (webD n ts)),some (.v (.int MM)),some (.o (.lst (S.map rwT))),x6,x7]) (xs:=S.map rwT) (fun B=>∃o:Option D,B=[o.map .v,some (.v (webD n ts))]) (fun _=>true) (pofT n)]
   ·rw[a3Y];have oi:∀l:List D,oIsi "list" (.lst l)=some (.v (.bl true)):=fun l=>rfl;refine⟨_,?_,some (.v (.int i)),some (.o (poolD q)),some (.v (webD n ts)),some (.v (.int MM)),some (.o (.lst (S.map rwT))),some (.o (.lst ((sortN (S.map (pof n))).map pairD))),some (.o (.lst [])),rfl,rfl,rfl,rfl,rfl,rfl,rfl,rfl⟩
    repeat(first|walk_at "z r" | simp only[f6,f7,lP,lQ,lp,lp',so,e7,dq,r_clr,lw,oi])
   ·repeat(first|walk_at "z r" | simp only[lSf])
   ·rintro _ ⟨_,rfl⟩;rfl
   ·exact⟨none,rfl⟩
   ·rw[zB];unfold lim;walk_at "o"
   ·rw[a3Y];exact lP
   ·rintro x hx _ zs ⟨o,rfl⟩;obtain⟨m,hm,rfl⟩:=zG.mp hx;obtain⟨s1,s2⟩:=sl m (hS m hm);have lm:lf (.tup (m.map tieD))=true:=t7 m;have lpf:lf (pairD (pof n m))=true:=B4 _;have e8:=B5 n m (by walk_at "o") hn.2 s1 s2
    rw[a9Y];refine⟨[some (.v (rwT m)),some (.v (webD n ts))],.v (pairD (pof n m)),⟨some _,rfl⟩,?_,rfl,fun _=>⟨?_,.inl rfl⟩⟩
    ·walk_at "q"
    ·repeat(first|walk_at "z r" | simp only[ix0,lm,lw,e8,lpf])
  ·repeat(first|walk_at "z r" | simp only[ix0,ix1,lw,lt,e6,lR])
  ·rintro _ ⟨_,rfl⟩;rfl
  ·exact⟨none,rfl⟩
  ·rw[zB];unfold lim;walk_at "o"
  ·rw[a6E,eS];exact lSf
  ·rintro x hx _ zs ⟨o,rfl⟩;obtain⟨m,hm,rfl⟩:=zG.mp hx;have s1:=(sl m hm).1;have lm:lf (.tup (m.map tieD))=true:=t7 m;have l3:=t4 (m.map fun t=>t.2.2);refine⟨[some (.v (rwT m)),some (.v (.int MM))],.v (rwT m),⟨some _,rfl⟩,?_,?_,fun _=>⟨?_,.inl rfl⟩⟩
   ·walk_at "q"
   ·rw[hs_m];walk_at "q";rw[n6 (ρ1:=some (.v (rwT m))::some (.v (.int MM))::acc zs) (xs:=m.map tieD) (fun B=>∃o:Option D,B=[o.map .v]) (fun _=>true) thrd]
    ·rw[L8];have os:=a3v (m8 (m.map fun t=>t.2.2))
     repeat(first|walk_at "z r" | simp only[l3,os])
     rfl
    ·repeat(first|walk_at "z r" | simp only[lm])
    ·rintro _ ⟨_,rfl⟩;rfl
    ·exact⟨none,rfl⟩
    ·rw[zB];unfold lim;walk_at "o"
    ·rw[L8];exact l3
    ·rintro x hx _ zs ⟨o,rfl⟩;obtain⟨t,_,rfl⟩:=zG.mp hx;refine⟨[some (.v (tieD t))],.v (.int t.2.2),⟨some _,rfl⟩,?_,rfl,fun _=>⟨?_,.inl rfl⟩⟩
     ·walk_at "q"
     ·rw[show tieD t= .tup [.int t.1,.int t.2.1,.int t.2.2] from rfl];walk_at "q"
   ·repeat(first|walk_at "z r" | simp only[lm])
 ·rintro _ rfl ⟨x1,x2,x3,x4,x5,x6,x7,rfl,_⟩;walk_at "q"
end
end Q20
namespace Q20
open PySem PySem.Spec PyProof.Rows L2 Z
structure DI (K:PySem.W.Frag) (x:Str) (st:Stmt) (f:Addr) (fd:FuncData):Prop where
 a:PySem.W.nsIn K mainGlobals x=some (some (.ref f))
 F:Fun K x x st f fd
theorem DI.mk2 {K:PySem.W.Frag}{x:Str}{st:Stmt}{f:Addr}{od an:Option Addr}{sl:Array (Option Value)}{oc kV dc pm cd ct:Value}(a:PySem.W.nsIn K mainGlobals x=some (some (.ref f)))(l:K.lookup f=some ⟨oc,od,.func (PySem.W.fnOf x x (defArgs st) (defBody st) (defScope st) .none kV dc pm an cd ct),sl⟩)(c:PySem.W.codeIn K cd x=true)(k:PySem.W.keepIn K (.ref f)=true):DI K x st f (PySem.W.fnOf x x (defArgs st) (defBody st) (defScope st) .none kV dc pm an cd ct):=⟨a,a64 l c k⟩
section
variable {P:Program}{w:World}{K:PySem.W.Frag}{mg:Str->Option Value}{base:Heap}{x:Str}{j k:Nat}
theorem _root_.Z.FnS.up {sp:Sp}(F:FnS P w K mg base x j sp)(h:j<=k:=by decide):FnS P w K mg base x k sp:=F.mono h
end
theorem b1b {l:PySem.W.OpenLaw}{w:World}{K:PySem.W.Frag}{h:Heap}{mg:Str->Option Value}{fa f1 f2 f3 f4 f5 f6 f7 f8 f9 f10 f11 f12 f13 f14 f15 f16:Addr}{d1 d2 d3 d4 d5 d6 d7 d8 d9 d10 d11 d12 d13 d14 d15:FuncData}(X:K.In h)(G:h.Ns mainGlobals mg)(hfa:mg "law"=some (.ref fa))
  {od an:Option Addr} {sl:Array (Option Value)} {oc kV dc pm cd ct:Value}
  (i1:DI K "_law_pool" M7 f1 d1) (i2:DI K "_law_take" M1 f2 d2) (i3:DI K "_law_twos" L7 f3 d3) (i4:DI K "_law_gain" L3 f4 d4) (i5:DI K "_law_web" P3 f5 d5) (i6:DI K "_law_pairs_of" C8 f6 d6) (i7:DI K "_law_most_worth" B0 f7 d7) (i8:DI K "pairings_among" C2 f8 d8) (i9:DI K "parties" W1 f9 d9) (i10:DI K "pairings_of" F2 f10 d10) (i11:DI K "gains" a1E f11 d11) (i12:DI K "worth" a14 f12 d12) (i13:DI K "all_best" P1 f13 d13) (i14:DI K "_law_all_tied" C4 f14 d14) (i15:DI K "_law_pairing_of" A8 f15 d15)
  (a:PySem.W.nsIn K mainGlobals "law"=some (some (.ref f16))) (ll:K.lookup f16=some ⟨oc,od,.func (PySem.W.fnOf "law" "law" (defArgs U2) (defBody U2) (defScope U2) .none kV dc pm an cd ct),sl⟩) (c:PySem.W.codeIn K cd "law"=true) (k:PySem.W.keepIn K (.ref f16)=true)
  (y1:PySem.W.nsIn K mainGlobals "range"=some none) (y2:PySem.W.nsIn K mainGlobals "len"=some none) (y3:PySem.W.nsIn K mainGlobals "min"=some none) (y4:PySem.W.nsIn K mainGlobals "max"=some none) (y5:PySem.W.nsIn K mainGlobals "tuple"=some none) (y6:PySem.W.nsIn K mainGlobals "sorted"=some none) (y7:PySem.W.nsIn K mainGlobals "list"=some none) (y8:PySem.W.nsIn K mainGlobals "sum"=some none) (y9:PySem.W.nsIn K mainGlobals "zip"=some none) (y10:PySem.W.nsIn K mainGlobals "int"=some none) (y11:PySem.W.nsIn K mainGlobals "isinstance"=some none):
  ∃fd:FuncData,(∀(s:Shared) (v:Value),BindsTo s fd ⟨[v],[]⟩ [("script",v)])/\∀base:Heap,K.In base->base.Ns mainGlobals mg->FnOk l.prog w K mg base CX0 60 fa fd ["script"] (spLaw K):=by
 cases hfa.symm.trans (qZ X G a);have j8:=jA X G y1;have m_len:=jA X G y2;have m_min:=jA X G y3;have m_max:=jA X G y4;have D2:=jA X G y5;have v7:=jA X G y6;have J0:=jA X G y7;have m_sum:=jA X G y8;have m_zip:=jA X G y9;have m_int:=jA X G y10;have G7:=jA X G y11;refine⟨PySem.W.fnOf "law" "law" (defArgs U2) (defBody U2) (defScope U2) .none kV dc pm an cd ct,fun s v=>.of_eq rfl,fun base _ _=>?_⟩;obtain⟨K0,K4,L9⟩:=a1Q (P:=l.prog) (w:=w) (base:=base) (k:=0) j8 m_len i1.F (i1.F.binds (ps:=["script","k"]) fun _ _ _ _ _ _ us hl=>us2 hl fun _ _=>rfl) (qZ X G i1.a);obtain⟨j5,g7,c9⟩:=a1N (P:=l.prog) (w:=w) (base:=base) (k:=0) i2.F (i2.F.binds (ps:=["pool","many"]) fun _ _ _ _ _ _ us hl=>us2 hl fun _ _=>rfl) (qZ X G i2.a);obtain⟨K2,K1,L5⟩:=a1X (P:=l.prog) (w:=w) (base:=base) (k:=1) g7.up c9 j8 m_min i3.F (i3.F.binds (ps:=["pool","people","shape"]) fun _ _ _ _ _ _ us hl=>us3 hl fun _ _ _=>rfl) (qZ X G i3.a);obtain⟨J9,K8,K3⟩:=a1u (P:=l.prog) (w:=w) (base:=base) (k:=1) g7.up c9 m_max m_min i4.F (i4.F.binds (ps:=["pool","kind","ahead"]) fun _ _ _ _ _ _ us hl=>us3 hl fun _ _ _=>rfl) (qZ X G i4.a);obtain⟨P5,Q5,Q0⟩:=a2M (P:=l.prog) (w:=w) (base:=base) (k:=2) g7.up c9 K1.up L5 K8.up K3 m_min D2 m_max v7 i5.F (i5.F.binds (ps:=["pool","most"]) fun _ _ _ _ _ _ us hl=>us2 hl fun _ _=>rfl) (qZ X G i5.a);obtain⟨p9,q8,p8⟩:=U9 (P:=l.prog) (w:=w) (base:=base) (k:=0) J0 i6.F (i6.F.binds (ps:=["people","ties"]) fun _ _ _ _ _ _ us hl=>us2 hl fun _ _=>rfl) (qZ X G i6.a);obtain⟨B9,A7,A4⟩:=P8 (P:=l.prog) (w:=w) (base:=base) (k:=1) q8.up p8 m_max m_sum i7.F (i7.F.binds (ps:=["web"]) fun _ _ _ _ _ _ us hl=>us1 hl fun _=>rfl) (qZ X G i7.a);obtain⟨z8,u9,u6⟩:=S9 (P:=l.prog) (w:=w) (base:=base) (k:=0) i8.F (i8.F.binds (ps:=["choices","people"]) fun _ _ _ _ _ _ us hl=>us2 hl fun _ _=>rfl) (qZ X G i8.a);obtain⟨W4,V6,U3⟩:=a3K (P:=l.prog) (w:=w) (base:=base) (k:=0) v7 j8 i9.F (i9.F.binds (ps:=["web"]) fun _ _ _ _ _ _ us hl=>us1 hl fun _=>rfl) (qZ X G i9.a);obtain⟨F6,F5,F1⟩:=a0h (P:=l.prog) (w:=w) (base:=base) (k:=10) u9.up u6 V6.up U3 J0 j8 i10.F (i10.F.binds (ps:=["web"]) fun _ _ _ _ _ _ us hl=>us1 hl fun _=>rfl) (qZ X G i10.a);obtain⟨a1C,a1W,a1y⟩:=a7Y (P:=l.prog) (w:=w) (base:=base) (k:=0) i11.F (i11.F.binds (ps:=["web"]) fun _ _ _ _ _ _ us hl=>us1 hl fun _=>rfl) (qZ X G i11.a);obtain⟨Y9,a1U,a1O⟩:=a7D (P:=l.prog) (w:=w) (base:=base) (k:=1) a1W.up a1y m_sum i12.F (i12.F.binds (ps:=["web","some"]) fun _ _ _ _ _ _ us hl=>us2 hl fun _ _=>rfl) (qZ X G i12.a);obtain⟨Q4,G8,Q6⟩:=a2w (P:=l.prog) (w:=w) (base:=base) (k:=11) F5.up F1 a1U.up a1O m_max m_zip i13.F (i13.F.binds (ps:=["web"]) fun _ _ _ _ _ _ us hl=>us1 hl fun _=>rfl) (qZ X G i13.a);obtain⟨C9,C6,C5⟩:=W6 (P:=l.prog) (w:=w) (base:=base) (k:=1) g7.up c9 j8 D2 m_int i14.F (i14.F.binds (ps:=["pool"]) fun _ _ _ _ _ _ us hl=>us1 hl fun _=>rfl) (qZ X G i14.a);obtain⟨C0,B3,B5⟩:=Q9 (P:=l.prog) (w:=w) (base:=base) (k:=0) D2 v7 j8 i15.F (i15.F.binds (ps:=["people","some"]) fun _ _ _ _ _ _ us hl=>us2 hl fun _ _=>rfl) (qZ X G i15.a);exact b1j (P:=l.prog) (w:=w) (base:=base) (k:=59) K4.up L9 Q5.up Q0 A7.up A4 G8.up Q6 C6.up C5 g7.up c9 q8.up p8 B3.up B5 j8 m_max v7 m_min m_len G7 J0 m_sum (a64 (st:=U2) ll c k)
end Q20
open PySem PySem.W PyProof.Rows
namespace PySem.W.Fast
def tw13203867530706072880:=()
def tw12475446974165301862:=()
def tw3029509931583872469:=()
def tw109839193579384345:=()
def tw2010558031981719545:=()
def tw14307599917657621538:=()
def tw14515036583820206426:=()
def tw7060275853028023740:=()
def tw1209949409468006616:=()
def tw3220301735486550029:=()
def tw17004644006720438437:=()
def tw5541140658412783456:=()
def tw4575623631745505668:=()
def tw13658952383524219022:=()
def tw11599467532195403037:=()
def tw203528360801058228:=()
def tw11231244766847593838:=()
def tw3278023491921219136:=()
def tw15865491830343452005:=()
def tw10294123676156011006:=()
def tw5368112375312883234:=()
def tw5238526342469557411:=()
def tw5583858440661830323:=()
def tw11958488924910849132:=()
def tw1759810119494167448:=()
def tw5426968269308962163:=()
def tw15238607798216903399:=()
def tw1014931451005628669:=()
def tw6615051607248419224:=()
def tw1557339258660905393:=()
def tw13527812939378493700:=()
def tw1014979239264544155:=()
def tw17432442098851922787:=()
def tw10933774760359500362:=()
def tw5652073704982196246:=()
def tw3140936035136165413:=()
def tw3339997243316608515:=()
def tw3029802737062187184:=()
def tw12117623668330747703:=()
def tw17404084188649918044:=()
def tw16035234840000122945:=()
def tw6221933197886660333:=()
def tw14240322923089504713:=()
def tw10946040426046619222:=()
def tw2095197389686587720:=()
def tw7922979219019092263:=()
def tw8135441196676505856:=()
def tw5349880476208218190:=()
def tw14967517476960047411:=()
def tw8200915739903983037:=()
def tw16087543951255339020:=()
def tw16787704917643470537:=()
def tw9757114652016022065:=()
def tw9765133462415348011:=()
def tw5845304249668846509:=()
def tw2399135314160840435:=()
def tw2290307421663177710:=()
def tw14397901504438036613:=()
def tw4145191715525992389:=()
def tw4795955142014058684:=()
def tw17289424509367986934:=()
def tw8103510164082996127:=()
def tw13838790770624417587:=()
def tw5947585362299461093:=()
def tw1053314775797479162:=()
def tw11024636854197883696:=()
def tw15503189036789090774:=()
def tw11624932639394266407:=()
def tw492456858888600980:=()
def tw8224608899584766023:=()
def tw17264849769904727773:=()
def tw9853282436847252853:=()
def tw12226122551388289773:=()
def tw7895332478129812498:=()
def tw14279647057269804226:=()
def tw7672753711354465734:=()
def tw5889460785000270482:=()
def tw9020115551600659312:=()
def tw18316439304964365747:=()
def tw12971944719230412972:=()
end PySem.W.Fast
set_option maxRecDepth 100000 in
set_option maxHeartbeats 0 in
theorem PySem.Challenge.cw_twainhoard_k20_all_best_told_holds : PySem.Challenge.rw_twainhoard_k20_all_best_told.Holds := by
 w_on;o_law;k_head;(case hw=>w_witness2)
 k_fill
 refine Z.walk (l:=PySem.Challenge.rw_twainhoard_k20_all_best_told) rfl rfl (fun w h Y=>PySem.W.kIn_of Y) ?F
 case F=>
  intro w mg fa h KX G hmg
  refine' Q20.b1b KX G hmg (Q20.DI.mk2 ?_ ?_ ?_ ?_) (Q20.DI.mk2 ?_ ?_ ?_ ?_) (Q20.DI.mk2 ?_ ?_ ?_ ?_) (Q20.DI.mk2 ?_ ?_ ?_ ?_) (Q20.DI.mk2 ?_ ?_ ?_ ?_) (Q20.DI.mk2 ?_ ?_ ?_ ?_) (Q20.DI.mk2 ?_ ?_ ?_ ?_) (Q20.DI.mk2 ?_ ?_ ?_ ?_) (Q20.DI.mk2 ?_ ?_ ?_ ?_) (Q20.DI.mk2 ?_ ?_ ?_ ?_) (Q20.DI.mk2 ?_ ?_ ?_ ?_) (Q20.DI.mk2 ?_ ?_ ?_ ?_) (Q20.DI.mk2 ?_ ?_ ?_ ?_) (Q20.DI.mk2 ?_ ?_ ?_ ?_) (Q20.DI.mk2 ?_ ?_ ?_ ?_) ?_ ?_ ?_ ?_ ?_ ?_ ?_ ?_ ?_ ?_ ?_ ?_ ?_ ?_ ?_
  all_goals try k_is
