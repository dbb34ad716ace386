import PyProof.Rows.All
import Wide.All
import OpenK.AllK
import Wide.FinOn
import Lean
import PyProof.EqAt
import PyProof.EqKinds
import PyProof.TupleCall
import PyProof.DictRoadsH
import PyProof.DictRoads
import PyProof.DictIter
import PyProof.CompUse
import PyProof.SumWalkG
import KE.KSort
import PyProof.EnumMake
import PyProof.Rows.ZipGen
import PyProof.Rows.RuleDivmod
import PyProof.ListRange
import KE.KDictSum
import KE.KSortTup
import PyProof.DictCompW
import PyProof.ListMulAny
import PyProof.ReprRoads
import PyProof.FitsInt
import PyProof.WalksMore
import PyProof.Rows.SetFrom
import PyProof.FactsAll.set_1
import PyProof.SetRoads
import PySem.Challenge.RW_twainhoard_k10_parts_and_without
set_option Elab.async false
set_option compiler.extract_closed false
set_option genSizeOf false
set_option genInjectivity false
set_option bootstrap.genMatcherCode false
set_option linter.all false
set_option maxRecDepth 100000
open List (mem_iff_getElem perm_middle take_append_drop mem_of_mem_drop nodup_range length_range nodup_append nodup_nil nil_append getElem?_eq_getElem nodup_cons of_mem_zip length_take zip_nil_left length_nil length_drop all_cons any_cons length_singleton find?_cons length_set ext_getElem? getElem?_range drop_zero take_length forIn_cons forIn_nil map_id take_zero drop_succ_cons)
open Option (bind_some isSome_iff_exists getD_none isSome_map)

abbrev zA:=@PySem.wpAny_bind
abbrev zC:=@PySem.wpAny_pure
abbrev zD:=@PySem.Heap.get?_push_of_some
abbrev zE:=@Nat.le_refl
abbrev zF:=@Nat.lt_of_lt_of_le
abbrev zG:=@Nat.ne_of_lt
abbrev zH:=@List.length_map
abbrev zI:=@List.map_cons
abbrev zJ:=@List.mem_cons_self
abbrev zK:=@PySem.Heap.get?_push_size
abbrev zL:=@List.mem_cons_of_mem
abbrev zM:=@List.getElem?_set_ne
abbrev zN:=@List.mem_cons
abbrev zO:=@PySem.Heap.lt_size
abbrev zP:=@decide_eq_true
abbrev zQ:=@List.getElem?_eq_some_iff
abbrev zR:=@PySem.wpAny_mono
abbrev zS:=@List.mem_singleton
abbrev zT:=@Bool.false_ne_true
abbrev zU:=@decide_eq_false
abbrev zV:=@List.length_cons
abbrev zW:=@Array.length_toList
abbrev zX:=@Nat.le_trans
abbrev zY:=@PySem.W.mg_of
abbrev zZ:=@Bool.false_eq_true
abbrev qA:=@PySem.wpAny_call_entry
abbrev qB:=@List.getElem?_append_left
abbrev qC:=@Array.getElem?_toList
abbrev qD:=@PySem.wpAny_newObj_type
abbrev qE:=@PySem.wpAny_holding
abbrev qF:=@PySem.Heap.SameBut.update
abbrev qG:=@List.mem_map
abbrev qH:=@List.getElem?_map
abbrev qI:=@List.size_toArray
abbrev qJ:=@PySem.wpAny_callSpecial?_slot
abbrev qK:=@List.length_append
abbrev qL:=@List.getD_eq_getElem?_getD
abbrev qM:=@Ne.symm
abbrev qN:=@List.mem_append_right
abbrev qO:=@PySem.W.mg_none_of
abbrev qP:=@List.getElem?_append_right
abbrev qQ:=@List.mem_of_getElem?
abbrev qR:=@PySem.sizeLine_eq
abbrev qS:=@PySem.wpAny_setField_rec
abbrev qT:=@List.getElem?_eq_getElem
abbrev qU:=@PySem.wpAny_setState_of
abbrev qW:=@if_true
abbrev qX:=@PyProof.Rows.slot_tuple_getitem
abbrev qY:=@if_false
abbrev qZ:=@Array.getElem?_eq_some_iff
abbrev jA:=@List.map_map
abbrev jB:=@List.mem_append
abbrev jC:=@Option.some.inj
abbrev jD:=@Classical.byContradiction
abbrev jE:=@Nat.lt_irrefl
abbrev jF:=@PySem.PassesOwn.never
abbrev jG:=@Nat.zero_le
abbrev jH:=@PySem.wpAny_field
abbrev jI:=@PySem.Heap.size_push
abbrev jJ:=@PyProof.Rows.F.plain_set_update_loop
abbrev jK:=@Nat.pow_le_pow_right
abbrev jL:=@PySem.Heap.get?_update_self
abbrev jM:=@Array.getElem?_eq_none_iff
abbrev jN:=@Array.getElem?_eq_none
abbrev jO:=@List.Nodup.length_le_of_subset
abbrev jP:=@List.mem_filter
abbrev jQ:=@Bool.and_eq_true
abbrev jR:=@List.getElem?_eq_none
abbrev jS:=@List.zip_cons_cons
abbrev jT:=@PySem.F.slot_dict_keyiterator_next
abbrev jU:=@Array.getD_eq_getD_getElem?
abbrev jV:=@PyProof.Rows.callWith_type1
abbrev jW:=@PySem.W.kia_one
abbrev jX:=@Nat.ne_of_gt
abbrev jY:=@List.mem_iff_getElem?
abbrev jZ:=@Option.map_some
abbrev xA:=@Nat.lt_succ_self
abbrev xB:=@List.mem_range
abbrev xD:=@Bool.false_and
abbrev xE:=@List.map_congr_left
abbrev xF:=@Int.emod_lt_of_pos
abbrev xG:=@List.not_mem_nil
abbrev xI:=@Nat.sub_self
abbrev xJ:=@PyProof.Rows.KeyOrd.kle_refl
abbrev xK:=@PySem.codeAny_builtin
abbrev xM:=@Int.toNat_natCast
abbrev xN:=@List.map_nil
abbrev xO:=@PySem.wpAny_typeNameOfWhole_keyiter
abbrev xQ:=@List.filterMap_cons
abbrev xR:=@PySem.Heap.get?_update_ne
abbrev xS:=@PySem.wpAny_seqItems
abbrev xT:=@Nat.pow_succ
abbrev xU:=@List.pairwise_map
abbrev xV:=@PySem.wpAny_Call_Name_kw
abbrev xW:=@List.getElem?_cons_succ
abbrev xX:=@PySem.wpAny_passesOwn
abbrev xY:=@Int.emod_nonneg
abbrev xZ:=@List.perm_ext_iff_of_nodup
abbrev yA:=@Bool.not_true
abbrev yB:=@Nat.lt_succ_of_lt
abbrev yC:=@PySem.wpAny_rule
abbrev yD:=@List.map_append
abbrev yE:=@List.drop_eq_getElem_cons
abbrev yF:=@PySem.Calls.call_function_entry
abbrev yG:=@List.getElem?_eq_none_iff
abbrev yH:=@PySem.Around.under_plainId
abbrev yI:=@List.all_eq_true
abbrev yJ:=@PySem.wpAny_execs_cons
abbrev yK:=@PySem.codeAny_mono
abbrev yL:=@PySem.wpAny_typeNameOf_keyiter
abbrev yM:=@PySem.mem_of_lookup
abbrev yN:=@List.getElem?_cons_zero
abbrev yO:=@PyProof.Rows.F.entry_set_update_loop
abbrev yP:=@List.pairwise_cons
abbrev yQ:=@List.mem_filterMap
abbrev yR:=@List.mem_append_left
abbrev yS:=@PySem.wpAny_execs_nil
abbrev yT:=@List.append_nil
abbrev yU:=@PyProof.Rows.get?_update_seq
abbrev yV:=@List.take_of_length_le
abbrev yW:=@PyProof.Rows.subscriptTail_builtinR
abbrev yX:=@List.lookup_cons
abbrev yY:=@or_false
abbrev yZ:=@Nat.lt_trichotomy
abbrev vA:=@of_decide_eq_true
abbrev vB:=@PySem.wpAny_truthy_bool
abbrev vC:=@PySem.wpAny_pyIter_list
abbrev vD:=@List.zipWith_cons_cons
abbrev vE:=@PySem.wpAny_loadPart_at
abbrev vF:=@Nat.le_of_succ_le
abbrev vG:=@PySem.wpAny_fieldsOf
abbrev vH:=@PySem.builtinLookup_eq_fast
noncomputable section
set_option maxHeartbeats 1000000
local macro_rules | `(tactic| walk_at "o") => `(tactic| first | lia | omega)
namespace Z
open PySem
def itM:Nat->Nat->Nat
 | 0,x=>x
 | n+1,x=>itM n (5*x+1)
theorem a2f:∀(m n x:Nat),itM (m+n) x=itM n (itM m x)
 | 0,n,x=>by rw[Nat.zero_add];rfl
 | m+1,n,x=>by rw[Nat.succ_add];exact a2f m n _
def bK:Nat->Nat
 | 0=>1
 | k+1=>2*bK k*(1+2*bK k)
theorem a7O:∀k,∃o,bK k=2^k*(2*o+1)
 | 0=>⟨0,rfl⟩
 | k+1=>by
  obtain⟨o,e⟩:=a7O k;refine⟨o+bK k*(2*o+1),?_⟩;rw[bK,xT];generalize bK k=b at *;generalize 2^k=p at *;subst e
  grind
theorem a2s:∀k x,itM (2^k) x=x+bK k*(4*x+1)
 | 0,x=>by show 5*x+1=x+1*(4*x+1);walk_at "o"
 | k+1,x=>by
  rw[xT,Nat.mul_two,a2f,a2s k,a2s k,bK];generalize bK k=b
  grind
theorem a6L (k x:Nat):itM (2^k) x%2^(k+1)=(x+2^k)%2^(k+1):=by
 obtain⟨o,e⟩:=a7O k;rw[a2s,e,xT]
 have:x+2^k*(2*o+1)*(4*x+1)=x+2^k+2^k*2*(o*(4*x+1)+2*x):=by grind
 rw[this,Nat.add_mul_mod_self_left]
theorem a5u {M:Nat}:∀(n:Nat) {x y:Nat},x%M=y%M->itM n x%M=itM n y%M
 | 0,_,_,h=>h
 | n+1,x,y,h=>a5u n (by rw[Nat.add_mod,Nat.mul_mod,h,<-Nat.mul_mod,<-Nat.add_mod])
theorem a4V:∀(k i j:Nat),∃n,n<2^k/\itM n i%2^k=j%2^k
 | 0,i,j=>⟨0,by decide,by simp[Nat.mod_one]⟩
 | k+1,i,j=>by
  obtain⟨n,hn,e⟩:=a4V k i j;have hp:0<2^k:=Nat.pow_pos (by decide)
  by_cases h:itM n i%2^(k+1)=j%2^(k+1)
  ·exact⟨n,by rw[xT];walk_at "o",h⟩
  ·refine⟨n+2^k,by rw[xT];walk_at "o",?_⟩
   rw[a2f,a6L];generalize itM n i=x at *;rw[xT] at *;generalize 2^k=p at *;have a1:=Nat.mod_mul (x:=x) (a:=p) (b:=2);have a2:=Nat.mod_mul (x:=j) (a:=p) (b:=2);have a3:=Nat.mod_mul (x:=x+p) (a:=p) (b:=2);rw[Nat.add_mod_right,Nat.add_div_right _ hp] at a3;rw[a3,a2,<-e];rw[a1,a2,e] at h;have h1:=Nat.mod_two_eq_zero_or_one (x/p);have h2:=Nat.mod_two_eq_zero_or_one (j/p);have h3:(x/p).succ%2=j/p%2:=by
    rcases h1 with q1|q1<;>rcases h2 with q2|q2<;>rw[q1,q2] at h<;>walk_at "o"
   rw[h3]
def advP (m:Nat) (p:SetTable.Probe):SetTable.Probe:=
 if p.more>0 then{p with j:=p.j+1,more:=p.more-1}
 else{p with j:=(SetTable.leap m p.i p.perturb).1,more:=SetTable.runEnd m (SetTable.leap m p.i p.perturb).1-(SetTable.leap m p.i p.perturb).1,i:=(SetTable.leap m p.i p.perturb).1,perturb:=(SetTable.leap m p.i p.perturb).2}
theorem a7N (t:SetTable)(p:SetTable.Probe):t.advance p=advP t.mask p:=by
 unfold SetTable.advance advP
 split<;>rfl
def pth (m:Nat):Nat->SetTable.Probe->SetTable.Probe
 | 0,p=>p
 | n+1,p=>pth m n (advP m p)
theorem z9 (m:Nat):∀(a b:Nat) (p:SetTable.Probe),pth m (a+b) p=pth m b (pth m a p)
 | 0,b,p=>by rw[Nat.zero_add];rfl
 | a+1,b,p=>by rw[Nat.succ_add];exact z9 m a b _
def run (m i pt:Nat):SetTable.Probe:={j:=i,more:=SetTable.runEnd m i-i,i:=i,perturb:=pt,dummy:=none}
theorem a2r (m i:Nat):SetTable.runEnd m i-i<=9:=by unfold SetTable.runEnd;split<;>walk_at "o"
theorem a0X (m:Nat):∀(n:Nat) (p:SetTable.Probe),n<=p.more->pth m n p={p with j:=p.j+n,more:=p.more-n}
 | 0,p,_=>rfl
 | n+1,p,h=>by
  rw[pth,advP,if_pos (by walk_at "o"),a0X m n _ (by show n<=p.more-1;walk_at "o")]
  show({p with j:=p.j+1+n,more:=p.more-1-n}:SetTable.Probe)={p with j:=p.j+(n+1),more:=p.more-(n+1)}
  rw[Nat.add_assoc,Nat.add_comm 1 n,Nat.sub_sub,Nat.add_comm 1 n]
theorem a2I (m i pt:Nat):pth m (SetTable.runEnd m i-i+1) (run m i pt)=run m (SetTable.leap m i pt).1 (SetTable.leap m i pt).2:=by
 have e:=a0X m (SetTable.runEnd m i-i) (run m i pt) (zE _);rw[z9,e];show advP m _=_;rw[advP,if_neg (by show ¬(SetTable.runEnd m i-i-(SetTable.runEnd m i-i)>0);walk_at "o")]
 rfl
def leaps (m:Nat):Nat->Nat×Nat->Nat×Nat
 | 0,q=>q
 | n+1,q=>leaps m n (SetTable.leap m q.1 q.2)
theorem a12 (m:Nat):∀(a b:Nat) (q:Nat×Nat),leaps m (a+b) q=leaps m b (leaps m a q)
 | 0,b,q=>by rw[Nat.zero_add];rfl
 | a+1,b,q=>by rw[Nat.succ_add];exact a12 m a b _
theorem a1M (m:Nat):∀(s:Nat) (i pt:Nat),∃n,n<=10*s/\pth m n (run m i pt)=run m (leaps m s (i,pt)).1 (leaps m s (i,pt)).2
 | 0,i,pt=>⟨0,zE _,rfl⟩
 | s+1,i,pt=>by
  obtain⟨n,hn,e⟩:=a1M m s (SetTable.leap m i pt).1 (SetTable.leap m i pt).2;refine⟨SetTable.runEnd m i-i+1+n,by have:=a2r m i;walk_at "o",?_⟩
  rw[z9,a2I,e];rfl
theorem a25 (m:Nat):∀(s:Nat) (q:Nat×Nat),(leaps m s q).2=q.2/32^s
 | 0,q=>by simp[leaps]
 | s+1,q=>by
  rw[leaps,a25 m s];show q.2/32/32^s=_;rw[Nat.div_div_eq_div_mul,xT,Nat.mul_comm 32]
theorem a0v (m:Nat):∀(n i:Nat),i<m+1->(leaps m n (i,0)).1=itM n i%(m+1)
 | 0,i,h=>(Nat.mod_eq_of_lt h).symm
 | n+1,i,h=>by
  rw[leaps];show(leaps m n ((i*5+1+0/32)%(m+1),0/32)).1=_;rw[show(0:Nat)/32=0 from rfl,a0v m n _ (Nat.mod_lt _ (by walk_at "o"))]
  exact a5u n (by rw[Nat.mod_mod,Nat.mul_comm])
theorem a3C (m:Nat):∀(n:Nat) (q:Nat×Nat),q.1<m+1->(leaps m n q).1<m+1
 | 0,q,h=>h
 | n+1,q,h=>a3C m n _ (Nat.mod_lt _ (by walk_at "o"))
theorem a1C {k m i pt:Nat}(hm:m+1=2^k)(hi:i<m+1)(hp:pt<2^64){j:Nat}(hj:j<m+1):∃s,s<m+14/\(leaps m s (i,pt)).1=j:=by
 obtain⟨n,hn,e⟩:=a4V k (leaps m 13 (i,pt)).1 j;rw[<-hm] at hn e;refine⟨13+n,by walk_at "o",?_⟩
 have h0:leaps m 13 (i,pt)=((leaps m 13 (i,pt)).1,0):=by
  have:=a25 m 13 (i,pt)
  rw[Nat.div_eq_of_lt (zF hp (by decide))] at this
  exact Prod.ext rfl this
 rw[a12,h0,a0v m n _ (a3C m 13 _ hi),e,Nat.mod_eq_of_lt hj]
theorem a9k {k m i pt:Nat}(hm:m+1=2^k)(hi:i<m+1)(hp:pt<2^64){j:Nat}(hj:j<m+1):∃n,n<10*(m+14)/\(pth m n (run m i pt)).j=j:=by
 obtain⟨s,hs,e⟩:=a1C hm hi hp hj;obtain⟨n,hn,e2⟩:=a1M m s i pt;exact⟨n,by walk_at "o",by rw[e2];exact e⟩
theorem a4T (h:Int):SetTable.bits h<2^64:=by unfold SetTable.bits;walk_at "o"
def beg (m:Nat) (h:Int):SetTable.Probe:=run m (SetTable.bits h%(m+1)) (SetTable.bits h)
theorem a9s {k m:Nat}(hm:m+1=2^k)(h:Int){j:Nat}(hj:j<m+1):∃n,n<10*(m+14)/\(pth m n (beg m h)).j=j:=
 a9k hm (Nat.mod_lt _ (by walk_at "o")) (a4T h) hj
theorem a1D (m:Nat):∀(n:Nat) (p:SetTable.Probe),(pth m n p).dummy=p.dummy
 | 0,_=>rfl
 | n+1,p=>by
  rw[pth,a1D m n];unfold advP;split<;>rfl
def Way (m:Nat) (occ:List Nat) (h:Int) (j:Nat):Prop:=∃n,n<10*(m+14)/\(pth m n (beg m h)).j=j/\∀a,a<n->(pth m a (beg m h)).j∈occ
theorem Way.mono {m:Nat}{occ occ':List Nat}{h:Int}{j:Nat}(w:Way m occ h j)(s:∀x∈occ,x∈occ'):Way m occ' h j:=
 let ⟨n,a,b,c⟩:=w;⟨n,a,b,fun x hx=>s _ (c x hx)⟩
theorem B9 {xs:Array Nat}(hr:xs.toList.Pairwise (· < ·)){i j d:Nat}(hij:i<j)(hj:j<xs.size):xs.getD i d<xs.getD j d:=by
 have hi:i<xs.size:=Nat.lt_trans hij hj
 have:=List.pairwise_iff_getElem.mp hr i j (by simpa using hi) (by simpa using hj) hij
 simpa [Array.getD,hi,hj] using this
theorem a0u {xs:Array Nat}(hr:xs.toList.Pairwise (· < ·))(j:Nat):∀(fuel lo hi:Nat),lo<=hi->hi<=xs.size->hi-lo<=fuel->(∀i,i<lo->xs.getD i j<j)->(∀i,hi<=i->i<xs.size->j<=xs.getD i j)->
  SetTable.below.go xs j fuel lo hi<=xs.size/\(∀i,i<SetTable.below.go xs j fuel lo hi->xs.getD i j<j)/\∀i,SetTable.below.go xs j fuel lo hi<=i->i<xs.size->j<=xs.getD i j
 | 0,lo,hi,h1,h2,h3,h4,h5=>by
  have:lo=hi:=by walk_at "o"
  subst this;exact⟨h2,h4,h5⟩
 | fuel+1,lo,hi,h1,h2,h3,h4,h5=>by
  rw[SetTable.below.go]
  by_cases hl:lo<hi
  ·rw[if_pos hl];dsimp only
   by_cases hm:xs.getD ((lo+hi)/2) j<j
   ·rw[if_pos hm];refine a0u hr j fuel _ _ (by walk_at "o") h2 (by walk_at "o") (fun i hj=>?_) h5
    by_cases e:i=(lo+hi)/2
    ·rw[e];exact hm
    ·exact Nat.lt_trans (B9 hr (show i<(lo+hi)/2 by walk_at "o") (by walk_at "o")) hm
   ·rw[if_neg hm];refine a0u hr j fuel _ _ (by walk_at "o") (by walk_at "o") (by walk_at "o") h4 (fun i hj hs=>?_)
    by_cases e:i=(lo+hi)/2
    ·rw[e];walk_at "o"
    ·have:=B9 hr (d:=j) (show(lo+hi)/2<i by walk_at "o") hs
     walk_at "o"
  ·rw[if_neg hl]
   have:lo=hi:=by walk_at "o"
   subst this;exact⟨h2,h4,h5⟩
theorem X5 {xs:Array Nat}(hr:xs.toList.Pairwise (· < ·))(j:Nat):SetTable.below xs j<=xs.size/\(∀i,i<SetTable.below xs j->xs.getD i j<j)/\∀i,SetTable.below xs j<=i->i<xs.size->j<=xs.getD i j:=
 a0u hr j xs.size 0 xs.size (jG _) (zE _) (by walk_at "o") (fun i h=>absurd h (by walk_at "o")) fun i h h'=>by walk_at "o"
theorem a3g (j:Nat):SetTable.has #[] j=false:=by unfold SetTable.has;simp
theorem a2F {t:SetTable}(hr:t.place.toList.Pairwise (· < ·))(hd:t.dummies= #[])(j:Nat):
  (∃i,t.place[i]? =some j/\t.slot j= .live i)\/(j∉t.place.toList/\t.slot j= .empty):=by
 obtain⟨h1,h2,h3⟩:=X5 hr j;unfold SetTable.slot;rw[hd,a3g]
 by_cases e:t.place[SetTable.below t.place j]? =some j
 ·exact .inl ⟨_,e,by rw[if_pos (by simp[e])]⟩
 ·refine .inr ⟨fun hj=>?_,by rw[if_neg (by simpa using e)];rfl⟩
  obtain⟨i,hi,ei⟩:=mem_iff_getElem.mp hj;have hi':i<t.place.size:=by simpa using hi
  have g:t.place.getD i j=j:=by simpa [Array.getD,hi'] using ei
  rcases yZ i (SetTable.below t.place j) with z|z|z
  ·have:=h2 i z;walk_at "o"
  ·rw[<-z] at e;exact e (by simpa [hi'] using ei)
  ·have l:SetTable.below t.place j<t.place.size:=by walk_at "o"
   have a:=h3 _ (zE _) l;have b:=B9 hr (d:=j) z hi';walk_at "o"
theorem u9 {α:Type}(xs:Array α)(p:Nat)(x:α):(SetTable.insertAt xs p x).toList=xs.toList.take p++x::xs.toList.drop p:=by
 unfold SetTable.insertAt;simp[Array.toList_extract,List.extract_eq_take_drop,yV]
def occZ (t:SetTable) (es:Array (Int×Value)):List (Nat×Int×Value):=t.place.toList.zip es.toList
structure Tb (t:SetTable) (es:Array (Int×Value)):Prop where
 pw:∃k,t.mask+1=2^k
 m7:7<=t.mask
 m8:t.mask<=8191
 nd:t.dummies= #[]
 ln:t.place.size=es.size
 rs:t.place.toList.Pairwise (· < ·)
 le:∀j∈t.place.toList,j<=t.mask
 way:∀p∈occZ t es,Way t.mask t.place.toList p.2.1 p.1
theorem Tb.fits {t:SetTable}{es:Array (Int×Value)}(T:Tb t es)(h:es.size<=t.mask):t.fits es.size=true:=by
 unfold SetTable.fits SetTable.fill;rw[T.nd,T.ln];simp[h]
theorem Tb.gave {t:SetTable}{es:Array (Int×Value)}(T:Tb t es):t.gaveWay=false:=by
 obtain⟨k,e⟩:=T.pw;have h7:=T.m7;unfold SetTable.gaveWay;cases k with
 | zero=>simp at e;walk_at "o"
 | succ k=>
  rw[xT] at e
  have:t.mask%2=1:=by walk_at "o"
  rw[this];rfl
theorem Tb.put {t:SetTable}{es:Array (Int×Value)}(T:Tb t es){j:Nat}{e:Int×Value}(hj:j∉t.place.toList)(hm:j<=t.mask)(w:Way t.mask t.place.toList e.1 j):
  Tb (t.put j).1 (SetTable.insertAt es (t.put j).2 e)/\(occZ (t.put j).1 (SetTable.insertAt es (t.put j).2 e)).Perm ((j,e)::occZ t es)/\(SetTable.insertAt es (t.put j).2 e).toList.Perm (e::es.toList)/\(SetTable.insertAt es (t.put j).2 e).size=es.size+1:=by
 obtain⟨h1,h2,h3⟩:=X5 T.rs j;have ep:(t.put j).1={t with place:=SetTable.insertAt t.place (SetTable.below t.place j) j}:=by
  unfold SetTable.put;rw[T.nd,a3g];simp
 have e2:(t.put j).2=SetTable.below t.place j:=rfl;rw[ep,e2];generalize hp:SetTable.below t.place j=p at *;have hz:(SetTable.insertAt t.place p j).toList.zip (SetTable.insertAt es p e).toList=(occZ t es).take p++(j,e)::(occZ t es).drop p:=by
  rw[u9,u9,List.zip_append (by have:=T.ln;simp;walk_at "o"),jS]
  unfold occZ;rw[List.zip_eq_zipWith,List.zip_eq_zipWith,List.zip_eq_zipWith,<-List.take_zipWith,<-List.drop_zipWith]
 have pz:((occZ t es).take p++(j,e)::(occZ t es).drop p).Perm ((j,e)::occZ t es):=by
  refine perm_middle.trans ?_;rw[take_append_drop]
 have pe:(SetTable.insertAt es p e).toList.Perm (e::es.toList):=by
  rw[u9];refine perm_middle.trans ?_;rw[take_append_drop]
 have sub:∀x∈t.place.toList,x∈(SetTable.insertAt t.place p j).toList:=fun x hx=>by
  rw[u9,jB,zN];rw[<-take_append_drop p t.place.toList,jB] at hx;rcases hx with z|z
  ·exact .inl z
  ·exact .inr (.inr z)
 refine⟨⟨T.pw,T.m7,T.m8,T.nd,?_,?_,?_,?_⟩,?_,pe,?_⟩
 ·have a:=congrArg List.length (u9 t.place p j);have b:=pe.length_eq
  have:=T.ln
  simp at a b;show(SetTable.insertAt t.place p j).size=_;walk_at "o"
 ·show(SetTable.insertAt t.place p j).toList.Pairwise _;rw[u9];have r:=T.rs;rw[<-take_append_drop p t.place.toList,List.pairwise_append] at r;have lo:∀x∈t.place.toList.take p,x<j:=fun x hx=>by
   obtain⟨i,hi,ex⟩:=List.mem_take_iff_getElem.mp hx
   have:=h2 i (by walk_at "o")
   have hi':i<t.place.size:=by simp at hi;walk_at "o"
   rw[<-ex];simpa [Array.getD,hi'] using this
  have up:∀x∈t.place.toList.drop p,j<x:=fun x hx=>by
   obtain⟨i,hi,ex⟩:=List.mem_drop_iff_getElem.mp hx;have hi':p+i<t.place.size:=by simp at hi;walk_at "o"
   have:=h3 (p+i) (by walk_at "o") hi'
   have ne:x≠j:=fun z=>hj (by rw[<-z];exact mem_of_mem_drop hx)
   have g:t.place.getD (p+i) j=x:=by simpa [Array.getD,hi'] using ex
   walk_at "o"
  refine List.pairwise_append.mpr ⟨r.1,yP.mpr ⟨up,r.2.1⟩,fun x hx y hy=>?_⟩;rcases zN.mp hy with rfl|hy
  ·exact lo x hx
  ·exact r.2.2 x hx y hy
 ·show ∀x∈(SetTable.insertAt t.place p j).toList,x<=t.mask;intro x hx;rw[u9,jB,zN] at hx;rcases hx with z|rfl|z
  ·exact T.le x (List.mem_of_mem_take z)
  ·exact hm
  ·exact T.le x (mem_of_mem_drop z)
 ·intro q hq;have hq:q∈(SetTable.insertAt t.place p j).toList.zip (SetTable.insertAt es p e).toList:=hq;rw[hz] at hq;rcases zN.mp (pz.mem_iff.mp hq) with rfl|hq
  ·exact w.mono sub
  ·exact(T.way q hq).mono sub
 ·show((SetTable.insertAt t.place p j).toList.zip (SetTable.insertAt es p e).toList).Perm _;rw[hz];exact pz
 ·have:=pe.length_eq;simpa using this
theorem a28 {t:SetTable}{es:Array (Int×Value)}(T:Tb t es){hashAt:Nat->Int}{h:Int}:∀(n fuel:Nat) (p:SetTable.Probe),n<fuel->p.dummy=none->(∀a,a<n->(pth t.mask a p).j∈t.place.toList)->(pth t.mask n p).j∉t.place.toList->
  (∃a i,a<n/\t.place[i]? =some (pth t.mask a p).j/\hashAt i=h/\SetTable.probe.go t hashAt h fuel p=some (.candidate (pth t.mask a p).j i (pth t.mask (a+1) p))/\∀b,b<a->∀i',t.place[i']? =some (pth t.mask b p).j->hashAt i'≠h)\/
  (SetTable.probe.go t hashAt h fuel p=some (.empty (pth t.mask n p).j none)/\∀b,b<n->∀i',t.place[i']? =some (pth t.mask b p).j->hashAt i'≠h)
 | n,0,p,h1,_,_,_=>absurd h1 (by walk_at "o")
 | 0,fuel+1,p,_,hd,_,h4=>by
  refine .inr ⟨?_,fun b hb=>absurd hb (by walk_at "o")⟩
  rcases a2F T.rs T.nd p.j with ⟨i,hi,_⟩|⟨_,e⟩
  ·exact absurd (qQ (by rw[qC];exact hi)) h4
  ·rw[SetTable.probe.go];rw[e];show some (SetTable.Met.empty p.j p.dummy)=_;rw[hd];rfl
 | n+1,fuel+1,p,h1,hd,h3,h4=>by
  rcases a2F T.rs T.nd p.j with ⟨i,hi,e⟩|⟨e,_⟩
  ·have uq:∀i',t.place[i']? =some p.j->i'=i:=fun i' hi'=>by
    obtain⟨l1,g1⟩:=qZ.mp hi;obtain⟨l2,g2⟩:=qZ.mp hi';rcases yZ i' i with z|z|z
    ·have:=B9 T.rs (d:=0) z l1
     simp[Array.getD,l1,l2,g1,g2] at this
    ·exact z
    ·have:=B9 T.rs (d:=0) z l2
     simp[Array.getD,l1,l2,g1,g2] at this
   rw[SetTable.probe.go];rw[e];dsimp only
   by_cases hh:hashAt i=h
   ·refine .inl ⟨0,i,by walk_at "o",hi,hh,?_,fun b hb=>absurd hb (by walk_at "o")⟩
    rw[if_pos (by simpa using hh),a7N];rfl
   ·rw[if_neg (by simpa using hh),a7N]
    rcases a28 T (hashAt:=hashAt) (h:=h) n fuel (advP t.mask p) (by walk_at "o") (by rw[<-hd];unfold advP;split<;>rfl) (fun a ha=>h3 (a+1) (by walk_at "o")) h4 with ⟨a,i',a1,a2,a3,a4,a5⟩|⟨a4,a5⟩
    ·refine .inl ⟨a+1,i',by walk_at "o",a2,a3,a4,fun b hb j hj=>?_⟩
     cases b with
     | zero=>rw[uq j hj];exact hh
     | succ b=>exact a5 b (by walk_at "o") j hj
    ·refine .inr ⟨a4,fun b hb j hj=>?_⟩;cases b with
     | zero=>rw[uq j hj];exact hh
     | succ b=>exact a5 b (by walk_at "o") j hj
  ·exact absurd (h3 0 (by walk_at "o")) e
theorem a87 {t:SetTable}{es:Array (Int×Value)}(T:Tb t es)(few:es.size<=t.mask):∃j,j<=t.mask/\j∉t.place.toList:=by
 apply jD;intro h;have sub:List.range (t.mask+1) ⊆ t.place.toList:=fun j hj=>by
  apply jD;intro hn;exact h ⟨j,by have:=xB.mp hj;walk_at "o",hn⟩
 have:=jO nodup_range sub
 rw[length_range] at this;have l:=T.ln;simp at this;walk_at "o"
theorem a30 {t:SetTable}{es:Array (Int×Value)}(T:Tb t es)(few:es.size<=t.mask)(h:Int):
  ∃n,n<10*(t.mask+14)/\(∀a,a<n->(pth t.mask a (beg t.mask h)).j∈t.place.toList)/\(pth t.mask n (beg t.mask h)).j∉t.place.toList:=by
 obtain⟨j,hj,hn⟩:=a87 T few;obtain⟨k,hk⟩:=T.pw;obtain⟨n0,h0,e0⟩:=a9s hk h (show j<t.mask+1 by walk_at "o")
 have key:∀n,(pth t.mask n (beg t.mask h)).j∉t.place.toList->∃m,m<=n/\(∀a,a<m->(pth t.mask a (beg t.mask h)).j∈t.place.toList)/\(pth t.mask m (beg t.mask h)).j∉t.place.toList:=by
  intro n
  induction n using Nat.strongRecOn with
  | ind n ih=>
   intro hx
   by_cases hc:∀a,a<n->(pth t.mask a (beg t.mask h)).j∈t.place.toList
   ·exact⟨n,zE _,hc,hx⟩
   ·obtain⟨a,ha⟩:=Classical.not_forall.mp hc;obtain⟨ha,hb⟩:=Classical.not_imp.mp ha;obtain⟨m,h1,h2,h3⟩:=ih a ha hb;exact⟨m,by walk_at "o",h2,h3⟩
 obtain⟨m,h1,h2,h3⟩:=key n0 (by rw[e0];exact hn)
 exact⟨m,by walk_at "o",h2,h3⟩
theorem b1Y (m i:Nat):i<=SetTable.runEnd m i:=by unfold SetTable.runEnd;split<;>walk_at "o"
theorem a7I (m:Nat)(h:Int):∀n,(pth m n (beg m h)).j<=m:=by
 have key:∀(n:Nat) (p:SetTable.Probe),p.j+p.more<=m->(pth m n p).j<=m:=by
  intro n
  induction n with
  | zero=>intro p hp;show p.j<=m;walk_at "o"
  | succ n ih=>
   intro p hp;rw[pth];refine ih _ ?_;unfold advP
   split
   ·show p.j+1+(p.more-1)<=m;walk_at "o"
   ·show(SetTable.leap m p.i p.perturb).1+(SetTable.runEnd m (SetTable.leap m p.i p.perturb).1-(SetTable.leap m p.i p.perturb).1)<=m
    have:(SetTable.leap m p.i p.perturb).1<m+1:=Nat.mod_lt _ (by walk_at "o")
    generalize (SetTable.leap m p.i p.perturb).1=x at *;unfold SetTable.runEnd
    split<;>walk_at "o"
 intro n;refine key n _ ?_;show SetTable.bits h%(m+1)+(SetTable.runEnd m (SetTable.bits h%(m+1))-SetTable.bits h%(m+1))<=m
 have:SetTable.bits h%(m+1)<m+1:=Nat.mod_lt _ (by walk_at "o")
 generalize SetTable.bits h%(m+1)=x at *;unfold SetTable.runEnd
 split<;>walk_at "o"
theorem X6 {o:Array (Option Nat)}{j:Nat}:o.getD j (some 0)=none↔o[j]? =some none:=by
 rw[jU];cases h:o[j]? with
 | none=>simp
 | some x=>simp
theorem a19 {m:Nat}{owner:Array (Option Nat)}:∀(fuel i pt s0:Nat),s0<fuel->owner[(leaps m s0 (i,pt)).1]? =some none->
  ∃j n,SetTable.layClean.free m owner fuel i pt=some j/\owner[j]? =some none/\n<=10*s0+9/\(pth m n (run m i pt)).j=j/\∀a,a<n->owner[(pth m a (run m i pt)).j]? ≠some none
 | 0,_,_,_,h,_=>absurd h (by walk_at "o")
 | fuel+1,i,pt,s0,h,hs=>by
  rw[SetTable.layClean.free];have inrun:∀k,k<=SetTable.runEnd m i-i->(pth m k (run m i pt)).j=i+k:=fun k hk=>by rw[a0X m k (run m i pt) hk];rfl
  cases hf:List.find? (fun k=>(owner.getD (i+k) (some 0)).isNone) (List.range (SetTable.runEnd m i+1-i)) with
  | some k=>
   obtain⟨h1,h2,h3⟩:=List.find?_range_eq_some.mp hf;have hk:k<=SetTable.runEnd m i-i:=by have:=xB.mp h2;walk_at "o"
   have h9:=a2r m i;refine⟨i+k,k,rfl,X6.mp (Option.isNone_iff_eq_none.mp h1),by walk_at "o",inrun k hk,fun a ha z=>?_⟩
   rw[inrun a (by walk_at "o")] at z
   have:=h3 a ha
   rw[X6.mpr z] at this;simp at this
  | none=>
   have hn:=List.find?_range_eq_none.mp hf;have all:∀k,k<=SetTable.runEnd m i-i->owner[i+k]? ≠some none:=fun k hk z=>by
    have:=hn k (by have:=b1Y m i;walk_at "o")
    rw[X6.mpr z] at this;simp at this
   cases s0 with
   | zero=>exact absurd hs (all 0 (jG _))
   | succ s0=>
    dsimp only;obtain⟨j,n,e1,e2,e3,e4,e5⟩:=a19 fuel (SetTable.leap m i pt).1 (SetTable.leap m i pt).2 s0 (by walk_at "o") hs
    have h9:=a2r m i;refine⟨j,SetTable.runEnd m i-i+1+n,e1,e2,by walk_at "o",by rw[z9,a2I];exact e4,fun a ha=>?_⟩
    by_cases hl:a<=SetTable.runEnd m i-i
    ·rw[inrun a hl];exact all a hl
    ·rw[show a=SetTable.runEnd m i-i+1+(a-(SetTable.runEnd m i-i+1)) by walk_at "o",z9,a2I]
     exact e5 _ (by walk_at "o")
structure SOw (m:Nat) (hs:List Int) (owner:Array (Option Nat)) (Js:List Nat):Prop where
 sz:owner.size=m+1
 ln:Js.length=hs.length
 nd:Js.Nodup
 le:∀j∈Js,j<=m
 at_:∀(k j:Nat),Js[k]? =some j->owner[j]? =some (some k)
 no:∀(j:Nat),j<=m->j∉Js->owner[j]? =some none
 way:∀(k j:Nat) (h:Int),Js[k]? =some j->hs[k]? =some h->Way m Js h j
def layStep (m:Nat) (acc:Option (Array (Option Nat)×Nat)) (h:Int):Option (Array (Option Nat)×Nat):=do
 let __x <-acc
 match __x with
  | (owner,k)=>do
   let j <-SetTable.layClean.free m owner (SetTable.turns m) (SetTable.bits h%(m+1)) (SetTable.bits h)
   pure (owner.setIfInBounds j (some k),k+1)
theorem a9N {k m:Nat}(hm:m+1=2^k){hs:List Int}{owner:Array (Option Nat)}{Js:List Nat}(O:SOw m hs owner Js)(few:hs.length<m+1)(h:Int):
  ∃j owner',layStep m (some (owner,hs.length)) h=some (owner',(hs++[h]).length)/\SOw m (hs++[h]) owner' (Js++[j]):=by
 have fr:∃j,j<=m/\j∉Js:=by
  apply jD;intro hn;have sub:List.range (m+1) ⊆ Js:=fun j hj=>by
   apply jD;intro hx;exact hn ⟨j,by have:=xB.mp hj;walk_at "o",hx⟩
  have:=jO nodup_range sub
  rw[length_range,O.ln] at this;walk_at "o"
 obtain⟨j0,hj0,hn0⟩:=fr;obtain⟨s,hs1,es⟩:=a1C hm (i:=SetTable.bits h%(m+1)) (pt:=SetTable.bits h) (Nat.mod_lt _ (by walk_at "o")) (a4T h) (show j0<m+1 by walk_at "o")
 obtain⟨j,n,e1,e2,e3,e4,e5⟩:=a19 (m:=m) (owner:=owner) (SetTable.turns m) (SetTable.bits h%(m+1)) (SetTable.bits h) s (by show s<m+15;walk_at "o") (by rw[es];exact O.no j0 hj0 hn0)
 have jl:j<owner.size:=(qZ.mp e2).1;have jm:j<=m:=by have:=O.sz;walk_at "o"
 have jn:j∉Js:=fun z=>by
  obtain⟨i,hi⟩:=jY.mp z;rw[O.at_ i j hi] at e2;cases e2
 have occ:∀x,x<=m->owner[x]? ≠some none->x∈Js:=fun x hx hz=>by
  apply jD;intro hn;exact hz (O.no x hx hn)
 have pl:∀a,(pth m a (run m (SetTable.bits h%(m+1)) (SetTable.bits h))).j<=m:=fun a=>a7I m h a;have sub:∀x∈Js,x∈Js++[j]:=fun x hx=>yR _ hx;refine⟨j,owner.setIfInBounds j (some hs.length),?_,?_,?_,?_,?_,?_,?_,?_⟩
 ·unfold layStep;simp only[Option.bind_eq_bind,bind_some,e1,qK];rfl
 ·rw[Array.size_setIfInBounds];exact O.sz
 ·rw[qK,qK,O.ln];rfl
 ·rw[nodup_append];exact⟨O.nd,by simp,fun x hx y hy=>by rw[zS.mp hy];exact fun z=>jn (z▸hx)⟩
 ·intro x hx;rcases jB.mp hx with z|z
  ·exact O.le x z
  ·rw[zS.mp z];exact jm
 ·intro i x hx;rw[List.getElem?_append] at hx;split at hx
  ·have hx':=qQ hx;rw[Array.getElem?_setIfInBounds_ne (fun z:j=x=>jn (z▸hx'))];exact O.at_ i x hx
  ·rename_i hi;have e0:i-Js.length=0:=by
    cases e:i-Js.length with
    | zero=>rfl
    | succ q=>rw[e] at hx;simp at hx
   rw[e0] at hx;cases hx;rw[Array.getElem?_setIfInBounds,if_pos rfl,if_pos jl,<-O.ln,show i=Js.length by walk_at "o"]
 ·intro x hx hn;rw[jB,not_or] at hn;rw[Array.getElem?_setIfInBounds_ne (fun z:j=x=>hn.2 (by simp[z]))]
  exact O.no x hx hn.1
 ·intro i x hh hx hk;rw[List.getElem?_append] at hx hk;rw[O.ln] at hx;split at hx
  ·rename_i hi;rw[if_pos hi] at hk;exact(O.way i x hh hx hk).mono sub
  ·rename_i hi;rw[if_neg hi] at hk;have e0:i-hs.length=0:=by
    cases e:i-hs.length with
    | zero=>rfl
    | succ q=>rw[e] at hx;simp at hx
   rw[e0] at hx hk;cases hx;cases hk;exact⟨n,by walk_at "o",e4,fun a ha=>sub _ (occ _ (pl a) (e5 a ha))⟩
theorem b1d (m:Nat):SOw m [] (Array.replicate (m+1) none) []:=
 ⟨by simp,rfl,nodup_nil,(fun _ h=>nomatch h),(fun k j h=>by simp at h),(fun j hj _=>by rw[Array.getElem?_replicate,if_pos (by walk_at "o")]),fun k j h hx=>by simp at hx⟩
theorem a4F {k m:Nat}(hm:m+1=2^k):∀(rest pre:List Int) (owner:Array (Option Nat)) (Js:List Nat),SOw m pre owner Js->pre.length+rest.length<=m->
  ∃owner' Js',rest.foldl (layStep m) (some (owner,pre.length))=some (owner',(pre++rest).length)/\SOw m (pre++rest) owner' Js'
 | [],pre,owner,Js,O,_=>⟨owner,Js,by simp,by simpa using O⟩
 | h::rest,pre,owner,Js,O,hl=>by
  rw[zV] at hl;obtain⟨j,owner',e,O'⟩:=a9N hm O (by walk_at "o") h
  obtain⟨o2,J2,e2,O2⟩:=a4F hm rest (pre++[h]) owner' _ O' (by simp;walk_at "o")
  refine⟨o2,J2,?_,by simpa using O2⟩
  rw[List.foldl_cons,e,e2];simp
theorem a77 {k m:Nat}(hm:m+1=2^k){hashes:Array Int}(few:hashes.size<=m):∃owner Js,SetTable.layClean m hashes=some owner/\SOw m hashes.toList owner Js:=by
 obtain⟨o,J,e,O⟩:=a4F hm hashes.toList [] _ _ (b1d m) (by simpa using few)
 rw[nil_append] at O e;refine⟨o,J,?_,O⟩;have key:SetTable.layClean m hashes=Option.map (fun x=>x.1) (hashes.foldl (layStep m) (some (Array.replicate (m+1) none,0))):=rfl;rw[key,<-Array.foldl_toList];show Option.map _ (List.foldl (layStep m) (some (Array.replicate (m+1) none,([]:List Int).length)) hashes.toList)=_;rw[e];rfl
def liveL (m:Nat) (owner:Array (Option Nat)):List (Nat×Nat):=List.filterMap (fun j=>Option.map (fun x=>(j,x)) (owner.getD j none)) (List.range (m+1))
theorem a1d (f:Nat->Option Nat):∀l:List Nat,(l.filterMap fun j=>(f j).map fun x=>(j,x)).map (·.1)=l.filter fun j=>(f j).isSome
 | []=>rfl
 | j::l=>by
  rw[xQ,List.filter_cons];cases e:f j with
  | none=>simp[a1d f l]
  | some x=>simp[a1d f l]
section
variable {m:Nat}{hs:List Int}{owner:Array (Option Nat)}{Js:List Nat}
theorem B7 (O:SOw m hs owner Js){j k:Nat}:(j,k)∈liveL m owner↔Js[k]? =some j:=by
 unfold liveL;rw[yQ];constructor
 ·rintro⟨x,hx,e⟩;have hx:=xB.mp hx;cases e1:owner.getD x none with
  | none=>rw[e1] at e;cases e
  | some y=>
   rw[e1] at e;cases e;have e2:owner[j]? =some (some k):=by
    rw[jU] at e1;cases e3:owner[j]? with
    | none=>rw[e3] at e1;cases e1
    | some z=>rw[e3] at e1;exact congrArg some e1
   by_cases hj:j∈Js
   ·obtain⟨i,hi⟩:=jY.mp hj;have e4:=O.at_ i j hi;rw[e2] at e4;cases e4;exact hi
   ·rw[O.no j (by walk_at "o") hj] at e2;cases e2
 ·intro h;refine⟨j,xB.mpr (by have:=O.le j (qQ h);walk_at "o"),?_⟩
  rw[jU,O.at_ k j h];rfl
theorem a4Q:(liveL m owner).Pairwise fun a b=>a.1<b.1:=by
 have e:((liveL m owner).map (·.1)).Pairwise (· < ·):=by
  unfold liveL;rw[a1d];exact List.Pairwise.filter _ List.pairwise_lt_range
 exact xU.mp e
theorem a5X (O:SOw m hs owner Js):((liveL m owner).map (·.2)).Perm (List.range hs.length):=by
 refine(xZ ?_ nodup_range).mpr fun k=>?_
 ·refine xU.mpr ((a4Q (m:=m) (owner:=owner)).imp_of_mem fun{a b} ha hb h z=>?_);have e1:=(B7 O (j:=a.1) (k:=a.2)).mp ha;have e2:=(B7 O (j:=b.1) (k:=b.2)).mp hb;rw[z,e2] at e1
  have:=jC e1
  walk_at "o"
 ·rw[xB,qG];constructor
  ·rintro⟨⟨j,x⟩,h,rfl⟩
   have:=(zQ.mp ((B7 O).mp h)).1
   rw[O.ln] at this;exact this
  ·intro h;have h':k<Js.length:=by rw[O.ln];exact h
   exact⟨(Js[k],k),(B7 O).mpr (qT h'),rfl⟩
end
theorem a5d {α β:Type}(f:Nat->Option β)(g:Nat->β):∀(l:List (α×Nat)),(∀p∈l,f p.2=some (g p.2))->(l.map (·.2)).filterMap f=l.map fun p=>g p.2
 | [],_=>rfl
 | p::l,h=>by
  rw[zI,xQ,h p zJ,zI,a5d f g l fun q hq=>h q (zL _ hq)]
theorem a58 {β:Type}(xs:List β):(List.range xs.length).filterMap (fun i=>xs[i]?)=xs:=by
 induction xs with
 | nil=>rfl
 | cons x xs ih=>
  rw[zV,List.range_succ_eq_map,xQ];show x::((List.range xs.length).map Nat.succ).filterMap (fun i=>(x::xs)[i]?)=_;rw[List.filterMap_map];exact congrArg (x :: ·) ih
theorem a6i {t:SetTable}{es:Array (Int×Value)}(T:Tb t es){wanted k:Nat}(hk:SetTable.sizeAbove wanted=2^k)(h8:8<=SetTable.sizeAbove wanted)(h13:SetTable.sizeAbove wanted<=8192)(few:es.size<SetTable.sizeAbove wanted):
  ∃t' order,t.relaid (es.map (·.1)) wanted=some (t',order)/\Tb t' (order.filterMap fun x=>es[x]?)/\(order.filterMap fun x=>es[x]?).toList.Perm es.toList/\t'.mask+1=SetTable.sizeAbove wanted/\t'.led=t.led/\t'.plain=t.plain:=by
 generalize hS:SetTable.sizeAbove wanted=S at *;have hm:S-1+1=2^k:=by walk_at "o"
 obtain⟨owner,Js,e,O⟩:=a77 hm (hashes:=es.map (·.1)) (by simp;walk_at "o")
 have len:((es.map (·.1)).toList).length=es.toList.length:=by simp
 have pm:=a5X O;rw[len] at pm;have ord:(((liveL (S-1) owner).map (·.2)).toArray.filterMap fun x=>es[x]?).toList=((liveL (S-1) owner).map (·.2)).filterMap fun x=>es.toList[x]?:=by
  simp
 have pe:(((liveL (S-1) owner).map (·.2)).toArray.filterMap fun x=>es[x]?).toList.Perm es.toList:=by
  rw[ord]
  have:=pm.filterMap fun x=>es.toList[x]?
  rwa [a58] at this
 refine⟨{mask:=S-1,place:=((liveL (S-1) owner).map (·.1)).toArray,dummies:= #[],finger:=t.finger,led:=t.led,moves:=t.movedTo (S-1),plain:=t.plain},((liveL (S-1) owner).map (·.2)).toArray,?_,⟨⟨k,hm⟩,?_,?_,rfl,?_,?_,?_,?_⟩,pe,by show S-1+1=S;walk_at "o",rfl,rfl⟩
 ·unfold SetTable.relaid SetTable.laid;rw[hS,e];rfl
 ·show 7<=S-1;walk_at "o"
 ·show S-1<=8191;walk_at "o"
 ·have h1:=pe.length_eq;have h2:=pm.length_eq;simp at h1 h2 ⊢;walk_at "o"
 ·show((liveL (S-1) owner).map (·.1)).toArray.toList.Pairwise _;exact xU.mpr a4Q
 ·intro j hj;obtain⟨⟨a,b⟩,hp,rfl⟩:=qG.mp (show j∈(liveL (S-1) owner).map (·.1) from hj);exact O.le a (qQ ((B7 O).mp hp))
 ·intro q hq;have hz:q∈((liveL (S-1) owner).map (·.1)).zip (((liveL (S-1) owner).map (·.2)).toArray.filterMap fun x=>es[x]?).toList:=hq;have get:∀p∈liveL (S-1) owner,es.toList[p.2]? =some (es.toList.getD p.2 (0,.none)):=fun p hp=>by
   have:p.2<es.toList.length:=by
    have:=(zQ.mp ((B7 O (j:=p.1) (k:=p.2)).mp hp)).1
    rw[O.ln,len] at this;exact this
   simp[List.getD,qT this]
  rw[ord,a5d (fun x=>es.toList[x]?) (fun x=>es.toList.getD x (0,.none)) _ get,List.zip_map'] at hz;obtain⟨p,hp,rfl⟩:=qG.mp hz;have hj:=(B7 O (j:=p.1) (k:=p.2)).mp hp
  have w:=O.way p.2 p.1 _ hj (by
   show((es.map (·.1)).toList)[p.2]? =some (es.toList.getD p.2 (0,.none)).1
   rw[Array.toList_map,qH,get p hp];rfl)
  refine w.mono fun x hx=>?_;obtain⟨i,hi⟩:=jY.mp hx;show x∈(liveL (S-1) owner).map (·.1);exact qG.mpr ⟨(x,i),(B7 O).mpr hi,rfl⟩
theorem a2p:∀n,n<8192->(∃k,SetTable.sizeAbove n=2^k)/\8<=SetTable.sizeAbove n/\SetTable.sizeAbove n<=8192/\n<SetTable.sizeAbove n:=by
 have key:∀(fuel k n:Nat),n<2^(k+fuel)->(∃j,SetTable.sizeAbove.go n fuel (2^k)=2^j/\k<=j/\j<=k+fuel/\(j=k\/2^(j-1)<=n))/\n<SetTable.sizeAbove.go n fuel (2^k):=by
  intro fuel
  induction fuel with
  | zero=>intro k n h;exact⟨⟨k,rfl,zE _,zE _,.inl rfl⟩,h⟩
  | succ fuel ih=>
   intro k n h;rw[SetTable.sizeAbove.go]
   by_cases hl:2^k<=n
   ·rw[if_pos hl,<-xT];obtain⟨⟨j,e,h1,h2,h3⟩,h4⟩:=ih (k+1) n (by rw[show k+1+fuel=k+(fuel+1) by walk_at "o"];exact h)
    refine⟨⟨j,e,by walk_at "o",by walk_at "o",.inr ?_⟩,h4⟩
    rcases h3 with rfl|h3
    ·exact hl
    ·exact h3
   ·rw[if_neg hl];exact⟨⟨k,rfl,zE _,by walk_at "o",.inl rfl⟩,by walk_at "o"⟩
 intro n hn;obtain⟨⟨j,e,h1,h2,h3⟩,h4⟩:=key 64 3 n (zF hn (by decide))
 have e':SetTable.sizeAbove n=2^j:=e;refine⟨⟨j,e'⟩,?_,?_,h4⟩
 ·rw[e'];exact zX (by decide:8<=2^3) (jK (by decide) h1)
 ·rw[e']
  have:j<=13:=by
   rcases h3 with rfl|h3
   ·walk_at "o"
   ·apply jD;intro hj
    have:2^13<=2^(j-1):=jK (by decide) (by walk_at "o")
    have e13:(2:Nat)^13=8192:=by decide
    walk_at "o"
  exact zX (jK (by decide) this) (by decide)
end Z
theorem ex5 {α β:Type}{A B C:α->β->Prop}{G:Prop}(h:∃x y,A x y/\B x y/\C x y)(k:∀x y,A x y->B x y->C x y->G):G:=by
 obtain⟨x,y,a,b,c⟩:=h;exact k x y a b c
namespace L2
open PySem PySem.Spec PyProof.Rows
abbrev Key:=Sum Int Str
def keyIs:Key->Value->Bool
 | .inl k,v=>Value.isInt k v
 | .inr x,v=>Value.isStrOf x v
def keyH (w:World):Key->Int
 | .inl k=>hashInt k
 | .inr x=>hashStr w x
theorem p8:∀{k:Key} {v:Value},keyIs k v=true->(∃i t,k=Sum.inl i/\v=Value.int i t)\/(∃x t,k=Sum.inr x/\v=Value.str x t)
 | .inl i,v,h=>by
  obtain⟨t,e⟩:=Value.isInt_shape (k:=i) (v:=v) h;exact .inl ⟨i,t,rfl,e⟩
 | .inr x,v,h=>by
  obtain⟨t,e⟩:=Value.isStrOf_shape (x:=x) (v:=v) h;exact .inr ⟨x,t,rfl,e⟩
theorem a5E (i:Int)(t:Tok):keyIs (.inl i) (.int i t)=true:=by simp[keyIs,Value.isInt]
theorem a6o (x:Str)(t:Tok):keyIs (.inr x) (.str x t)=true:=by simp[keyIs,Value.isStrOf]
theorem b17 (a b:Int):decide ((Sum.inl a:Key)=Sum.inl b)=(a==b):=by
 by_cases e:a=b
 ·subst e;simp
 ·have h:¬(Sum.inl a:Key)=Sum.inl b:=fun q=>e (Sum.inl.inj q);rw[zU h];exact(beq_eq_false_iff_ne.mpr e).symm
theorem b04 (a b:Str):decide ((Sum.inr a:Key)=Sum.inr b)=decide (a=b):=by
 by_cases e:a=b
 ·subst e;simp
 ·have h:¬(Sum.inr a:Key)=Sum.inr b:=fun q=>e (Sum.inr.inj q);rw[zU h,zU e]
theorem b1O (a:Int)(b:Str):decide ((Sum.inl a:Key)=Sum.inr b)=false:=zU (fun q=>nomatch q)
theorem b1i (a:Str)(b:Int):decide ((Sum.inr a:Key)=Sum.inl b)=false:=zU (fun q=>nomatch q)
def mixKind (prog:Program) (w:World):PySem.KeyKind prog w Key where
 is:=keyIs
 hash:=keyH w
 inj:=fun v a b ha hb=>by
  rcases p8 ha with ⟨i,t,rfl,rfl⟩|⟨x,t,rfl,rfl⟩
  ·rcases p8 hb with ⟨j,u,rfl,e⟩|⟨y,u,rfl,e⟩
   ·injection e with e1 _;rw[e1]
   ·exact nomatch e
  ·rcases p8 hb with ⟨j,u,rfl,e⟩|⟨y,u,rfl,e⟩
   ·exact nomatch e
   ·injection e with e1 _;rw[e1]
 byValue:=fun k v h=>by
  rcases p8 h with ⟨i,t,rfl,rfl⟩|⟨x,t,rfl,rfl⟩<;>rfl
 pyHash:=fun hv h=>by
  rcases p8 hv with ⟨i,t,rfl,rfl⟩|⟨x,t,rfl,rfl⟩
  ·exact wpAny_pyHash_int h
  ·exact wpAny_pyHash_str h
 eqBool:=fun hu hv h=>by
  rcases p8 hu with ⟨i,t,rfl,rfl⟩|⟨x,t,rfl,rfl⟩
  ·rcases p8 hv with ⟨j,u,rfl,rfl⟩|⟨y,u,rfl,rfl⟩
   ·rw[b17] at h;exact wpAny_eqBool_int h
   ·rw[b1O] at h;exact SeqAt.EqAt.int_str i t y u _ _ _ _ h
  ·rcases p8 hv with ⟨j,u,rfl,rfl⟩|⟨y,u,rfl,rfl⟩
   ·rw[b1i] at h;exact SeqAt.EqAt.str_int x t j u _ _ _ _ h
   ·rw[b04] at h;exact wpAny_eqBool_str h
 «strs»:=fun k x t v h=>by
  rcases p8 h with ⟨i,u,rfl,e⟩|⟨y,u,rfl,e⟩
  ·exact nomatch e
  ·injection e with e1 _
   subst e1;cases v<;>rfl
theorem a2W (prog:Program)(w:World)(i:Int)(t:Tok):(mixKind prog w).is (.inl i) (.int i t)=true:=a5E i t
theorem a2V (prog:Program)(w:World)(x:Str)(t:Tok):(mixKind prog w).is (.inr x) (.str x t)=true:=a6o x t
inductive V where
 | non|bl (b:Bool)|int (i:Int)|str (x:Str)|byt (b:Array UInt8)|flt (b:UInt64)|ref (a:Addr)|ty (n:String)
def RelV:V->Value->Prop
 | .non,u=>u=Value.none
 | .bl b,u=>u=Value.bool b
 | .int i,u=>∃t,u=Value.int i t
 | .str x,u=>∃t,u=Value.str x t
 | .byt b,u=>∃t,u=Value.bytes b t
 | .flt b,u=>∃t,u=Value.float b t
 | .ref a,u=>u=Value.ref a
 | .ty n,u=>u=Value.type n
abbrev Vals:List V->List Value->Prop:=Paired RelV
theorem Vals.length {xs:List V}{us:List Value}(r:Vals xs us):xs.length=us.length:=Paired.length r
theorem Vals.get:∀{xs:List V} {us:List Value} {i:Nat} {x:V},Vals xs us->xs[i]? =some x->∃u,us[i]? =some u/\RelV x u
 | _,_,_,_,.nil,e=>by simp at e
 | _,_,0,_,.cons r _,e=>by simp at e;subst e;exact⟨_,rfl,r⟩
 | _,_,i+1,x,.cons _ t,e=>by
  obtain⟨u,h1,h2⟩:=Vals.get (i:=i) (x:=x) t (by simpa using e)
  exact⟨u,by simpa using h1,h2⟩
theorem Vals.set {x:V}{u:Value}(r:RelV x u):∀{xs:List V} {us:List Value} (i:Nat),Vals xs us->Vals (xs.set i x) (us.set i u)
 | _,_,_,.nil=>.nil
 | _,_,0,.cons _ t=>.cons r t
 | _,_,i+1,.cons q t=>.cons q (Vals.set r i t)
theorem Vals.append:∀{xs ys:List V} {us ws:List Value},Vals xs us->Vals ys ws->Vals (xs++ys) (us++ws)
 | _,_,_,_,.nil,s=>s
 | _,_,_,_,.cons r t,s=>.cons r (Vals.append t s)
theorem Vals.take:∀{xs:List V} {us:List Value} (n:Nat),Vals xs us->Vals (xs.take n) (us.take n)
 | _,_,0,_=>.nil
 | _,_,_+1,.nil=>.nil
 | _,_,n+1,.cons r t=>.cons r (Vals.take n t)
theorem Vals.drop:∀{xs:List V} {us:List Value} (n:Nat),Vals xs us->Vals (xs.drop n) (us.drop n)
 | _,_,0,r=>r
 | _,_,_+1,.nil=>.nil
 | _,_,n+1,.cons _ t=>Vals.drop n t
def RelO:Option V->Option Value->Prop
 | some v,some u=>RelV v u
 | none,none=>True
 | _,_=>False
def KV {κ:Type}:List (κ×V)->List (κ×Value)->Prop:=Paired fun(p:κ×V) (q:κ×Value)=>p.1=q.1/\RelV p.2 q.2
def kV:Key->V
 | .inl i=>.int i
 | .inr x=>.str x
inductive HO where
 | lst (xs:List V)
 | tup (xs:List V)
 | dK (kvs:List (Key×V))|dT (kvs:List (List Key×V))
 | set (S:Int->Bool) (n:Nat)
 | ins (C dx:Addr) (fs:List (Str×V))
 | own (x:Addr)
 | xd (fs:List (Str×V))
 | met (f x:Addr)
 | rng (lo hi:Int)
 | frz (o:Obj) (u:HO)
 | tbl (ps:Array Value)
 | ext (φ:Heap->Prop)
abbrev Hp:=Addr->Option HO
def upd (H:Hp) (a:Addr) (o:HO):Hp:=fun b=>if b=a then some o else H b
theorem j3 {H:Hp}{a:Addr}{o:HO}:upd H a o a=some o:=by unfold upd;rw[if_pos rfl]
theorem c9 {H:Hp}{a b:Addr}{o:HO}(h:b≠a):upd H a o b=H b:=by unfold upd;rw[if_neg h]
theorem o9 {H:Hp}{a b:Addr}{o:HO}(h:H a=some o)(h':H b=none):a≠b:=by
 intro e;subst e;rw[h] at h';cases h'
def TupN (h:Heap) (a:Addr) (its:Array Value):Prop:=∃o,h.get? a=some o/\o.cls= .type "tuple"/\(∃n,o.data= .seq its n)/\o.dict=none
theorem TupN.is {h:Heap}{a:Addr}{its:Array Value}(x:TupN h a its):IsTup h a its:=let ⟨o,e,c,d,_⟩:=x;⟨o,e,c,d⟩
theorem TupN.new (h:Heap)(its:Array Value):TupN (h.push {cls:=.type "tuple",data:=.seq its}) h.objs.size its:=⟨_,zK _ rfl,rfl,⟨_,rfl⟩,rfl⟩
def Rd (H:Hp) (a:Addr) (u:HO):Prop:=H a=some u\/∃o,H a=some (.frz o u)
def SqT (K:PySem.W.Frag) (H:Hp) (a:Addr) (xs:List V):Prop:=
 Rd H a (.tup xs)\/
  ∃(o:Obj) (its:Array Value) (n:Nat),K.lookup a=some o/\o.cls= .type "tuple"/\o.dict=none/\o.data= .seq its n/\its.size<=sizeLine/\Vals xs its.toList
theorem Rd.upd {H:Hp}{a b:Addr}{u o:HO}(r:Rd H b u)(n:b≠a):Rd (upd H a o) b u:=by
 rcases r with r|⟨ob,r⟩
 ·exact .inl (by rw[c9 n];exact r)
 ·exact .inr ⟨ob,by rw[c9 n];exact r⟩
theorem Rd.ex {H:Hp}{b:Addr}{u:HO}(r:Rd H b u):H b≠none:=by
 rcases r with r|⟨ob,r⟩<;>rw[r]<;>exact nofun
theorem Rd.ne {H:Hp}{a b:Addr}{u:HO}(r:Rd H b u)(n:H a=none):b≠a:=fun z=>r.ex (by rw[z];exact n)
section
variable (K:PySem.W.Frag)(P:Program)(w:World)
def ObjOk (H:Hp) (h:Heap) (a:Addr):HO->Prop
 | .lst xs=>xs.length<=sizeLine/\∃(its:List Value) (n:Nat),Vals xs its/\h.get? a=some {cls:=.type "list",data:=.seq its.toArray n}
 | .tup xs=>xs.length<=sizeLine/\∃its:List Value,Vals xs its/\TupN h a its.toArray
 | .dK kvs=>kvs.length<=sizeLine/\(a==sysModules)=false/\∃vs,KV kvs vs/\h.DictAt (mixKind P w) a vs kvs.length
 | .dT kvs=>kvs.length<=sizeLine/\(a==sysModules)=false/\∃xs:List (List Key×Addr×Value),
   Paired (fun(p:List Key×V) (q:List Key×Addr×Value)=>p.1=q.1/\SqT K H q.2.1 (p.1.map kV)/\RelV p.2 q.2.2) kvs xs/\
   ∃o es,h.get? a=some o/\o.ExactDict/\o.data= .dict es kvs.length/\es.toList=xs.map (entryOfKey (tupleKind (mixKind P w)))/\(xs.map (·.1)).Nodup
 | .set S n=>h.SetOf (intKind P w) a S n
 | .ins C dx fs=>H dx=some (.own a)/\fs.length<=1000/\dx≠a/\h.get? a=some (PySem.W.instObj C dx)/\
   ∃mA,h.Ns1 dx mA/\(∀f,RelO (fs.lookup f) (mA f))/\PySem.Within mA (fs.map (·.1))
 | .own _=>∃o,h.get? a=some o
 | .xd fs=>∃mA,h.Ns1 a mA/\∀f,RelO (fs.lookup f) (mA f)
 | .rng lo hi=>∃t u v,h.get? a=some {cls:=.type "range",data:=.fields #[.int lo t,.int hi u,.int 1 v]}
 | .frz o u=>h.get? a=some o/\ObjOk H h a u
 | .tbl ps=>h.get? a=some {cls:=.none,data:=.fields ps}
 | .met f x=>h.get? a=some (PySem.W.methodObj (.ref f) (.ref x))
 | .ext φ=>φ h/\(∃o,h.get? a=some o)/\∀h1 h2:Heap,φ h1->(∀o,h1.get? a=some o->h2.get? a=some o)->φ h2
def HOk (H:Hp) (h:Heap):Prop:=∀a o,H a=some o->ObjOk K P w H h a o
end
section
variable {K:PySem.W.Frag}{P:Program}{w:World}{H H':Hp}{h h':Heap}{a:Addr}{o:HO}
theorem ObjOk.lt (x:ObjOk K P w H h a o):a<h.objs.size:=by
 cases o with
 | lst xs=>obtain⟨_,_,_,_,e⟩:=x;exact zO e
 | tup xs=>obtain⟨_,_,_,p⟩:=x;exact p.is.lt
 | dK kvs=>obtain⟨_,_,_,_,o,_,e,_⟩:=x;exact zO e
 | dT kvs=>obtain⟨_,_,_,_,o,_,e,_⟩:=x;exact zO e
 | set S n=>obtain⟨o,_,_,_,e,_⟩:=x;exact zO e
 | ins C dx fs=>obtain⟨_,_,_,e,_⟩:=x;exact zO e
 | own y=>obtain⟨_,e⟩:=x;exact zO e
 | xd fs=>obtain⟨_,⟨_,_,_,e,_⟩,_⟩:=x;exact zO e
 | rng lo hi=>obtain⟨_,_,_,e⟩:=x;exact zO e
 | frz ob u=>obtain⟨e,_⟩:=x;exact zO e
 | tbl ps=>exact zO (show h.get? a=some _ from x)
 | met f y=>exact zO (show h.get? a=some _ from x)
 | ext φ=>obtain⟨_,⟨_,e⟩,_⟩:=x;exact zO e
theorem Paired.mapP {α β:Type}{F G:α->β->Prop}:∀{l₁:List α} {l₂:List β},Paired F l₁ l₂->(∀a b,F a b->G a b)->Paired G l₁ l₂
 | _,_,.nil,_=>.nil
 | _,_,.cons r t,f=>.cons (f _ _ r) (Paired.mapP t f)
theorem ObjOk.stay (x:ObjOk K P w H h a o)(k:∀b u,(b=a\/H b=some (.own a))->h.get? b=some u->h'.get? b=some u)
  (ho:∀b,H b=some (.own a)->H' b=some (.own a)) (ht:∀b xs,Rd H b (.tup xs)->Rd H' b (.tup xs)):ObjOk K P w H' h' a o:=by
 induction o with
 | lst xs=>obtain⟨z,its,n,r,e⟩:=x;exact⟨z,its,n,r,k _ _ (.inl rfl) e⟩
 | tup xs=>obtain⟨z,its,r,ob,e,c⟩:=x;exact⟨z,its,r,ob,k _ _ (.inl rfl) e,c⟩
 | dK kvs=>obtain⟨z,y,vs,r,ob,es,e,c⟩:=x;exact⟨z,y,vs,r,ob,es,k _ _ (.inl rfl) e,c⟩
 | dT kvs=>
  obtain⟨z,y,xs,r,ob,es,e,c⟩:=x;exact⟨z,y,xs,Paired.mapP r fun p q z=>⟨z.1,z.2.1.imp (ht _ _) id,z.2.2⟩,ob,es,k _ _ (.inl rfl) e,c⟩
 | set S n=>obtain⟨ob,es,ep,t,e,c⟩:=x;exact⟨ob,es,ep,t,k _ _ (.inl rfl) e,c⟩
 | ins C dx fs=>
  obtain⟨d,z,ne,e,mA,⟨od,es,ep,e2,c⟩,r⟩:=x;exact⟨ho _ d,z,ne,k _ _ (.inl rfl) e,mA,⟨od,es,ep,k _ _ (.inr d) e2,c⟩,r⟩
 | own y=>obtain⟨ob,e⟩:=x;exact⟨ob,k _ _ (.inl rfl) e⟩
 | xd fs=>obtain⟨mA,⟨od,es,ep,e,c⟩,r⟩:=x;exact⟨mA,⟨od,es,ep,k _ _ (.inl rfl) e,c⟩,r⟩
 | rng lo hi=>obtain⟨t,u,v,e⟩:=x;exact⟨t,u,v,k _ _ (.inl rfl) e⟩
 | frz ob u ih=>obtain⟨e,q⟩:=x;exact⟨k _ _ (.inl rfl) e,ih q⟩
 | tbl ps=>
  have e:h.get? a=some {cls:=.none,data:=.fields ps}:=x;show h'.get? a=some {cls:=.none,data:=.fields ps};exact k a _ (.inl rfl) e
 | met f y=>
  have e:h.get? a=some (PySem.W.methodObj (.ref f) (.ref y)):=x;show h'.get? a=some (PySem.W.methodObj (.ref f) (.ref y));exact k a _ (.inl rfl) e
 | ext φ=>obtain⟨p,⟨o,e⟩,st⟩:=x;exact⟨st _ _ p fun o q=>k _ _ (.inl rfl) q,⟨o,k _ _ (.inl rfl) e⟩,st⟩
theorem HOk.lt (x:HOk K P w H h)(e:H a=some o):a<h.objs.size:=(x a o e).lt
theorem HOk.fresh (x:HOk K P w H h)(e:h.objs.size<=a):H a=none:=by
 cases q:H a with
 | none=>rfl
 | some u=>exact absurd (zF (x.lt q) e) (jE _)
theorem HOk.kept (x:HOk K P w H h)(k:∀b u,h.get? b=some u->h'.get? b=some u):HOk K P w H h':=fun a o e=>
 (x a o e).stay (fun b u _ q=>k b u q) (fun _ q=>q) fun _ _ q=>q
theorem HOk.laid (x:HOk K P w H h)(k:∀b u,h.get? b=some u->h'.get? b=some u)(hp:h.objs.size<=a)(new:ObjOk K P w (upd H a o) h' a o):HOk K P w (upd H a o) h':=fun b u e=>by
 have hn:=x.fresh hp
 by_cases hb:b=a
 ·subst hb;rw[j3] at e;cases e;exact new
 ·rw[c9 hb] at e;exact(x b u e).stay (fun c v _ q=>k c v q) (fun c q=>by rw[c9 (o9 q hn)];exact q) fun c xs q=>q.upd (q.ne hn)
end
theorem Rd.of {H:Hp}{a:Addr}{u:HO}(h:H a=some u):Rd H a u:=.inl h
theorem Rd.ok {K:PySem.W.Frag}{P:Program}{w:World}{H:Hp}{h:Heap}{a:Addr}{u:HO}(r:Rd H a u)(x:HOk K P w H h):ObjOk K P w H h a u:=by
 rcases r with r|⟨o,r⟩
 ·exact x a u r
 ·obtain⟨_,q⟩:=x a _ r;exact q
def Mut:Option HO->Prop
 | some (.lst _)=>True
 | some (.dK _)=>True
 | some (.dT _)=>True
 | some (.set _ _)=>True
 | some (.ins _ _ _)=>True
 | some (.ext _)=>True
 | _=>False
section
variable {K:PySem.W.Frag}{P:Program}{w:World}{H:Hp}{h h':Heap}{x e:Addr}{o':HO}
theorem HOk.write (ok:HOk K P w H h)(mu:Mut (H x))(he:e=x\/H e=some (.own x))(k:∀b u,b≠e->h.get? b=some u->h'.get? b=some u)(heo:∃u,h'.get? e=some u)
  (new:ObjOk K P w (upd H x o') h' x o'):HOk K P w (upd H x o') h':=fun b u q=>by
 have nown:∀c y,H c=some (.own y)->c≠x:=fun c y r z=>by subst z;rw[r] at mu;exact mu
 have ntup:∀c xs,Rd H c (.tup xs)->c≠x:=fun c xs r z=>by subst z;rcases r with r|⟨_,r⟩<;>rw[r] at mu<;>exact mu
 by_cases hb:b=x
 ·subst hb;rw[j3] at q;cases q;exact new
 ·rw[c9 hb] at q
  by_cases hbe:b=e
  ·have q':H b=some (.own x):=by
    rcases he with z|z
    ·exact absurd (hbe.trans z) hb
    ·rw[hbe];exact z
   rw[q] at q';cases q';obtain⟨v,hv⟩:=heo;exact⟨v,by rw[hbe];exact hv⟩
  ·refine(ok b u q).stay (fun c v hc r=>k c v ?_ r) (fun c r=>by rw[c9 (nown c b r)];exact r) fun c xs r=>r.upd (ntup c xs r)
   rcases hc with rfl|hc
   ·exact hbe
   ·rintro rfl;rcases he with z|z
    ·exact nown c b hc z
    ·rw[hc] at z;cases z;exact hb rfl
end
structure Un (fs ex:List Addr) (H H':Hp) (h h':Heap):Prop where
 keep:∀b o,h.get? b=some o->H b=none->b∉fs->b∉ex->h'.get? b=some o
 slot:∀b o,h.get? b=some o->H b=none->b∈fs->b∉ex->∃sl,h'.get? b=some {o with slots:=sl}
 free:∀b o,h.get? b=some o->H b=none->b∉ex->H' b=none
 there:∀b o,h.get? b=some o->b∉ex->∃o',h'.get? b=some o'
 tups:∀b xs,H b=some (.tup xs)->H' b=some (.tup xs)
 frzs:∀b o u,H b=some (.frz o u)->H' b=some (.frz o u)
 tbls:∀b ps,H b=some (.tbl ps)->∃more,H' b=some (.tbl (ps++more))
section
variable {fs ex:List Addr}{H H1:Hp}{h h1 h':Heap}{a x e:Addr}{o:HO}
theorem Un.any (u:Un fs ex H H1 h h1){b:Addr}{ob:Obj}(q:h.get? b=some ob)(n:H b=none)(hx:b∉ex):∃sl,h1.get? b=some {ob with slots:=sl}:=by
 by_cases hb:b∈fs
 ·exact u.slot b ob q n hb hx
 ·exact⟨ob.slots,u.keep b ob q n hb hx⟩
theorem Un.kept (k:∀b u,h.get? b=some u->h'.get? b=some u):Un fs ex H H h h':=
 ⟨fun b ob q _ _ _=>k b ob q,fun b ob q _ _ _=>⟨ob.slots,k b ob q⟩,fun _ _ _ n _=>n,fun b ob q _=>⟨ob,k b ob q⟩,fun _ _ q=>q,fun _ _ _ q=>q,fun _ ps q=>⟨#[],by rw[q];simp⟩⟩
theorem Un.refl:Un fs ex H H h h:=Un.kept fun _ _ q=>q
theorem Un.laid (k:∀b u,h.get? b=some u->h'.get? b=some u)(hp:h.objs.size<=a)(hn:H a=none):Un fs ex H (upd H a o) h h' where
 keep:=fun b u q _ _ _=>k b u q
 slot:=fun b u q _ _ _=>⟨u.slots,k b u q⟩
 free:=fun b u q n _=>by rw[c9 (zG (zF (zO q) hp))];exact n
 there:=fun b u q _=>⟨u,k b u q⟩
 tups:=fun b xs q=>by rw[c9 (o9 q hn)];exact q
 frzs:=fun b u xs q=>by rw[c9 (o9 q hn)];exact q
 tbls:=fun b ps q=>⟨#[],by rw[c9 (o9 q hn),q];simp⟩
theorem Un.write (mu:Mut (H x))(he:e=x\/H e=some (.own x))(k:∀b u,b≠e->h.get? b=some u->h'.get? b=some u)(heo:∃u,h'.get? e=some u):Un fs ex H (upd H x o) h h':=by
 have hx:∀b,H b=none->b≠x:=fun b n z=>by subst z;rw[n] at mu;exact mu
 have hb:∀b,H b=none->b≠e:=fun b n z=>by
  subst z;rcases he with r|r
  ·exact hx b n r
  ·rw[n] at r;cases r
 have hm:∀b u,H b=some u->¬Mut (some u)->b≠x:=fun b u q nm z=>by subst z;rw[q] at mu;exact nm mu
 refine⟨fun b u q n _ _=>k b u (hb b n) q,fun b u q n _ _=>⟨u.slots,k b u (hb b n) q⟩,fun b u q n _=>by rw[c9 (hx b n)];exact n,fun b u q _=>?_,
  fun b xs q=>by rw[c9 (hm b _ q fun z=>z)];exact q,fun b u xs q=>by rw[c9 (hm b _ q fun z=>z)];exact q,fun b ps q=>⟨#[],by rw[c9 (hm b _ q fun z=>z),q];simp⟩⟩
 by_cases hbe:b=e
 ·subst hbe;exact heo
 ·exact⟨u,k b u hbe q⟩
end
def trk (h:Heap) (H:Hp):List Addr:=(List.range h.objs.size).filter fun a=>(H a).isSome
def hidT (h:Heap) (H:Hp):Heap:=PySem.W.hideAll h (trk h H)
theorem a5J (h:Heap)(H:Hp):(hidT h H).objs.size=h.objs.size:=PySem.W.hideAll_size _ _
theorem a8c {h:Heap}{H:Hp}{b:Addr}{o:Obj}(e:h.get? b=some o)(n:H b=none):(hidT h H).get? b=some o:=
 PySem.W.hideAll_get _ e fun hm=>by
  have q:(H b).isSome=true:=(jP.mp hm).2;rw[n] at q;simp at q
theorem a9b {h:Heap}{H:Hp}{b:Addr}{o:Obj}(e:(hidT h H).get? b=some o):h.get? b=some o/\H b=none:=by
 have e':h.get? b=some o:=PySem.W.of_hideAll (trk h H) e;refine⟨e',?_⟩;cases q:H b with
 | none=>rfl
 | some x=>
  have hm:b∈trk h H:=jP.mpr ⟨xB.mpr (zO e'),by simp[q]⟩
  have z:(hidT h H).get? b=none:=PySem.W.hideAll_none (trk h H) hm;rw[z] at e;cases e
def allNews (g h:Heap) (L:Addr):List (Addr×Obj):=(List.range h.objs.size).filterMap fun a=>if a=L\/(g.get? a).isSome=true then none else(h.get? a).map fun o=>(a,o)
theorem a22 {g h:Heap}{L a:Addr}{o:Obj}(h1:a≠L)(h2:g.get? a=none)(h3:h.get? a=some o):(a,o)∈allNews g h L:=
 yQ.mpr ⟨a,xB.mpr (zO h3),by simp[h1,h2,h3]⟩
theorem a0V {g h:Heap}{L:Addr}{p:Addr×Obj}(hp:p∈allNews g h L):p.1≠L/\g.get? p.1=none/\h.get? p.1=some p.2:=by
 obtain⟨b,_,e⟩:=yQ.mp hp;split at e
 ·cases e
 ·rename_i hn;cases q:h.get? b with
  | none=>rw[q] at e;simp at e
  | some u=>
   rw[q] at e;simp only[jZ,Option.some.injEq] at e;subst e;refine⟨fun z=>hn (.inl z),?_,q⟩;show g.get? b=none;cases r:g.get? b with
   | none=>rfl
   | some v=>exact(hn (.inr (by simp[r]))).elim
def rest (g h:Heap) (L d:Addr):List (Addr×Obj):=(allNews g h L).filter fun p=>decide (p.1≠d)
theorem a4J {g h:Heap}{L d:Addr}:∀p∈rest g h L d,p.1≠d:=fun p hp=>vA (jP.mp hp).2
theorem a78 {g h:Heap}{L d a:Addr}{o:Obj}(h1:a≠L)(h2:g.get? a=none)(h3:h.get? a=some o)(h4:a≠d):(a,o)∈rest g h L d:=
 jP.mpr ⟨a22 h1 h2 h3,zP h4⟩
theorem a7a {g h:Heap}{L:Addr}:News g L h (allNews g h L):=fun p hp=>let ⟨a,b,c⟩:=a0V hp;⟨c,a,b⟩
theorem a9c {g h:Heap}{L d:Addr}{o:Obj}(h1:d≠L)(h2:g.get? d=none)(h3:h.get? d=some o):News g L h ((d,o)::rest g h L d):=fun p hp=>by
 rcases zN.mp hp with rfl|hp
 ·exact⟨h3,h1,h2⟩
 ·exact a7a p (jP.mp hp).1
theorem a2g {g h h':Heap}{L d:Addr}{m:Str->Option Value}(k:∀b o,g.get? b=some o->h.get? b=some o)(F:Fr g L h' m)(N:News g L h' (rest g h L d)):
  ∀b o,b≠L->b≠d->h.get? b=some o->h'.get? b=some o:=fun b o h1 h2 e=>by
 cases q:g.get? b with
 | some u=>
  have:=k b u q
  rw[e] at this;cases this;exact F.keep b _ q
 | none=>exact(N (b,o) (a78 h1 q e h2)).1
structure Mod (K:PySem.W.Frag) (mg:Str->Option Value) (base:Heap):Prop where
 kin:K.In base
 glob:base.Ns mainGlobals mg
 blt:∃mb,base.Ns builtinsNs mb/\∀x:Str,x≠"__name__"->mb x=bootBuiltins x
 nolimit:base.NoLimit
structure Cx where
 prog:Program
 w:World
 K:PySem.W.Frag
 mg:Str->Option Value
 base:Heap
 A:Around
 N:List Str
 s₀:Shared
 H₀:Hp
 env:Env
 outer:List Env
 stack:List Env
 ex:List Addr
 fn:Str->Bool
 calm:Bool
 pn:List (Addr×Obj)
 xe:Value->Shared->Prop
def frs (l:List Env):List Addr:=l.filterMap (·.frame)
abbrev Cx.fs (X:Cx):List Addr:=frs X.outer
def Vis (sc:Scope) (x:Str):Prop:=sc.names.lookup x=some .local\/sc.names.lookup x=some .cell\/sc.names.lookup x=some .free
def Loc (sc:Scope) (x:Str):Prop:=sc.names.lookup x=some .local\/sc.names.lookup x=some .cell
def Look (env:Env) (h:Heap) (m:Str->Option Value) (x:Str) (u:Value):Prop:=
 (env.kindOf x=some .local/\m x=some u)\/((env.kindOf x=some .cell\/env.kindOf x=some .free)/\∃c,env.cells.lookup x=some c/\h.IsCell c (some u))
structure Cx.Ok (X:Cx):Prop where
 mod:Mod X.K X.mg X.base
 kind:X.env.scope.kind= .function
 glob:X.env.globals=mainGlobals
 blt:X.env.builtins=builtinsNs
 above:X.s₀.heap.objs.size<=X.env.locals
 inj:∀x y c,X.env.cells.lookup x=some c->X.env.cells.lookup y=some c->x=y
 has:∀x,(X.env.kindOf x=some .cell\/X.env.kindOf x=some .free)->∃c,X.env.cells.lookup x=some c
 cab:∀x c,X.fn x=true->X.env.cells.lookup x=some c->X.s₀.heap.objs.size<=c
 hd:X.calm=true->X.A.handled=none
 frames:X.A.frames=some X.stack
 stk:X.stack=X.outer\/(X.stack=X.env::X.outer/\X.env.frame=some X.env.locals)
 exf:∀b∈X.ex,b≠X.env.locals/\∀x c,X.env.cells.lookup x=some c->c≠b
 bs:∀b o,X.base.get? b=some o->X.s₀.heap.get? b=some o/\X.H₀ b=none
 bsz:X.base.objs.size<=X.s₀.heap.objs.size
 noex:∀b o,X.base.get? b=some o->b∉X.ex
 exfs:∀b∈X.ex,b∉X.fs
 funs:X.s₀.heap.FunFrames X.base X.outer
 frf:∀b∈X.fs,X.H₀ b=none
structure Inv (X:Cx) (pins:List (Addr×Obj)) (σ:List (Option V)) (H:Hp) (s:Shared):Prop where
 ok:X.Ok
 os:s.os=X.s₀.os
 bare:AllBare s.gens
 base:Un X.fs X.ex X.H₀ H X.s₀.heap s.heap
 loc:∃m,s.heap.Ns X.env.locals m/\∀(i:Nat) (x:Str) (v:V),X.N[i]? =some x->σ[i]? =some (some v)->Vis X.env.scope x->∃u,RelV v u/\Look X.env s.heap m x u
 cell:∀x c,X.env.cells.lookup x=some c->∃v,s.heap.IsCell c v
 free:H X.env.locals=none
 freeC:∀x c,X.env.cells.lookup x=some c->H c=none
 pin:∀p∈X.pn++pins,s.heap.get? p.1=some p.2/\H p.1=none/\p.1≠X.env.locals/\p.1∉X.fs/\∀v,p.2.data≠.cell v
 hok:HOk X.K X.prog X.w H s.heap
 len:σ.length=X.N.length
section
variable {X:Cx}{pins:List (Addr×Obj)}{σ:List (Option V)}{H H':Hp}{s:Shared}{h':Heap}
theorem Cx.Ok.nofr (ok:X.Ok){b:Addr}{o:Obj}(e:X.base.get? b=some o):b∉X.fs:=fun hb=>by
 have:=(ok.funs.mem hb).1
 rw[e] at this;cases this
theorem Inv.bs (I:Inv X pins σ H s):∀b o,X.base.get? b=some o->s.heap.get? b=some o/\H b=none:=fun b o e=>
 ⟨I.base.keep b o (I.ok.bs b o e).1 (I.ok.bs b o e).2 (I.ok.nofr e) (I.ok.noex b o e),I.base.free b o (I.ok.bs b o e).1 (I.ok.bs b o e).2 (I.ok.noex b o e)⟩
theorem Inv.bk (I:Inv X pins σ H s):∀b o,X.base.get? b=some o->s.heap.get? b=some o:=fun b o e=>(I.bs b o e).1
theorem Inv.mod (I:Inv X pins σ H s):Mod X.K X.mg X.base:=I.ok.mod
theorem Inv.kIn (I:Inv X pins σ H s):X.K.In s.heap:=I.ok.mod.kin.keeps I.bk
theorem Inv.fr (I:Inv X pins σ H s):∃m,Fr X.base X.env.locals s.heap m:=
 let ⟨m,hn,_⟩:=I.loc
 ⟨m,hn,I.bk,zX I.ok.bsz I.ok.above⟩
theorem Inv.lt (I:Inv X pins σ H s):X.env.locals<s.heap.objs.size:=let ⟨_,hn,_⟩:=I.loc;hn.lt
theorem Inv.sz (I:Inv X pins σ H s):X.s₀.heap.objs.size<=s.heap.objs.size:=zX I.ok.above (Nat.le_of_lt I.lt)
theorem Inv.nofs (I:Inv X pins σ H s){a:Addr}(h:s.heap.objs.size<=a):a∉X.fs:=fun hb=>by
 obtain⟨_,o,ho,_⟩:=I.ok.funs.mem hb;exact absurd (zF (zO ho) (zX I.sz h)) (jE _)
theorem Inv.cne (I:Inv X pins σ H s):∀x c,X.env.cells.lookup x=some c->c≠X.env.locals:=fun x c e z=>by
 obtain⟨v,o,ho,hd⟩:=I.cell x c e;obtain⟨m,⟨o',es,ep,ho',hd',_⟩,_⟩:=I.loc;rw[z,ho'] at ho;cases ho;rw[hd'] at hd;cases hd
theorem Inv.funs (I:Inv X pins σ H s):s.heap.FunFrames X.base X.outer:=by
 have all:∀(l:List Env),(∀b∈frs l,b∈X.fs)->X.s₀.heap.FunFrames X.base l->s.heap.FunFrames X.base l:=by
  intro l
  induction l with
  | nil=>intro _ _;trivial
  | cons env r ih=>
   intro hs hl;obtain⟨hk,⟨L,o,hf,hn,ho,hd⟩,hr⟩:=hl;have hL:L∈X.fs:=hs L (by unfold frs;rw[xQ,hf];exact zJ)
   obtain⟨sl,e⟩:=I.base.slot L o ho (I.ok.frf L hL) hL fun z=>I.ok.exfs L z hL;exact⟨hk,⟨L,_,hf,hn,e,hd⟩,ih (fun b hb=>hs b (by unfold frs;rw[xQ,hf];exact zL _ hb)) hr⟩
 exact all X.outer (fun _ hb=>hb) I.ok.funs
theorem Inv.stack (I:Inv X pins σ H s):s.heap.FunFrames X.base X.stack:=by
 rcases I.ok.stk with e|⟨e,hf⟩
 ·rw[e];exact I.funs
 ·rw[e];obtain⟨m,hn,_⟩:=I.loc;refine .cons (by rw[I.ok.kind];decide) hf hn ?_ I.funs
  exact Heap.get?_none_of_le (zX I.ok.bsz I.ok.above)
theorem Inv.stkSub (I:Inv X pins σ H s):∀b∈frs X.stack,b∈X.env.locals::X.fs:=fun b hb=>by
 rcases I.ok.stk with e|⟨e,hf⟩
 ·rw[e] at hb;exact zL _ hb
 ·rw[e] at hb;unfold frs at hb;rw[xQ,hf] at hb;exact hb
theorem Inv.stkFree (I:Inv X pins σ H s):∀b∈frs X.stack,H b=none:=fun b hb=>by
 rcases zN.mp (I.stkSub b hb) with e|hb
 ·rw[e];exact I.free
 ·obtain⟨_,o,ho,_⟩:=I.ok.funs.mem hb;exact I.base.free b o ho (I.ok.frf b hb) fun z=>I.ok.exfs b z hb
theorem Inv.step {g':Array GenState}{t':Nat}{d':Drawn}{ch:List Addr}(I:Inv X pins σ H s)
  (hch:∀b∈ch,(b∈X.ex\/X.s₀.heap.objs.size<=b)/\b≠X.env.locals/\(∀x c,X.env.cells.lookup x=some c->c≠b)/\∀p∈X.pn++pins,p.1≠b)
  (keep:∀b o,b≠X.env.locals->b∉X.fs->b∉ch->s.heap.get? b=some o->H b=none->h'.get? b=some o)
  (slot:∀b o,b≠X.env.locals->b∈X.fs->b∉ch->s.heap.get? b=some o->H b=none->∃sl,h'.get? b=some {o with slots:=sl}) (free:∀b o,b∉ch->s.heap.get? b=some o->H b=none->H' b=none)
  (there:∀b o,b∉ch->s.heap.get? b=some o->∃o',h'.get? b=some o')
  (tups:∀b xs,H b=some (.tup xs)->H' b=some (.tup xs)) (frzs:∀b o u,H b=some (.frz o u)->H' b=some (.frz o u)) (tbls:∀b ps,H b=some (.tbl ps)->∃more,H' b=some (.tbl (ps++more)))
  (ns:∀m,s.heap.Ns X.env.locals m->h'.Ns X.env.locals m) (hok:HOk X.K X.prog X.w H' h') (hg:AllBare g'):
  Inv X pins σ H' {s with heap:=h',gens:=g',drawn:=d',toks:=t'}:=by
 have neL:∀b o,X.s₀.heap.get? b=some o->b≠X.env.locals:=fun b o e=>zG (zF (zO e) I.ok.above);have neC:∀b o,X.s₀.heap.get? b=some o->b∉X.ex->b∉ch:=fun b o e hx hb=>by
  rcases(hch b hb).1 with z|z
  ·exact hx z
  ·exact absurd (zF (zO e) z) (jE _)
 have cellK:∀x c,X.env.cells.lookup x=some c->∀v,s.heap.IsCell c v->h'.IsCell c v:=fun x c e v ⟨o,ho,hd⟩=>by
  have nch:c∉ch:=fun z=>(hch c z).2.2.1 x c e rfl
  by_cases hc:c∈X.fs
  ·obtain⟨sl,q⟩:=slot c o (I.cne x c e) hc nch ho (I.freeC x c e);exact⟨_,q,hd⟩
  ·exact⟨o,keep c o (I.cne x c e) hc nch ho (I.freeC x c e),hd⟩
 refine⟨I.ok,I.os,hg,⟨fun b o e n hb hx=>?_,fun b o e n hb hx=>?_,fun b o e n hx=>?_,fun b o e hx=>?_,fun b xs e=>tups b xs (I.base.tups b xs e),fun b o xs e=>frzs b o xs (I.base.frzs b o xs e),fun b ps e=>?_⟩,?_,fun x c e=>?_,?_,fun x c e=>?_,fun p hp=>?_,hok,I.len⟩
 ·exact keep b o (neL b o e) hb (neC b o e hx) (I.base.keep b o e n hb hx) (I.base.free b o e n hx)
 ·obtain⟨sl,e1⟩:=I.base.slot b o e n hb hx;obtain⟨sl',e2⟩:=slot b _ (neL b o e) hb (neC b o e hx) e1 (I.base.free b o e n hx);exact⟨sl',e2⟩
 ·obtain⟨o',e1⟩:=I.base.there b o e hx;exact free b o' (neC b o e hx) e1 (I.base.free b o e n hx)
 ·obtain⟨o',e1⟩:=I.base.there b o e hx;exact there b o' (neC b o e hx) e1
 ·obtain⟨m1,e1⟩:=I.base.tbls b ps e;obtain⟨m2,e2⟩:=tbls b _ e1;exact⟨m1++m2,by rw[e2,Array.append_assoc]⟩
 ·obtain⟨m,hn,hl⟩:=I.loc;refine⟨m,ns m hn,fun i x v e1 e2 e3=>?_⟩;obtain⟨u,r,l⟩:=hl i x v e1 e2 e3;refine⟨u,r,?_⟩;rcases l with l|⟨k,c,e,z⟩
  ·exact .inl l
  ·exact .inr ⟨k,c,e,cellK x c e _ z⟩
 ·obtain⟨v,z⟩:=I.cell x c e;exact⟨v,cellK x c e v z⟩
 ·obtain⟨m,⟨o,_,_,ho,_⟩,_⟩:=I.loc;exact free _ o (fun z=>(hch _ z).2.1 rfl) ho I.free
 ·obtain⟨v,o,ho,hd⟩:=I.cell x c e;exact free c o (fun z=>(hch c z).2.2.1 x c e rfl) ho (I.freeC x c e)
 ·obtain⟨e,n,ne,nf,d⟩:=I.pin p hp;have nch:p.1∉ch:=fun z=>(hch p.1 z).2.2.2 p hp rfl;exact⟨keep p.1 p.2 ne nf nch e n,free p.1 p.2 nch e n,ne,nf,d⟩
theorem Inv.un {t':Nat}(I:Inv X pins σ H s)(u:Un X.fs [] H H' s.heap h')(hok:HOk X.K X.prog X.w H' h'):Inv X pins σ H' {s with heap:=h',toks:=t'}:=by
 obtain⟨m,⟨o,es,ep,ho,r⟩,_⟩:=id I.loc;obtain⟨sl,hL⟩:=u.any ho I.free (by simp)
 exact I.step (g':=s.gens) (d':=s.drawn) (ch:=[]) (fun _ z=>nomatch z) (fun b o _ hb _ e n=>u.keep b o e n hb (by simp)) (fun b o _ hb _ e n=>u.slot b o e n hb (by simp)) (fun b o _ e n=>u.free b o e n (by simp)) (fun b o _ e=>u.there b o e (by simp)) u.tups u.frzs u.tbls (fun m' hm=>by
  obtain⟨o',es',ep',ho',r'⟩:=hm;rw[ho] at ho';cases ho'
  exact⟨_,es',ep',hL,r'⟩) hok I.bare
theorem Inv.call {g':Array GenState}{t':Nat}{d':Drawn}{ch:List Addr}(I:Inv X pins σ H s)(u:Un (frs X.stack) ch H H' s.heap h')(hok:HOk X.K X.prog X.w H' h')(hg:AllBare g')
  (hch:∀b∈ch,(b∈X.ex\/X.s₀.heap.objs.size<=b)/\b≠X.env.locals/\(∀x c,X.env.cells.lookup x=some c->c≠b)/\∀p∈X.pn++pins,p.1≠b):
  Inv X pins σ H' {s with heap:=h',gens:=g',drawn:=d',toks:=t'}:=by
 obtain⟨m,⟨o,es,ep,ho,r⟩,_⟩:=id I.loc;obtain⟨sl,hL⟩:=u.any ho I.free fun z=>(hch _ z).2.1 rfl
 exact I.step (ch:=ch) hch (fun b o hL hb hc e n=>u.keep b o e n (fun z=>(zN.mp (I.stkSub b z)).elim hL hb) hc) (fun b o _ _ hc e n=>u.any e n hc) (fun b o hc e n=>u.free b o e n hc) (fun b o hc e=>u.there b o e hc) u.tups u.frzs u.tbls (fun m' hm=>by
  obtain⟨o',es',ep',ho',r'⟩:=hm;rw[ho] at ho';cases ho'
  exact⟨_,es',ep',hL,r'⟩) hok hg
theorem Inv.turned {t':Nat}{it:Addr}(I:Inv X pins σ H s)(k:∀b o,b≠it->s.heap.get? b=some o->h'.get? b=some o)(hn:H it=none)(hL:it≠X.env.locals)
  (h1:it∈X.ex\/X.s₀.heap.objs.size<=it) (h2:∀x c,X.env.cells.lookup x=some c->c≠it) (h3:∀p∈X.pn++pins,p.1≠it):Inv X pins σ H {s with heap:=h',toks:=t'}:=by
 have nit:∀b u,H b=some u->b≠it:=fun b u e z=>by rw[z,hn] at e;cases e
 refine I.step (g':=s.gens) (d':=s.drawn) (ch:=[it]) (fun b hb=>?_) (fun b o _ _ hc e _=>k b o (fun z=>hc (by simp[z])) e) (fun b o _ _ hc e _=>⟨o.slots,k b o (fun z=>hc (by simp[z])) e⟩) (fun _ _ _ _ n=>n)
  (fun b o hc e=>⟨o,k b o (fun z=>hc (by simp[z])) e⟩) (fun _ _ e=>e) (fun _ _ _ e=>e) (fun b ps e=>⟨#[],by rw[e];simp⟩) (fun m hm=>?_) (fun b u e=>?_) I.bare
 ·have e:b=it:=by simpa using hb
  subst e;exact⟨h1,hL,h2,h3⟩
 ·obtain⟨o,es,ep,ho,r⟩:=hm;exact⟨o,es,ep,k _ o (qM hL) ho,r⟩
 ·refine(I.hok b u e).stay (fun c v hc q=>k c v ?_ q) (fun _ q=>q) fun _ _ q=>q;rcases hc with z|z
  ·rw[z];exact nit b u e
  ·exact nit c _ z
theorem Inv.tok (I:Inv X pins σ H s)(t:Nat):Inv X pins σ H {s with toks:=t}:=I.un (h':=s.heap) (t':=t) Un.refl I.hok
theorem Inv.kept {t':Nat}(I:Inv X pins σ H s)(k:∀b u,s.heap.get? b=some u->h'.get? b=some u):Inv X pins σ H {s with heap:=h',toks:=t'}:=I.un (Un.kept k) (I.hok.kept k)
theorem Inv.laid {a:Addr}{o:HO}{t':Nat}(I:Inv X pins σ H s)(k:∀b u,s.heap.get? b=some u->h'.get? b=some u)(hp:s.heap.objs.size<=a)(new:ObjOk X.K X.prog X.w (upd H a o) h' a o):
  Inv X pins σ (upd H a o) {s with heap:=h',toks:=t'}:=I.un (Un.laid k hp (I.hok.fresh hp)) (I.hok.laid k hp new)
theorem Inv.write {x e:Addr}{o:HO}{t':Nat}(I:Inv X pins σ H s)(mu:Mut (H x))(he:e=x\/H e=some (.own x))(k:∀b u,b≠e->s.heap.get? b=some u->h'.get? b=some u)(heo:∃u,h'.get? e=some u)
  (new:ObjOk X.K X.prog X.w (upd H x o) h' x o):Inv X pins σ (upd H x o) {s with heap:=h',toks:=t'}:=I.un (Un.write mu he k heo) (I.hok.write mu he k heo new)
theorem Inv.pins_of {pins':List (Addr×Obj)}(I:Inv X pins σ H s)(h:∀p∈pins',s.heap.get? p.1=some p.2/\H p.1=none/\p.1≠X.env.locals/\p.1∉X.fs/\∀v,p.2.data≠.cell v):Inv X pins' σ H s:=
 ⟨I.ok,I.os,I.bare,I.base,I.loc,I.cell,I.free,I.freeC,fun p hp=>(jB.mp hp).elim (fun z=>I.pin p (yR _ z)) (h p),I.hok,I.len⟩
theorem a0H {N:List Str}(hN:N.Nodup){i j:Nat}{x:Str}(a:N[i]? =some x)(b:N[j]? =some x):i=j:=by
 obtain⟨h1,e1⟩:=zQ.mp a;obtain⟨h2,e2⟩:=zQ.mp b;exact(List.getElem_inj hN).mp (e1.trans e2.symm)
theorem a6j {M:Model}{A:Around}{E:Value->Shared->Prop}{i:Nat}{x:Str}{v:V}{u:Value}{Q:Unit->Shared->Prop}(I:Inv X pins σ H s)(hN:X.N.Nodup)(hi:X.N[i]? =some x)(hx:Loc X.env.scope x)(r:RelV v u)
  (h:∀s',Inv X pins (σ.set i (some v)) H s'->(∃a,Heap.SameBut a s.heap s'.heap/\(a=X.env.locals\/X.env.cells.lookup x=some a))->Q () s') (hf:X.fn x=true\/X.env.scope.names.lookup x=some .local:=by first|exact .inl rfl|exact .inr rfl|assumption):wpAny M A (storeName X.env x u) Q E s:=by
 obtain⟨m,hn,hl⟩:=id I.loc;have hcls:(X.env.scope.kind == .class||(X.env.scope.kind == .module&&X.env.locals != X.env.globals))=false:=by rw[I.ok.kind];rfl
 have hiσ:i<σ.length:=by rw[I.len];exact(zQ.mp hi).1
 have cne:=I.cne;have tracked:∀{a:Addr} {h':Heap},(∃o,s.heap.get? a=some o/\H a=none)->Heap.SameBut a s.heap h'->HOk X.K X.prog X.w H h':=fun{a h'} ha hs b ob e=>by
  obtain⟨_,_,hfree⟩:=ha;refine(I.hok b ob e).stay (fun c w' hc q=>(hs.2 c ?_).trans q) (fun _ q=>q) fun _ _ q=>q;rintro rfl;rcases hc with rfl|hc
  ·rw[hfree] at e;cases e
  ·rw[hfree] at hc;cases hc
 rcases hx with hk|hk
 ·refine wpAny_storeName_local hk hn (fun h' hn' hs=>?_) hcls;obtain⟨oL,_,_,hoL,_⟩:=id hn;refine h _ ⟨I.ok,I.os,I.bare,⟨fun b o e n hb hx=>?_,fun b o e n hb hx=>?_,I.base.free,fun b o e hx=>?_,I.base.tups,I.base.frzs,I.base.tbls⟩,⟨_,hn',fun j y v' e1 e2 e3=>?_⟩,fun y c e=>?_,I.free,I.freeC,fun p hp=>?_,tracked ⟨oL,hoL,I.free⟩ hs,by simpa using I.len⟩ ⟨_,hs,.inl rfl⟩
  ·exact(hs.2 b (zG (zF (zO e) I.ok.above))).trans (I.base.keep b o e n hb hx)
  ·obtain⟨sl,e1⟩:=I.base.slot b o e n hb hx;exact⟨sl,(hs.2 b (zG (zF (zO e) I.ok.above))).trans e1⟩
  ·obtain⟨o',e1⟩:=I.base.there b o e hx;exact⟨o',(hs.2 b (zG (zF (zO e) I.ok.above))).trans e1⟩
  ·by_cases hj:j=i
   ·subst hj;rw[hi] at e1;cases e1;rw[List.getElem?_set_self hiσ] at e2;cases e2;exact⟨u,r,.inl ⟨hk,by simp⟩⟩
   ·rw[zM (qM hj)] at e2;obtain⟨u',r',q⟩:=hl j y v' e1 e2 e3;refine⟨u',r',?_⟩;rcases q with ⟨k,e⟩|⟨k,c,e,z⟩
    ·refine .inl ⟨k,?_⟩
     have:y≠x:=fun e=>hj (a0H hN e1 (e▸hi))
     simp[this,e]
    ·exact .inr ⟨k,c,e,z.sameBut hs (cne y c e)⟩
  ·obtain⟨w',z⟩:=I.cell y c e;exact⟨w',z.sameBut hs (cne y c e)⟩
  ·obtain⟨e,n,ne,nf,d⟩:=I.pin p hp;exact⟨(hs.2 p.1 ne).trans e,n,ne,nf,d⟩
 ·have hfn:X.fn x=true:=by
   rcases hf with z|z
   ·exact z
   ·rw[z] at hk;cases hk
  obtain⟨c,hc⟩:=I.ok.has x (.inl hk);obtain⟨w',z⟩:=I.cell x c hc;refine wpAny_storeName_cell I.ok.kind hk hc z (fun h' hc' hs=>?_);obtain⟨oc,hoc,hocd⟩:=id z;refine h {s with heap:=h'} ⟨I.ok,I.os,I.bare,⟨fun b o e n hb hx=>?_,fun b o e n hb hx=>?_,I.base.free,fun b o e hx=>?_,I.base.tups,I.base.frzs,I.base.tbls⟩,⟨m,hn.sameBut hs (qM (cne x c hc)),fun j y v' e1 e2 e3=>?_⟩,fun y c' e=>?_,I.free,I.freeC,fun p hp=>?_,tracked ⟨oc,hoc,I.freeC x c hc⟩ hs,by simpa using I.len⟩ ⟨c,hs,.inr hc⟩
  ·exact(hs.2 b (zG (zF (zO e) (I.ok.cab x c hfn hc)))).trans (I.base.keep b o e n hb hx)
  ·obtain⟨sl,e1⟩:=I.base.slot b o e n hb hx;exact⟨sl,(hs.2 b (zG (zF (zO e) (I.ok.cab x c hfn hc)))).trans e1⟩
  ·obtain⟨o',e1⟩:=I.base.there b o e hx;exact⟨o',(hs.2 b (zG (zF (zO e) (I.ok.cab x c hfn hc)))).trans e1⟩
  ·by_cases hj:j=i
   ·subst hj;rw[hi] at e1;cases e1;rw[List.getElem?_set_self hiσ] at e2;cases e2;exact⟨u,r,.inr ⟨.inl hk,c,hc,hc'⟩⟩
   ·rw[zM (qM hj)] at e2;obtain⟨u',r',q⟩:=hl j y v' e1 e2 e3;refine⟨u',r',?_⟩;rcases q with q|⟨k,c',e,z'⟩
    ·exact .inl q
    ·refine .inr ⟨k,c',e,z'.sameBut hs ?_⟩;rintro rfl;exact hj (a0H hN e1 (I.ok.inj _ _ _ e hc▸hi))
  ·by_cases hcc:c'=c
   ·subst hcc;exact⟨_,hc'⟩
   ·obtain⟨w2,z2⟩:=I.cell y c' e;exact⟨w2,z2.sameBut hs hcc⟩
  ·obtain⟨e,n,ne,nf,d⟩:=I.pin p hp;refine⟨(hs.2 p.1 ?_).trans e,n,ne,nf,d⟩;intro q;rw[q,hoc] at e;have q':oc=p.2:=jC e;exact d w' (by rw[<-q'];exact hocd)
theorem a0E {M:Model}{A:Around}{E:Value->Shared->Prop}{i:Nat}{x:Str}{v:V}{u:Value}{Q:Unit->Shared->Prop}(I:Inv X pins σ H s)(hN:X.N.Nodup)(hi:X.N[i]? =some x)(hx:Loc X.env.scope x)(r:RelV v u)
  (h:∀s',Inv X pins (σ.set i (some v)) H s'->Q () s') (hf:X.fn x=true\/X.env.scope.names.lookup x=some .local:=by first|exact .inl rfl|exact .inr rfl|assumption):wpAny M A (storeName X.env x u) Q E s:=
 a6j I hN hi hx r (fun s' I' _=>h s' I') hf
theorem Inv.call' {s':Shared}{ch:List Addr}(I:Inv X pins σ H s)(ho:s'.os=s.os)(u:Un (frs X.stack) ch H H' s.heap s'.heap)(hok:HOk X.K X.prog X.w H' s'.heap)(hg:AllBare s'.gens)
  (hch:∀b∈ch,(b∈X.ex\/X.s₀.heap.objs.size<=b)/\b≠X.env.locals/\(∀x c,X.env.cells.lookup x=some c->c≠b)/\∀p∈X.pn++pins,p.1≠b):Inv X pins σ H' s':=by
 obtain⟨h',g',d',t',o'⟩:=s';have e:o'=s.os:=ho;subst e;exact I.call (g':=g') (t':=t') (d':=d') u hok hg hch
end
abbrev XK:=Value->Option Addr->Hp->Prop
abbrev St:=List (Option V)
abbrev VK:=V->Hp->Prop
abbrev TE:=St->Hp->VK->Prop
abbrev TT:=St->Hp->(Bool->Hp->Prop)->Prop
abbrev TA:=St->Hp->(List V->Hp->Prop)->Prop
structure Ends where
 nx:St->Hp->Prop
 rt:VK
 bk:St->Hp->Prop:=fun _ _=>False
 ct:St->Hp->Prop:=fun _ _=>False
abbrev TS:=Ends->St->Hp->Prop
def EP (X:Cx) (pins:List (Addr×Obj)) (σ:St) (Q:VK) (u:Value) (s':Shared):Prop:=∃v H',Inv X pins σ H' s'/\RelV v u/\Q v H'
def TP (X:Cx) (pins:List (Addr×Obj)) (σ:St) (Q:Bool->Hp->Prop) (b:Bool) (s':Shared):Prop:=∃H',Inv X pins σ H' s'/\Q b H'
def AP (X:Cx) (pins:List (Addr×Obj)) (σ:St) (Q:List V->Hp->Prop) (us:List Value) (s':Shared):Prop:=∃vs H',Inv X pins σ H' s'/\Vals vs us/\Q vs H'
def SP (X:Cx) (pins:List (Addr×Obj)) (D:Ends) (f:Flow) (s':Shared):Prop:=
 match f with
 | .next=>∃σ' H',Inv X pins σ' H' s'/\D.nx σ' H'
 | .brk=>∃σ' H',Inv X pins σ' H' s'/\D.bk σ' H'
 | .cont=>∃σ' H',Inv X pins σ' H' s'/\D.ct σ' H'
 | .ret u=>∃v σ' H',Inv X pins σ' H' s'/\RelV v u/\D.rt v H'
def PE (X:Cx) (e:Expr) (t:TE):Prop:=
 ∀(pins:List (Addr×Obj)) (s:Shared) (σ:St) (H:Hp) (Q:VK),Inv X pins σ H s->t σ H Q->wpAny (model X.prog X.w) X.A (eval e X.env) (EP X pins σ Q) X.xe s
def PT (X:Cx) (e:Expr) (t:TT):Prop:=
 ∀(pins:List (Addr×Obj)) (s:Shared) (σ:St) (H:Hp) (Q:Bool->Hp->Prop),Inv X pins σ H s->t σ H Q->wpAny (model X.prog X.w) X.A (isTrue e X.env (eval e X.env)) (TP X pins σ Q) X.xe s
def PW (X:Cx) (e:Expr) (t:TT):Prop:=
 ∀(whole:Sem Value) (pins:List (Addr×Obj)) (s:Shared) (σ:St) (H:Hp) (Q:Bool->Hp->Prop),Inv X pins σ H s->t σ H Q->wpAny (model X.prog X.w) X.A (isTrue e X.env whole) (TP X pins σ Q) X.xe s
theorem PW.pt {X:Cx}{e:Expr}{t:TT}(h:PW X e t):PT X e t:=h _
def PA (X:Cx) (es:List Expr) (t:TA):Prop:=
 ∀(pos:Pos) (pins:List (Addr×Obj)) (s:Shared) (σ:St) (H:Hp) (Q:List V->Hp->Prop),Inv X pins σ H s->t σ H Q->wpAny (model X.prog X.w) X.A (spliced (backTo pos (starEach es X.env))) (AP X pins σ Q) X.xe s
def PS (X:Cx) (st:Stmt) (t:TS):Prop:=
 ∀(pins:List (Addr×Obj)) (s:Shared) (σ:St) (H:Hp) (D:Ends),Inv X pins σ H s->t D σ H->wpAny (model X.prog X.w) X.A (exec st X.env) (SP X pins D) X.xe s
def PSs (X:Cx) (st:List Stmt) (t:TS):Prop:=
 ∀(pins:List (Addr×Obj)) (s:Shared) (σ:St) (H:Hp) (D:Ends),Inv X pins σ H s->t D σ H->wpAny (model X.prog X.w) X.A (execs st X.env) (SP X pins D) X.xe s
theorem thn {α:Type}{t:Sem α}{Q Q':α->Shared->Prop}{M:Model}{A:Around}{E:Value->Shared->Prop}{s:Shared}(h:wpAny M A t Q E s)(hQ:∀a s,Q a s->Q' a s):wpAny M A t Q' E s:=zR h hQ fun _ _ x=>x
section
variable {X:Cx}
def tVar (i:Nat):TE:=fun σ H Q=>∃v,σ[i]? =some (some v)/\Q v H
def tC (v:V):TE:=fun _ H Q=>Q v H
theorem a8G {i:Nat}{x:Str}{pos:Pos}(hN:X.N[i]? =some x)(hv:Vis X.env.scope x)(hd:(x==("__debug__":Str))=false:=by decide)(hcd:(x==("__classdict__":Str))=false:=by decide):PE X (.Name x pos) (tVar i):=by
 intro pins s σ H Q I h;obtain⟨v,e,h⟩:=h;obtain⟨m,hn,hl⟩:=I.loc;obtain⟨u,r,l⟩:=hl i x v hN e hv;have fin:EP X pins σ Q u s:=⟨v,H,I,r,h⟩;rcases l with ⟨hk,hm⟩|⟨hk,c,hc,hcell⟩
 ·exact wpAny_Name (wpAny_loadName_local I.ok.kind hk hn hm fin) hd
 ·rcases hk with hk|hk
  ·exact wpAny_Name (wpAny_loadName_cell I.ok.kind hk hc hcell fin) hd
  ·exact wpAny_Name (wpAny_loadName_free I.ok.kind hk hc hcell fin hcd) hd
theorem b1A {i j pos}:PE X (.Constant (.int i) j pos) (tC (.int i)):=fun _ _ _ H _ I h=>wpAny_Constant_int ⟨.int i,H,I.tok _,⟨_,rfl⟩,h⟩
theorem pe_bl {b j pos}:PE X (.Constant (.bool b) j pos) (tC (.bl b)):=fun _ _ _ H _ I h=>Constant_bool ⟨.bl b,H,I,rfl,h⟩
theorem b1l {j pos}:PE X (.Constant .none j pos) (tC .non):=fun _ _ _ H _ I h=>Constant_none ⟨.non,H,I,rfl,h⟩
theorem b03 {x j pos}:PE X (.Constant (.str x) j pos) (tC (.str x)):=fun _ _ _ H _ I h=>Calls.Constant_str ⟨.str x,H,I.tok _,⟨_,rfl⟩,h⟩
def Gl (X:Cx) (x:Str):Prop:=X.env.kindOf x=some .globalImplicit
theorem U6 {E:Value->Shared->Prop}{pins:List (Addr×Obj)}{s:Shared}{σ:St}{H:Hp}{x:Str}{u:Value}{pos:Pos}{Q:Value->Shared->Prop}(I:Inv X pins σ H s)(hg:Gl X x)(hm:X.mg x=some u)(h:Q u s)
  (hd:(x==("__debug__":Str))=false:=by decide):wpAny (model X.prog X.w) X.A (eval (.Name x pos) X.env) Q E s:=
 Calls.Name_function_global I.ok.kind hg (Calls.loadGlobal_global (by rw[I.ok.glob];exact I.mod.glob.keeps I.bk) hm h) hd
theorem R3 {E:Value->Shared->Prop}{pins:List (Addr×Obj)}{s:Shared}{σ:St}{H:Hp}{x:Str}{u:Value}{pos:Pos}{Q:Value->Shared->Prop}(I:Inv X pins σ H s)(hg:Gl X x)(hm:X.mg x=none)(hv:bootBuiltins x=some u)(h:Q u s)
  (hn:x≠"__name__":=by decide) (hd:(x==("__debug__":Str))=false:=by decide):wpAny (model X.prog X.w) X.A (eval (.Name x pos) X.env) Q E s:=by
 obtain⟨mb,h1,h2⟩:=I.mod.blt;exact Calls.Name_function_global I.ok.kind hg (Calls.loadGlobal_builtin (by rw[I.ok.glob];exact I.mod.glob.keeps I.bk) hm (by rw[I.ok.blt];exact h1.keeps I.bk) ((h2 x hn).trans hv) h) hd
theorem a2v {x:Str}{v:V}{u:Value}{pos:Pos}(hg:Gl X x)(hm:X.mg x=some u)(r:RelV v u)(hd:(x==("__debug__":Str))=false:=by decide):PE X (.Name x pos) (tC v):=
 fun _ _ _ H _ I h=>U6 I hg hm ⟨v,H,I,r,h⟩ hd
theorem a41 {x:Str}{v:V}{u:Value}{pos:Pos}(hg:Gl X x)(hm:X.mg x=none)(hv:bootBuiltins x=some u)(r:RelV v u)(hn:x≠"__name__":=by decide)(hd:(x==("__debug__":Str))=false:=by decide):PE X (.Name x pos) (tC v):=
 fun _ _ _ H _ I h=>R3 I hg hm hv ⟨v,H,I,r,h⟩ hn hd
variable {a b:Expr}{ta tb:TE}{pos:Pos}
variable {tA tB':TT}{rest:List Expr}
def tAnd (t u:TT):TT:=fun σ H Q=>t σ H fun c H1=>if c=true then u σ H1 Q else Q false H1
def tOr (t u:TT):TT:=fun σ H Q=>t σ H fun c H1=>if c=true then Q true H1 else u σ H1 Q
def tNot (t:TT):TT:=fun σ H Q=>t σ H fun c H1=>Q (!c) H1
theorem pw_and1 (ha:PT X a tA):PW X (.BoolOp .And [a] pos) tA:=by
 intro wh pins s σ H Q I h;refine isTrue_and (thn (ha pins s σ H Q I h) fun c s1 e=>?_);cases c with
 | true=>exact isTrue_and_nil e
 | false=>exact e
theorem pw_or1 (ha:PT X a tA):PW X (.BoolOp .Or [a] pos) tA:=by
 intro wh pins s σ H Q I h;refine isTrue_or (thn (ha pins s σ H Q I h) fun c s1 e=>?_);cases c with
 | false=>exact isTrue_or_nil e
 | true=>exact e
theorem pw_and (ha:PT X a tA)(hb:PW X (.BoolOp .And (b::rest) pos) tB'):PW X (.BoolOp .And (a::b::rest) pos) (tAnd tA tB'):=by
 intro wh pins s σ H Q I h;refine isTrue_and (thn (ha pins s σ H _ I h) fun c s1 ⟨H1,I1,q1⟩=>?_);cases c with
 | true=>exact hb wh pins s1 σ H1 Q I1 q1
 | false=>exact⟨H1,I1,q1⟩
theorem pw_or (ha:PT X a tA)(hb:PW X (.BoolOp .Or (b::rest) pos) tB'):PW X (.BoolOp .Or (a::b::rest) pos) (tOr tA tB'):=by
 intro wh pins s σ H Q I h;refine isTrue_or (thn (ha pins s σ H _ I h) fun c s1 ⟨H1,I1,q1⟩=>?_);cases c with
 | true=>exact⟨H1,I1,q1⟩
 | false=>exact hb wh pins s1 σ H1 Q I1 q1
theorem b1B (ha:PT X a tA):PT X (.UnaryOp .Not a pos) (tNot tA):=by
 intro pins s σ H Q I h;exact isTrue_not (ha pins s σ H (fun c H1=>Q (!c) H1) I h)
def tAndV (ta tb:TE):TE:=fun σ H Q=>ta σ H fun x H1=>∃c,x= .bl c/\if c=true then tb σ H1 Q else Q (.bl false) H1
theorem b1g {op}{t:TE}(h:PE X a t):PE X (.BoolOp op [a] pos) t:=fun pins s σ H Q I hw=>BoolOp_one (h pins s σ H Q I hw)
theorem b1m (ha:PE X a ta)(hb:PE X (.BoolOp .And (b::rest) pos) tb):PE X (.BoolOp .And (a::b::rest) pos) (tAndV ta tb):=by
 intro pins s σ H Q I h;refine BoolOp_and (thn (ha pins s σ H _ I h) fun v s1 h0=>ex5 h0 fun x H1 I1 r1 q1=>?_);obtain⟨c,rfl,q1⟩:=q1;cases r1;refine vB ?_;cases c with
 | true=>exact hb pins s1 σ H1 Q I1 q1
 | false=>exact⟨.bl false,H1,I1,rfl,q1⟩
def tIf (t:TT) (ta tb:TE):TE:=fun σ H Q=>t σ H fun c H1=>if c=true then ta σ H1 Q else tb σ H1 Q
theorem a7P {c:Expr}(hc:PT X c tA)(ha:PE X a ta)(hb:PE X b tb):PE X (.IfExp c a b pos) (tIf tA ta tb):=by
 intro pins s σ H Q I h;refine wpAny_IfExp (thn (hc pins s σ H _ I h) fun d s1 ⟨H1,I1,q1⟩=>?_);cases d with
 | true=>exact ha pins s1 σ H1 Q I1 q1
 | false=>exact hb pins s1 σ H1 Q I1 q1
end
def SqL (K:PySem.W.Frag) (H:Hp) (a:Addr) (xs:List V):Prop:=
 Rd H a (.lst xs)\/
  ∃(o:Obj) (its:Array Value) (n:Nat),K.lookup a=some o/\o.cls= .type "list"/\o.dict=none/\o.data= .seq its n/\its.size<=sizeLine/\Vals xs its.toList
def absV:Value->Option V
 | .none=>some .non
 | .bool b=>some (.bl b)
 | .int i _=>some (.int i)
 | .str x _=>some (.str x)
 | .bytes b _=>some (.byt b)
 | .float b _=>some (.flt b)
 | .ref a=>some (.ref a)
 | .type n=>some (.ty n)
 | _=>none
theorem RelV.abs {x:V}{u:Value}(r:RelV x u):absV u=some x:=by
 cases x with
 | non=>cases r;rfl
 | bl _=>cases r;rfl
 | int _=>obtain⟨t,rfl⟩:=r;rfl
 | str _=>obtain⟨t,rfl⟩:=r;rfl
 | byt _=>obtain⟨t,rfl⟩:=r;rfl
 | flt _=>obtain⟨t,rfl⟩:=r;rfl
 | ref _=>cases r;rfl
 | ty _=>cases r;rfl
theorem RelV.inj {x y:V}{u:Value}(r:RelV x u)(q:RelV y u):x=y:=jC (r.abs.symm.trans q.abs)
theorem Vals.inj:∀{xs ys:List V} {us:List Value},Vals xs us->Vals ys us->xs=ys
 | _,_,_,.nil,.nil=>rfl
 | _,_,_,.cons r t,.cons r' t'=>by rw[r.inj r',Vals.inj t t']
section
variable {X:Cx}{pins:List (Addr×Obj)}{σ:St}{H:Hp}{s:Shared}{a:Addr}{xs ys:List V}
theorem SqL.of {K:PySem.W.Frag}(h:H a=some (.lst xs)):SqL K H a xs:=.inl (.inl h)
theorem SqT.of {K:PySem.W.Frag}(h:H a=some (.tup xs)):SqT K H a xs:=.inl (.inl h)
theorem Inv.list (I:Inv X pins σ H s)(h:SqL X.K H a xs):∃its:List Value,Vals xs its/\PlainL s.heap a its.toArray/\xs.length<=sizeLine:=by
 rcases h with h|⟨o,its,n,hk,hc,hd,hs,hz,r⟩
 ·obtain⟨z,its,n,r,e⟩:=h.ok I.hok;exact⟨its,r,⟨_,n,e,rfl,rfl,rfl⟩,z⟩
 ·refine⟨its.toList,r,⟨o,n,I.kIn a o hk,hc,hd,by simpa using hs⟩,?_⟩
  have e:=r.length;simp only[zW] at e;walk_at "o"
theorem Inv.tupN (I:Inv X pins σ H s)(h:SqT X.K H a xs):∃its:List Value,Vals xs its/\TupN s.heap a its.toArray/\xs.length<=sizeLine:=by
 rcases h with h|⟨o,its,n,hk,hc,hd,hs,hz,r⟩
 ·obtain⟨z,its,r,p⟩:=h.ok I.hok;exact⟨its,r,p,z⟩
 ·refine⟨its.toList,r,⟨o,I.kIn a o hk,hc,⟨n,by simpa using hs⟩,hd⟩,?_⟩
  have e:=r.length;simp only[zW] at e;walk_at "o"
theorem Inv.tuple (I:Inv X pins σ H s)(h:SqT X.K H a xs):∃its:List Value,Vals xs its/\IsTup s.heap a its.toArray/\xs.length<=sizeLine:=let ⟨its,r,p,z⟩:=I.tupN h;⟨its,r,p.is,z⟩
theorem Inv.list_inj (I:Inv X pins σ H s)(h:SqL X.K H a xs)(h':SqL X.K H a ys):xs=ys:=by
 obtain⟨its,r,⟨o,n,e,_,_,d⟩,_⟩:=I.list h;obtain⟨its',r',⟨o',n',e',_,_,d'⟩,_⟩:=I.list h';rw[e] at e';cases e';rw[d] at d';injection d' with d1 _
 have:its=its':=by simpa using congrArg Array.toList d1
 subst this;exact r.inj r'
theorem Inv.tuple_inj (I:Inv X pins σ H s)(h:SqT X.K H a xs)(h':SqT X.K H a ys):xs=ys:=by
 obtain⟨its,r,⟨o,e,_,n,d⟩,_⟩:=I.tuple h;obtain⟨its',r',⟨o',e',_,n',d'⟩,_⟩:=I.tuple h';rw[e] at e';cases e';rw[d] at d';injection d' with d1 _
 have:its=its':=by simpa using congrArg Array.toList d1
 subst this;exact r.inj r'
end
abbrev Cx.wish (X:Cx) (E:Value->Shared->Prop):Cx:={X with xe:=E}
abbrev Cx.nox (X:Cx):Cx:=X.wish fun _ _=>False
theorem Cx.Ok.wish {X:Cx}(ok:X.Ok)(E:Value->Shared->Prop):(X.wish E).Ok:=
 ⟨ok.mod,ok.kind,ok.glob,ok.blt,ok.above,ok.inj,ok.has,ok.cab,ok.hd,ok.frames,ok.stk,ok.exf,ok.bs,ok.bsz,ok.noex,ok.exfs,ok.funs,ok.frf⟩
theorem Cx.Ok.unwish {X:Cx}{E:Value->Shared->Prop}(ok:(X.wish E).Ok):X.Ok:=
 ⟨ok.mod,ok.kind,ok.glob,ok.blt,ok.above,ok.inj,ok.has,ok.cab,ok.hd,ok.frames,ok.stk,ok.exf,ok.bs,ok.bsz,ok.noex,ok.exfs,ok.funs,ok.frf⟩
section
variable {X:Cx}{pins:List (Addr×Obj)}{σ:St}{H:Hp}{s:Shared}{E:Value->Shared->Prop}
theorem Inv.wish (I:Inv X pins σ H s)(E:Value->Shared->Prop):Inv (X.wish E) pins σ H s:=⟨I.ok.wish E,I.os,I.bare,I.base,I.loc,I.cell,I.free,I.freeC,I.pin,I.hok,I.len⟩
theorem Inv.unwish (I:Inv (X.wish E) pins σ H s):Inv X pins σ H s:=⟨I.ok.unwish,I.os,I.bare,I.base,I.loc,I.cell,I.free,I.freeC,I.pin,I.hok,I.len⟩
theorem SP.unwish {D:Ends}{f:Flow}{s':Shared}(h:SP (X.wish E) pins D f s'):SP X pins D f s':=by
 cases f with
 | next=>obtain⟨σ',H',I,q⟩:=h;exact⟨σ',H',I.unwish,q⟩
 | brk=>obtain⟨σ',H',I,q⟩:=h;exact⟨σ',H',I.unwish,q⟩
 | cont=>obtain⟨σ',H',I,q⟩:=h;exact⟨σ',H',I.unwish,q⟩
 | ret u=>obtain⟨v,σ',H',I,r,q⟩:=h;exact⟨v,σ',H',I.unwish,r,q⟩
theorem PSs.nox {st:List Stmt}{t:TS}(h:PSs X.nox st t):PSs X st t:=fun pins s σ H D I hw=>
 zR (h pins s σ H D (I.wish _) hw) (fun _ _ q=>q.unwish) fun _ _ z=>False.elim z
end
section
variable {X:Cx}{st:Stmt}{rest:List Stmt}{t u:TS}{e:Expr}{te:TE}{pos:Pos}
def tNext:TS:=fun D σ H=>D.nx σ H
def tSeq (t u:TS):TS:=fun D σ H=>t {D with nx:=u D} σ H
theorem a82:PSs X [] tNext:=fun _ _ σ H _ I h=>yS ⟨σ,H,I,h⟩
theorem a7j (h1:PS X st t)(h2:PSs X rest u):PSs X (st::rest) (tSeq t u):=by
 intro pins s σ H D I h;refine yJ (thn (h1 pins s σ H {D with nx:=u D} I h) fun f s1 q=>?_)
 cases f with
 | next=>
  obtain⟨σ',H',I',q⟩:=q;exact h2 pins s1 σ' H' D I' q
 | ret v=>exact q
 | brk=>exact q
 | cont=>exact q
theorem a9Y (h1:PS X st t):PSs X [st] t:=by
 intro pins s σ H D I h;refine yJ (thn (h1 pins s σ H D I h) fun f s1 q=>?_);cases f with
 | next=>exact yS q
 | ret v=>exact q
 | brk=>exact q
 | cont=>exact q
theorem Inv.quiet {pins:List (Addr×Obj)}{σ:St}{H:Hp}{s:Shared}(I:Inv X pins σ H s):interactive X.env=false:=by simp[interactive,I.ok.kind]
def tDrop (te:TE):TS:=fun D σ H=>te σ H fun _ H1=>D.nx σ H1
theorem a9G (he:PE X e te)(hs:swapsWith e none pos.line X.env=pure false:=by rfl):PS X (.Expr e pos) (tDrop te):=by
 intro pins s σ H D I h;exact wpAny_Expr_any (thn (he pins s σ H _ I h) fun v s1 h0=>ex5 h0 fun x H1 I1 r1 q1=>⟨σ,H1,I1,q1⟩) I.quiet hs
def tRet (te:TE):TS:=fun D σ H=>te σ H D.rt
theorem b1W (he:PE X e te):PS X (.Return (some e) pos) (tRet te):=by
 intro pins s σ H D I h;exact wpAny_Return_some (thn (he pins s σ H _ I h) fun v s1 h0=>ex5 h0 fun x H1 I1 r1 q1=>⟨x,σ,H1,I1,r1,q1⟩)
def tIfS (c:TT) (t u:TS):TS:=fun D σ H=>c σ H fun b H1=>if b=true then t D σ H1 else u D σ H1
theorem ps_if {c:Expr}{a b:List Stmt}{tc:TT}(hc:PT X c tc)(ha:PSs X a t)(hb:PSs X b u):PS X (.If c a b pos) (tIfS tc t u):=by
 intro pins s σ H D I h;refine wpAny_If (thn (hc pins s σ H _ I h) fun d s1 ⟨H1,I1,q1⟩=>?_);cases d with
 | true=>exact ha pins s1 σ H1 D I1 q1
 | false=>exact hb pins s1 σ H1 D I1 q1
def tNever:TS:=fun _ _ _=>False
theorem a8V:PS X st tNever:=fun _ _ _ _ _ _ h=>h.elim
end
abbrev TG:=V->St->Hp->(St->Hp->Prop)->Prop
abbrev TGs:=List V->St->Hp->(St->Hp->Prop)->Prop
def PG (X:Cx) (target:Expr) (t:TG):Prop:=
 ∀(pins:List (Addr×Obj)) (s:Shared) (σ:St) (H:Hp) (v:V) (u:Value) (Q:St->Hp->Prop),Inv X pins σ H s->RelV v u->t v σ H Q->
  wpAny (model X.prog X.w) X.A (assign target X.env u) (fun _ s'=>∃σ' H',Inv X pins σ' H' s'/\Q σ' H') X.xe s
def PGs (X:Cx) (ts:List Expr) (t:TGs):Prop:=
 ∀(pins:List (Addr×Obj)) (s:Shared) (σ:St) (H:Hp) (vs:List V) (us:List Value) (Q:St->Hp->Prop),Inv X pins σ H s->Vals vs us->t vs σ H Q->
  wpAny (model X.prog X.w) X.A (assignInOrder ((assignEach ts X.env).map (·.2)) us) (fun _ s'=>∃σ' H',Inv X pins σ' H' s'/\Q σ' H') X.xe s
section
variable {X:Cx}{pos:Pos}
def gName (i:Nat):TG:=fun v σ H Q=>Q (σ.set i (some v)) H
theorem a85 {i:Nat}{x:Str}(hN:X.N.Nodup)(hi:X.N[i]? =some x)(hx:Loc X.env.scope x)(hf:X.fn x=true\/X.env.scope.names.lookup x=some .local:=by first|exact .inl rfl|exact .inr rfl|assumption):PG X (.Name x pos) (gName i):=by
 intro pins s σ H v u Q I r h;exact wpAny_assign_Name (a0E I hN hi hx r (fun s' I'=>⟨_,H,I',h⟩) hf)
def gNil:TGs:=fun vs σ H Q=>vs=[]/\Q σ H
def gCons (t:TG) (u:TGs):TGs:=fun vs σ H Q=>∃v r,vs=v::r/\t v σ H fun σ' H'=>u r σ' H' Q
theorem a9P:PGs X [] gNil:=by
 intro pins s σ H vs us Q I r h;obtain⟨e,h⟩:=h;subst e;cases r;exact assignInOrder_nil ⟨σ,H,I,h⟩
theorem a8Q {e:Expr}{es:List Expr}{t:TG}{u:TGs}(h1:PG X e t)(h2:PGs X es u)
  (hs:(assignEach (e::es) X.env).map (·.2)=assign e X.env::(assignEach es X.env).map (·.2):=by rfl):PGs X (e::es) (gCons t u):=by
 intro pins s σ H vs us Q I r h;obtain⟨v,vr,e1,h⟩:=h;subst e1;cases r with
 | cons r rr=>
  rw[hs];refine assignInOrder_cons (thn (h1 pins s σ H _ _ _ I r h) fun _ s1 ⟨σ1,H1,I1,q1⟩=>?_);exact h2 pins s1 σ1 H1 _ _ Q I1 rr q1
def gTup (K:PySem.W.Frag) (n:Nat) (t:TGs):TG:=fun v σ H Q=>∃a xs,v= .ref a/\SqT K H a xs/\xs.length=n/\t xs σ H Q
theorem b1M {es:List Expr}{k:Nat}{t:TGs}{n:Nat}(hc:X.calm=true)(h:PGs X es t)
  (hn:(assignEach es X.env).length=n:=by rfl) (hst:(assignEach es X.env).findIdx? (·.1)=none:=by rfl):PG X (.Tuple es k pos) (gTup X.K n t):=by
 intro pins s σ H v u Q I r hw;obtain⟨a,xs,e1,hq,hl,hw⟩:=hw;subst e1;cases r;obtain⟨its,rv,ht,hz⟩:=I.tuple hq;refine assign_Tuple_tuple (I.ok.hd hc) ht (by simp[hn,<-hl,rv.length]) hst fun h' hx=>?_
 have I1:Inv X pins σ H {s with heap:=h'}:=I.kept (t':=s.toks) fun b o e=>hx b o (zG (zO e)) e
 exact h pins _ σ H xs _ Q I1 (by simpa using rv) hw
def tAsg (te:TE) (g:TG):TS:=fun D σ H=>te σ H fun x H1=>g x σ H1 D.nx
theorem b1v {tg e:Expr}{te:TE}{g:TG}(he:PE X e te)(hg:PG X tg g)(hs:swapsWithSole [tg] e pos.line X.env=pure false:=by rfl)(hw:swappedStores [tg] e X.env=pure none:=by rfl)
  (h1:(assignEach [tg] X.env).map (·.2)=[assign tg X.env]:=by rfl):PS X (.Assign [tg] e pos) (tAsg te g):=by
 intro pins s σ H D I h;refine wpAny_Assign_stores (thn (he pins s σ H _ I h) fun v s1 h0=>ex5 h0 fun x H1 I1 r1 q1=>?_) hs hw;rw[h1];exact thn (hg pins s1 σ H1 x v _ I1 r1 q1) fun _ s2 q=>q
theorem b05 {i:Nat}{x:Str}{e:Expr}{te:TE}{pos':Pos}(hN:X.N.Nodup)(hi:X.N[i]? =some x)(hx:Loc X.env.scope x)(he:PE X e te)(hs:swapsWith e (some (.Name x pos')) pos.line X.env=pure false:=by rfl)(hf:X.fn x=true\/X.env.scope.names.lookup x=some .local:=by first|exact .inl rfl|exact .inr rfl|assumption):
  PS X (.Assign [.Name x pos'] e pos) (tAsg te (gName i)):=by
 intro pins s σ H D I h;refine wpAny_Assign_Name (thn (he pins s σ H _ I h) fun v s1 h0=>ex5 h0 fun y H1 I1 r1 q1=>?_) hs;exact a0E I1 hN hi hx r1 (fun s2 I2=>⟨_,H1,I2,q1⟩) hf
end
section
variable {X:Cx}{pos:Pos}
def tWhile (c:TT) (tb:TS):TS:=fun D σ H=>∃W:Nat->St->Hp->Prop,(∃m,W m σ H)/\∀m σ H,W m σ H->
 c σ H fun b H1=>if b=true then ∃N:St->Hp->Prop,(∀σ' H',N σ' H'->∃m',m'<m/\W m' σ' H')/\tb {D with nx:=N,ct:=N,bk:=D.nx} σ H1 else D.nx σ H1
theorem a7s {c:Expr}{body:List Stmt}{tc:TT}{tb:TS}(hp:PassesOwn (model X.prog X.w) X.A X.env X.xe)(hc:PT X c tc)(hb:PSs X body tb):PS X (.While c body [] pos) (tWhile tc tb):=by
 intro pins s σ H D I h;obtain⟨W,⟨m0,w0⟩,turn⟩:=h;refine wpAny_While (codeAny_whileLoop (fun n s'=>∃σ' H',Inv X pins σ' H' s'/\W n σ' H') ?_ m0 ⟨σ,H,I,w0⟩);rintro n s1 ⟨σ1,H1,I1,w1⟩;refine xX hp (thn (hc pins s1 σ1 H1 _ I1 (turn n σ1 H1 w1)) fun b s2 ⟨H2,I2,q2⟩=>?_);cases b with
 | true=>
  obtain⟨N,hN,q2⟩:=q2;rw[if_pos rfl];refine xX hp (thn (hb pins s2 σ1 H2 _ I2 q2) fun f s3 q3=>?_);cases f with
  | next=>
   obtain⟨σ3,H3,I3,n3⟩:=q3;obtain⟨m',hm,w3⟩:=hN σ3 H3 n3;exact⟨m',hm,σ3,H3,I3,w3⟩
  | cont=>
   obtain⟨σ3,H3,I3,n3⟩:=q3;obtain⟨m',hm,w3⟩:=hN σ3 H3 n3;exact⟨m',hm,σ3,H3,I3,w3⟩
  | brk=>exact q3
  | ret v=>exact q3
 | false=>
  rw[if_neg zT];exact yS ⟨σ1,H2,I2,q2⟩
end
structure It where
 go:Nat->Hp->Prop
 yld:Nat->Hp->V->Hp->Prop
 stop:Nat->Hp->Prop
def FpOk (X:Cx) (pins:List (Addr×Obj)) (H:Hp) (b:Addr):Prop:=
 H b=none/\b≠X.env.locals/\b∉X.fs/\(b∈X.ex\/X.s₀.heap.objs.size<=b)/\(∀x c,X.env.cells.lookup x=some c->c≠b)/\∀p∈X.pn++pins,p.1≠b
theorem Inv.fpOk {X:Cx}{pins:List (Addr×Obj)}{σ:St}{H H':Hp}{s:Shared}{b:Addr}(I:Inv X pins σ H s)(hb:s.heap.objs.size<=b)(hn:H' b=none):FpOk X pins H' b:=by
 refine⟨hn,jX (zF I.lt hb),I.nofs hb,.inr (zX I.sz hb),fun x c e z=>?_,fun p hp z=>?_⟩
 ·obtain⟨v,q⟩:=I.cell x c e;exact absurd (zF q.lt (by rw[z];exact hb)) (jE _)
 ·exact absurd (zF (zO (I.pin p hp).1) (by rw[z];exact hb)) (jE _)
structure Turn (P:Program) (w:World) (K:PySem.W.Frag) (tg:Expr) (J:It) (fp:List Addr) (it:Addr) (tn:Nat->Heap->Prop):Prop where
 mem:it∈fp
 obj:∀i h,tn i h->∀b∈fp,∃o,h.get? b=some o/\∀v,o.data≠.cell v
 keep:∀i h h',tn i h->(∀b∈fp,∀o,h.get? b=some o->h'.get? b=some o)->tn i h'
 item:∀(X:Cx),X.prog=P->X.w=w->X.K=K->X.calm=true->∀(i:Nat) (pins:List (Addr×Obj)) (s:Shared) (σ:St) (H:Hp) (E:Value->Shared->Prop),Inv X pins σ H s->(∀b∈fp,FpOk X pins H b)->tn i s.heap->J.go i H->
  wpAny (model P w) X.A (pyNext (.ref it)) (fun r s1=>∃u,r=some u/\
   wpAny (model P w) X.A (letOwnedTupleGo tg (.ref it) u) (fun _ s2=>∃x H',Inv X pins σ H' s2/\RelV x u/\J.yld i H x H'/\tn (i+1) s2.heap/\∀b∈fp,H' b=none) E s1) E s
 done:∀(X:Cx),X.prog=P->X.w=w->X.K=K->X.calm=true->∀(i:Nat) (pins:List (Addr×Obj)) (s:Shared) (σ:St) (H:Hp) (E:Value->Shared->Prop),Inv X pins σ H s->(∀b∈fp,FpOk X pins H b)->tn i s.heap->J.stop i H->
  wpAny (model P w) X.A (pyNext (.ref it)) (fun r s1=>r=none/\Inv X pins σ H s1) E s
 self:∀(A:Around) (i:Nat) (s:Shared) (Q:Value->Shared->Prop) (E:Value->Shared->Prop),tn i s.heap->Q (.ref it) s->wpAny (model P w) A (pyIter (.ref it)) Q E s
abbrev TI:=St->Hp->(It->Hp->Prop)->Prop
def PIE (X:Cx) (pins:List (Addr×Obj)) (σ:St) (tg:Expr) (R:It->Hp->Prop) (itv:Value) (s2:Shared):Prop:=
 ∃(it:Addr) (fp:List Addr) (tn:Nat->Heap->Prop) (J:It) (H':Hp),itv= .ref it/\Inv X pins σ H' s2/\Turn X.prog X.w X.K tg J fp it tn/\tn 0 s2.heap/\(∀b∈fp,FpOk X pins H' b)/\R J H'
def PI (X:Cx) (tg iter:Expr) (wi:TI):Prop:=
 ∀(pins:List (Addr×Obj)) (s:Shared) (σ:St) (H:Hp) (R:It->Hp->Prop),Inv X pins σ H s->wi σ H R->
  wpAny (model X.prog X.w) X.A (eval iter X.env) (fun v s1=>wpAny (model X.prog X.w) X.A (pyIter v) (PIE X pins σ tg R) X.xe s1) X.xe s
theorem a6O {M:Model}{A:Around}{E:Value->Shared->Prop}{s:Shared}{tg:Expr}{it:Addr}{u:Value}{o:Obj}{n:String}{vs:Array Value}{Q:Unit->Shared->Prop}(ho:s.heap.get? it=some o)(hc:o.cls= .type n)(hd:o.data= .fields vs)
  (hn:["enumerate","zip","dict_itemiterator","dict_reverseitemiterator","odict_iterator","itertools.zip_longest","itertools.pairwise"].contains n=false) (hQ:Q () s):wpAny M A (letOwnedTupleGo tg (.ref it) u) Q E s:=by
 unfold letOwnedTupleGo;cases tg<;>first
  | exact zC hQ
  | (cases u<;>first
    | exact zC hQ
    | (refine zA (wpAny_load ho ?_)
       rw[hc,hd];show wpAny M A (if(["enumerate","zip","dict_itemiterator","dict_reverseitemiterator","odict_iterator","itertools.zip_longest","itertools.pairwise"].contains n&&vs[0]? == some (rawInt _))=true then _ else _) Q E s;rw[if_neg (by intro h;rw[hn,xD] at h;cases h)]
       exact zC hQ))
def Itl (K:PySem.W.Frag) (a:Addr):It:=
 ⟨fun i H=>∃xs x,SqL K H a xs/\xs[i]? =some x,fun i H x H'=>H'=H/\∀xs,SqL K H a xs->xs[i]? =some x,fun i H=>∃xs,SqL K H a xs/\xs.length<=i⟩
def Itt (K:PySem.W.Frag) (a:Addr):It:=
 ⟨fun i H=>∃xs x,SqT K H a xs/\xs[i]? =some x,fun i H x H'=>H'=H/\∀xs,SqT K H a xs->xs[i]? =some x,fun i H=>∃xs,SqT K H a xs/\xs.length<=i⟩
def Itr (lo:Int) (n:Nat):It:=⟨fun i _=>i<n,fun i H x H'=>H'=H/\x= .int (lo+i),fun i _=>n<=i⟩
theorem a5G {P:Program}{w:World}{K:PySem.W.Frag}{tg:Expr}(a it:Addr):Turn P w K tg (Itl K a) [it] it (fun i h=>h.IsListIter it a i) where
 mem:=by simp
 obj:=fun i h st b hb=>by
  have e:b=it:=by simpa using hb
  subst e;obtain⟨o,e,c,d⟩:=st;exact⟨o,e,fun v z=>by rw[d] at z;cases z⟩
 keep:=fun i h h' st k=>st.at fun o e=>k it (by simp) o e
 item:=by
  intro X hP hw hK hc i pins s σ H E I hf st hg;subst hP hw hK;obtain⟨xs,x,hq,hx⟩:=hg;obtain⟨its,rv,p,hz⟩:=I.list hq;obtain⟨u,hu,ru⟩:=rv.get hx;obtain⟨f0,f1,f2,f3,f4,f5⟩:=hf it (by simp)
  refine wpAny_pyNext_list_item st p.isList (x:=u) (by simpa using hu) fun h' st' sb=>?_
  have I1:Inv X pins σ H {s with heap:=h'}:=I.turned (t':=s.toks) (fun b o hb e=>(sb.2 b hb).trans e) f0 f1 f3 f4 f5
  obtain⟨o,e,c,d⟩:=id st';exact⟨u,rfl,a6O (s:={s with heap:=h'}) e c d (by decide) ⟨x,H,I1,ru,⟨rfl,fun ys hy=>by rw[I.list_inj hy hq];exact hx⟩,st',fun b hb=>(hf b hb).1⟩⟩
 done:=by
  intro X hP hw hK hc i pins s σ H E I hf st hg;subst hP hw hK;obtain⟨xs,hq,hx⟩:=hg;obtain⟨its,rv,p,hz⟩:=I.list hq;obtain⟨f0,f1,f2,f3,f4,f5⟩:=hf it (by simp)
  have hl:=rv.length;exact wpAny_pyNext_list_end (I.ok.hd hc) st p.isList (by simp;walk_at "o") fun h' eb=>⟨rfl,I.turned (t':=s.toks) (fun b o hb e=>eb b o hb e) f0 f1 f3 f4 f5⟩
 self:=fun _ _ _ _ _ st h=>wpAny_pyIter_listiter st h
theorem a3O {P:Program}{w:World}{K:PySem.W.Frag}{tg:Expr}(a it:Addr):Turn P w K tg (Itt K a) [it] it (fun i h=>h.IsTupleIter it a i) where
 mem:=by simp
 obj:=fun i h st b hb=>by
  have e:b=it:=by simpa using hb
  subst e;obtain⟨o,e,c,d⟩:=st;exact⟨o,e,fun v z=>by rw[d] at z;cases z⟩
 keep:=fun i h h' st k=>st.at fun o e=>k it (by simp) o e
 item:=by
  intro X hP hw hK hc i pins s σ H E I hf st hg;subst hP hw hK;obtain⟨xs,x,hq,hx⟩:=hg;obtain⟨its,rv,p,hz⟩:=I.tuple hq;obtain⟨u,hu,ru⟩:=rv.get hx;obtain⟨f0,f1,f2,f3,f4,f5⟩:=hf it (by simp)
  refine wpAny_pyNext_tuple_item st (show s.heap.IsTuple a its.toArray from p) (x:=u) (by simpa using hu) fun h' st' sb=>?_
  have I1:Inv X pins σ H {s with heap:=h'}:=I.turned (t':=s.toks) (fun b o hb e=>(sb.2 b hb).trans e) f0 f1 f3 f4 f5
  obtain⟨o,e,c,d⟩:=id st';exact⟨u,rfl,a6O (s:={s with heap:=h'}) e c d (by decide) ⟨x,H,I1,ru,⟨rfl,fun ys hy=>by rw[I.tuple_inj hy hq];exact hx⟩,st',fun b hb=>(hf b hb).1⟩⟩
 done:=by
  intro X hP hw hK hc i pins s σ H E I hf st hg;subst hP hw hK;obtain⟨xs,hq,hx⟩:=hg;obtain⟨its,rv,p,hz⟩:=I.tuple hq;obtain⟨f0,f1,f2,f3,f4,f5⟩:=hf it (by simp)
  have hl:=rv.length;exact wpAny_pyNext_tuple_end (I.ok.hd hc) st (show s.heap.IsTuple a its.toArray from p) (by simp;walk_at "o") fun h' eb=>⟨rfl,I.turned (t':=s.toks) (fun b o hb e=>eb b o hb e) f0 f1 f3 f4 f5⟩
 self:=fun _ _ _ _ _ st h=>wpAny_pyIter_tupleiter st h
theorem a36 {P:Program}{w:World}{K:PySem.W.Frag}{tg:Expr}(it:Addr)(lo:Int)(n:Nat):Turn P w K tg (Itr lo n) [it] it (fun i h=>IsRangeIter h it (lo+(i:Nat)*1) ((n:Int)-(i:Nat)) 1) where
 mem:=by simp
 obj:=fun i h st b hb=>by
  have e:b=it:=by simpa using hb
  subst e
  exact⟨_,st,fun v z=>by
   have z':Data.fields _=Data.cell v:=z
   cases z'⟩
 keep:=fun i h h' st k=>k it (by simp) _ st
 item:=by
  intro X hP hw hK hc i pins s σ H E I hf st hg;subst hP hw hK;obtain⟨f0,f1,f2,f3,f4,f5⟩:=hf it (by simp)
  have W:=Walks.range (prog:=X.prog) (w:=X.w) (I.ok.hd hc) it lo 1 n;refine W.item i s _ _ hg st fun v h' tk hv st' kk=>?_;obtain⟨t,rfl⟩:=hv;have I1:Inv X pins σ H {s with heap:=h',toks:=tk}:=I.turned (fun b o hb e=>kk b o (by simpa using hb) e) f0 f1 f3 f4 f5
  refine⟨_,rfl,a6O (s:={s with heap:=h',toks:=tk}) (n:="range_iterator") st' rfl rfl (by decide) ⟨.int (lo+i),H,I1,⟨t,?_⟩,⟨rfl,rfl⟩,st',fun b hb=>(hf b hb).1⟩⟩
  rw[Int.mul_one]
 done:=by
  intro X hP hw hK hc i pins s σ H E I hf st hg;subst hP hw hK;obtain⟨f0,f1,f2,f3,f4,f5⟩:=hf it (by simp)
  exact wpAny_pyNext_range_end (I.ok.hd hc) st (by have:n<=i:=hg;walk_at "o") fun h' eb=>⟨rfl,I.turned (t':=s.toks) (fun b o hb e=>eb b o hb e) f0 f1 f3 f4 f5⟩
 self:=fun _ _ _ _ _ st h=>wpAny_pyIter_rangeiter st h
section
variable {X:Cx}{tg:Expr}
theorem a8p {pins:List (Addr×Obj)}{σ:St}{H:Hp}{s:Shared}{R:It->Hp->Prop}{E:Value->Shared->Prop}{lo hi:Int}{t u v:Tok}{tk:Nat}(I:Inv X pins σ H s)(h1:-(2^62)<=lo)(h2:lo<2^62)(h3:-(2^62)<=hi)(h4:hi<2^62)
  (q:R (Itr lo (hi-lo).toNat) H):wpAny (model X.prog X.w) X.A (pyIter (.ref s.heap.objs.size)) (PIE X pins σ tg R) E {s with heap:=s.heap.push {cls:=.type "range",data:=.fields #[.int lo t,.int hi u,.int 1 v]},toks:=tk}:=by
 refine wpAny_pyIter_range (IsRange.new ..) (small_one h1 h2 h3 h4) ?_;have I1:Inv X pins σ H {s with heap:=s.heap.push {cls:=.type "range",data:=.fields #[.int lo t,.int hi u,.int 1 v]},toks:=tk}:=I.kept fun b o e=>zD _ e
 refine⟨(s.heap.push {cls:=.type "range",data:=.fields #[.int lo t,.int hi u,.int 1 v]}).objs.size,[(s.heap.push {cls:=.type "range",data:=.fields #[.int lo t,.int hi u,.int 1 v]}).objs.size],_,_,H,rfl,
  I1.kept (t':=tk) fun b o e=>zD _ e,a36 _ lo (hi-lo).toNat,?_,fun b hb=>?_,q⟩
 ·have e1:lo+((0:Nat):Int)*1=lo:=by simp
  have e2:(((hi-lo).toNat:Nat):Int)-((0:Nat):Int)=Builtin.Range.rangeSize lo hi 1:=by rw[rangeSize_one];split<;>walk_at "o"
  show IsRangeIter _ _ (lo+((0:Nat):Int)*1) ((((hi-lo).toNat:Nat):Int)-((0:Nat):Int)) 1;rw[e1,e2];exact zK _ rfl
 ·have e:b=(s.heap.push {cls:=.type "range",data:=.fields #[.int lo t,.int hi u,.int 1 v]}).objs.size:=by simpa using hb
  subst e;exact I1.fpOk (zE _) (I1.hok.fresh (zE _))
def iRng1 (ta:TA):TI:=fun σ H R=>ta σ H fun vs H1=>∃j:Int,vs=[.int j]/\-(2^62)<=j/\j<2^62/\R (Itr 0 j.toNat) H1
theorem a6l {a:Expr}{ta:TA}{p pos:Pos}(hg:Gl X "range")(hm:X.mg "range"=none)(ha:PA X [a] ta)(hs:starEach [a] X.env=[(false,eval a X.env)]:=by rfl):PI X tg (.Call (.Name "range" p) [a] [] pos) (iRng1 ta):=by
 intro pins s σ H R I h;refine Call_ (R3 I hg hm boot_range (jV (thn (ha pos pins s σ H _ I h) fun us s1 h0=>ex5 h0 fun vs H1 I1 r1 q1=>?_) hs rfl));obtain⟨j,e,q1,q2,q⟩:=q1;subst e;cases r1 with
 | cons r rr=>
  cases rr;obtain⟨t,rfl⟩:=r;exact call_range_1 (a8p I1 (by walk_at "o") (by walk_at "o") q1 q2 (by simpa using q))
def tFor (wi:TI) (g:TG) (tb:TS):TS:=fun D σ H=>wi σ H fun J H1=>∃W:Nat->Nat->St->Hp->Prop,(∃m,W 0 m σ H1)/\∀i m σ H,W i m σ H->
 (J.stop i H/\D.nx σ H)\/(J.go i H/\∃N:St->Hp->Prop,(∀σ' H',N σ' H'->∃m',m'<m/\W (i+1) m' σ' H')/\∀x H',J.yld i H x H'->g x σ H' fun σ2 H2=>tb {D with nx:=N,ct:=N,bk:=D.nx} σ2 H2)
def pinsAt (fp:List Addr) (h:Heap):List (Addr×Obj):=fp.filterMap fun b=>(h.get? b).map fun o=>(b,o)
theorem A6 {fp:List Addr}{h:Heap}{b:Addr}{o:Obj}(hb:b∈fp)(e:h.get? b=some o):(b,o)∈pinsAt fp h:=yQ.mpr ⟨b,hb,by rw[e];rfl⟩
theorem a5A {fp:List Addr}{h:Heap}{p:Addr×Obj}(hp:p∈pinsAt fp h):p.1∈fp/\h.get? p.1=some p.2:=by
 obtain⟨b,hb,e⟩:=yQ.mp hp;cases q:h.get? b with
 | none=>rw[q] at e;cases e
 | some o=>
  rw[q] at e;have e':(b,o)=p:=jC e;subst e';exact⟨hb,q⟩
theorem Inv.pinned {pins:List (Addr×Obj)}{σ:St}{H:Hp}{s:Shared}{fp:List Addr}(I:Inv X pins σ H s)(hf:∀b∈fp,FpOk X pins H b)(ho:∀b∈fp,∃o,s.heap.get? b=some o/\∀v,o.data≠.cell v):Inv X (pins++pinsAt fp s.heap) σ H s:=
 I.pins_of fun p hp=>(jB.mp hp).elim (fun z=>I.pin p (qN _ z)) fun z=>by
  obtain⟨hb,e⟩:=a5A z;obtain⟨f0,f1,f2,_⟩:=hf p.1 hb;obtain⟨o,e',d⟩:=ho p.1 hb;rw[e] at e';cases e';exact⟨e,f0,f1,f2,d⟩
theorem Inv.unpinned {pins pl:List (Addr×Obj)}{σ:St}{H:Hp}{s:Shared}(I:Inv X (pins++pl) σ H s):Inv X pins σ H s:=I.pins_of fun p hp=>I.pin p (qN _ (yR _ hp))
theorem b1G {iter:Expr}{body:List Stmt}{wi:TI}{g:TG}{tb:TS}{pos:Pos}(hp:PassesOwn (model X.prog X.w) X.A X.env X.xe)(hc:X.calm=true)(hi:PI X tg iter wi)(hg:PG X tg g)(hb:PSs X body tb)
  (hs:∀x,foldedSetIterable iter X.env x=pure x:=by intro _;rfl):PS X (.For tg iter body [] pos) (tFor wi g tb):=by
 intro pins s σ H D I h;refine wpAny_For (thn (hi pins s σ H _ I h) fun v s1 h1=>thn h1 fun itv s2 h2=>?_) hs;obtain⟨it,fp,tn,J,H2,e,I2,T,st2,f2,W,⟨m0,w0⟩,turn⟩:=h2;subst e;have stat:∀{H':Hp},(∀b∈fp,H' b=none)->∀b∈fp,FpOk X pins H' b:=fun hn b hb=>⟨hn b hb,(f2 b hb).2⟩;refine codeAny_forLoop_any (fun n s'=>∃i σ' H',Inv X pins σ' H' s'/\tn i s'.heap/\(∀b∈fp,H' b=none)/\W i n σ' H') ?_ m0 ⟨0,σ,H2,I2,st2,fun b hb=>(f2 b hb).1,w0⟩;rintro n s3 ⟨i,σ3,H3,I3,st3,fr3,w3⟩;rcases turn i n σ3 H3 w3 with ⟨stop,qn⟩|⟨go,N,hN,step⟩
 ·refine xX hp (thn (T.done X rfl rfl rfl hc i pins s3 σ3 H3 X.xe I3 (stat fr3) st3 stop) fun r s4 ⟨hr,I4⟩=>?_);subst hr;exact yS ⟨σ3,H3,I4,qn⟩
 ·refine xX hp (thn (T.item X rfl rfl rfl hc i pins s3 σ3 H3 X.xe I3 (stat fr3) st3 go) fun r s4 ⟨u,hr,h4⟩=>?_);subst hr;refine xX hp (thn h4 fun _ s5 ⟨x,H5,I5,r5,y5,st5,fr5⟩=>?_);have I5':=I5.pinned (stat fr5) (T.obj _ _ st5);refine xX hp (thn (hg _ s5 σ3 H5 x u _ I5' r5 (step x H5 y5)) fun _ s6 ⟨σ6,H6,I6,q6⟩=>?_);refine xX hp (thn (hb _ s6 σ6 H6 _ I6 q6) fun f s7 q7=>?_);have again:∀{σ7:St} {H7:Hp},Inv X (pins++pinsAt fp s5.heap) σ7 H7 s7->N σ7 H7->∃m,m<n/\∃i σ' H',Inv X pins σ' H' s7/\tn i s7.heap/\(∀b∈fp,H' b=none)/\W i m σ' H':=fun{σ7 H7} I7 n7=>by
   obtain⟨m',hm,w7⟩:=hN σ7 H7 n7;refine⟨m',hm,i+1,σ7,H7,I7.unpinned,T.keep _ _ _ st5 fun b hb o e=>(I7.pin (b,o) (qN _ (qN _ (A6 hb e)))).1,fun b hb=>?_,w7⟩;obtain⟨o,e,d⟩:=T.obj _ _ st5 b hb;exact(I7.pin (b,o) (qN _ (qN _ (A6 hb e)))).2.1
  cases f with
  | next=>obtain⟨σ7,H7,I7,n7⟩:=q7;exact again I7 n7
  | cont=>obtain⟨σ7,H7,I7,n7⟩:=q7;exact again I7 n7
  | brk=>obtain⟨σ7,H7,I7,q7⟩:=q7;exact⟨σ7,H7,I7.unpinned,q7⟩
  | ret v=>obtain⟨x7,σ7,H7,I7,r7,q7⟩:=q7;exact⟨x7,σ7,H7,I7.unpinned,r7,q7⟩
end
abbrev R2:=V->V->Hp->VK->Prop
def OpR (X:Cx) (f:Value->Value->Sem Value) (r:R2):Prop:=
 ∀(pins:List (Addr×Obj)) (s:Shared) (σ:St) (H:Hp) (x y:V) (v u:Value) (Q:VK),Inv X pins σ H s->RelV x v->RelV y u->r x y H Q->
  wpAny (model X.prog X.w) X.A (f v u) (EP X pins σ Q) X.xe s
def UnR (X:Cx) (f:Value->Sem Value) (r:V->Hp->VK->Prop):Prop:=
 ∀(pins:List (Addr×Obj)) (s:Shared) (σ:St) (H:Hp) (x:V) (v:Value) (Q:VK),Inv X pins σ H s->RelV x v->r x H Q->
  wpAny (model X.prog X.w) X.A (f v) (EP X pins σ Q) X.xe s
def CallR (X:Cx) (f:Value) (r:List V->Hp->VK->Prop):Prop:=
 ∀(pins:List (Addr×Obj)) (s:Shared) (σ:St) (H:Hp) (xs:List V) (us:List Value) (Q:VK),Inv X pins σ H s->Vals xs us->r xs H Q->
  wpAny (model X.prog X.w) X.A (call f us) (EP X pins σ Q) X.xe s
def TruR (X:Cx) (r:V->Hp->(Bool->Hp->Prop)->Prop):Prop:=
 ∀(pins:List (Addr×Obj)) (s:Shared) (σ:St) (H:Hp) (x:V) (v:Value) (Q:Bool->Hp->Prop),Inv X pins σ H s->RelV x v->r x H Q->
  wpAny (model X.prog X.w) X.A (truthy v) (TP X pins σ Q) X.xe s
def tOp (r:R2) (ta tb:TE):TE:=fun σ H Q=>ta σ H fun x H1=>tb σ H1 fun y H2=>r x y H2 Q
def tUn (r:V->Hp->VK->Prop) (ta:TE):TE:=fun σ H Q=>ta σ H fun x H1=>r x H1 Q
def rI (C:Int->Int->Prop) (g:Int->Int->V):R2:=fun x y H Q=>∃i j,x= .int i/\y= .int j/\C i j/\Q (g i j) H
def rI0 (g:Int->Int->V):R2:=fun x y H Q=>∃i j,x= .int i/\y= .int j/\Q (g i j) H
def rU (g:Int->V):V->Hp->VK->Prop:=fun x H Q=>∃i,x= .int i/\Q (g i) H
section
variable {X:Cx}{a b:Expr}{ta tb:TE}{pos:Pos}
theorem binT (ha:PE X a ta)(hb:PE X b tb){pins:List (Addr×Obj)}{s:Shared}{σ:St}{H:Hp}{R:V->V->Hp->Prop}(I:Inv X pins σ H s)
  (h:ta σ H fun x H1=>tb σ H1 fun y H2=>R x y H2) {Q:Value->Shared->Prop} {f:Value->Value->Sem Value}
  (hf:∀v u s2 x y H2,Inv X pins σ H2 s2->RelV x v->RelV y u->R x y H2->wpAny (model X.prog X.w) X.A (f v u) Q X.xe s2):
  wpAny (model X.prog X.w) X.A (eval a X.env) (fun v s₁=>wpAny (model X.prog X.w) X.A (eval b X.env) (fun u s₂=>wpAny (model X.prog X.w) X.A (f v u) Q X.xe s₂) X.xe s₁) X.xe s:=by
 refine thn (ha pins s σ H _ I h) fun v s1 h0=>ex5 h0 fun x H1 I1 r1 q1=>?_;refine thn (hb pins s1 σ H1 _ I1 q1) fun u s2 h0=>ex5 h0 fun y H2 I2 r2 q2=>?_;exact hf v u s2 x y H2 I2 r1 r2 q2
theorem pe_op {op:Operator}{r:R2}(ho:OpR X (binaryOp op) r)(ha:PE X a ta)(hb:PE X b tb):PE X (.BinOp a op b pos) (tOp r ta tb):=by
 intro pins s σ H Q I h;exact wpAny_BinOp (binT ha hb I h fun v u s2 x y H2 I2 rx ry q=>ho pins s2 σ H2 x y v u Q I2 rx ry q)
theorem pe_un {op:UnaryOp}{r:V->Hp->VK->Prop}(ho:UnR X (unaryOp op) r)(ha:PE X a ta):PE X (.UnaryOp op a pos) (tUn r ta):=by
 intro pins s σ H Q I h;exact UnaryOp_ (thn (ha pins s σ H _ I h) fun v s1 h0=>ex5 h0 fun x H1 I1 r1 q1=>ho pins s1 σ H1 x v Q I1 r1 q1)
theorem opI {f:Value->Value->Sem Value}{C:Int->Int->Prop}{g:Int->Int->Int}
  (rule:∀(i j:Int) (t u:Tok) (s:Shared) (Q:Value->Shared->Prop) (E:Value->Shared->Prop),C i j->Q (.int (g i j) s.toks) {s with toks:=s.toks+1}->wpAny (model X.prog X.w) X.A (f (.int i t) (.int j u)) Q E s):
  OpR X f (rI C fun i j=>.int (g i j)):=by
 intro pins s σ H x y v u Q I rx ry h;obtain⟨i,j,rfl,rfl,hc,q⟩:=h;obtain⟨t,rfl⟩:=rx;obtain⟨t',rfl⟩:=ry;exact rule i j t t' s _ _ hc ⟨.int (g i j),H,I.tok _,⟨_,rfl⟩,q⟩
theorem opI0 {f:Value->Value->Sem Value}{g:Int->Int->Int}
  (rule:∀(i j:Int) (t u:Tok) (s:Shared) (Q:Value->Shared->Prop) (E:Value->Shared->Prop),Q (.int (g i j) s.toks) {s with toks:=s.toks+1}->wpAny (model X.prog X.w) X.A (f (.int i t) (.int j u)) Q E s):
  OpR X f (rI0 fun i j=>.int (g i j)):=by
 intro pins s σ H x y v u Q I rx ry h;obtain⟨i,j,rfl,rfl,q⟩:=h;obtain⟨t,rfl⟩:=rx;obtain⟨t',rfl⟩:=ry;exact rule i j t t' s _ _ ⟨.int (g i j),H,I.tok _,⟨_,rfl⟩,q⟩
theorem opB0 {f:Value->Value->Sem Value}{g:Int->Int->Bool}
  (rule:∀(i j:Int) (t u:Tok) (s:Shared) (Q:Value->Shared->Prop) (E:Value->Shared->Prop),Q (.bool (g i j)) s->wpAny (model X.prog X.w) X.A (f (.int i t) (.int j u)) Q E s):
  OpR X f (rI0 fun i j=>.bl (g i j)):=by
 intro pins s σ H x y v u Q I rx ry h;obtain⟨i,j,rfl,rfl,q⟩:=h;obtain⟨t,rfl⟩:=rx;obtain⟨t',rfl⟩:=ry;exact rule i j t t' s _ _ ⟨.bl (g i j),H,I,rfl,q⟩
def CPow (i j:Int):Prop:=0<=j/\j<=1000000/\i.natAbs<2^64
theorem b1n:OpR X (binaryOp .Add) (rI0 fun i j=>.int (i+j)):=opI0 fun _ _ _ _ _ _ _ q=>add_int q
theorem b16:OpR X (binaryOp .Sub) (rI0 fun i j=>.int (i-j)):=opI0 fun _ _ _ _ _ _ _ q=>sub_int q
theorem b1Z:OpR X (binaryOp .Mod) (rI (fun _ j=>0<j) fun i j=>.int (i%j)):=opI fun i j _ _ _ _ _ hc q=>by
 have h1:(0:Int)<j:=hc;exact mod_int' (by walk_at "o") (by rw[Int.fmod_eq_emod_of_nonneg i (by walk_at "o")];exact q)
theorem b1F:OpR X (binaryOp .Pow) (rI CPow fun i j=>.int (i^j.toNat)):=opI fun _ _ _ _ _ _ _ hc q=>pow_int_small hc.1 hc.2.1 hc.2.2 q
theorem unI {f:Value->Sem Value}{g:Int->Int}
  (rule:∀(i:Int) (t:Tok) (s:Shared) (Q:Value->Shared->Prop) (E:Value->Shared->Prop),Q (.int (g i) s.toks) {s with toks:=s.toks+1}->wpAny (model X.prog X.w) X.A (f (.int i t)) Q E s):
  UnR X f (rU fun i=>.int (g i)):=by
 intro pins s σ H x v Q I rx h;obtain⟨i,rfl,q⟩:=h;obtain⟨t,rfl⟩:=rx;exact rule i t s _ _ ⟨.int (g i),H,I.tok _,⟨_,rfl⟩,q⟩
theorem b1V:UnR X (unaryOp .USub) (rU fun i=>.int (-i)):=unI fun _ _ _ _ _ q=>neg_int q
end
section
variable {X:Cx}{a b c:Expr}{ta tb tc:TE}{pos:Pos}
theorem a8C:OpR X (compareOp .Lt) (rI0 fun i j=>.bl (decide (i<j))):=opB0 fun _ _ _ _ _ _ _ q=>lt_int q
theorem a7U:OpR X (compareOp .LtE) (rI0 fun i j=>.bl (decide (i<=j))):=opB0 fun _ _ _ _ _ _ _ q=>le_int q
theorem op_gt:OpR X (compareOp .Gt) (rI0 fun i j=>.bl (decide (j<i))):=opB0 fun _ _ _ _ _ _ _ q=>gt_int q
theorem OpR.or {f:Value->Value->Sem Value}{r r':R2}(h:OpR X f r)(h':OpR X f r'):OpR X f (fun x y H Q=>r x y H Q\/r' x y H Q):=by
 intro pins s σ H x y v u Q I rx ry q;rcases q with q|q
 ·exact h pins s σ H x y v u Q I rx ry q
 ·exact h' pins s σ H x y v u Q I rx ry q
theorem nomark (b:Expr){op:CmpOp}(h:op≠.In:=by decide)(h2:op≠.NotIn:=by decide):behindInMarks op b=false:=by
 have e1:(op==CmpOp.In)=false:=by cases op<;>first|rfl|exact absurd rfl h
 have e2:(op==CmpOp.NotIn)=false:=by cases op<;>first|rfl|exact absurd rfl h2
 cases b<;>simp[behindInMarks,e1,e2]
theorem a9i {op:CmpOp}{r:R2}(ho:OpR X (compareOp op) r)(ha:PE X a ta)(hb:PE X b tb)(hm:behindInMarks op b=false):PE X (.Compare a [op] [b] pos) (tOp r ta tb):=by
 intro pins s σ H Q I h;exact wpAny_Compare1 (binT ha hb I h fun v u s2 x y H2 I2 rx ry q=>ho pins s2 σ H2 x y v u Q I2 rx ry q) hm
def tTest (t:TE):TT:=fun σ H Q=>t σ H fun x H'=>∃k,x= .bl k/\Q k H'
theorem a9H {op:CmpOp}{r:R2}(ho:OpR X (compareOp op) r)(ha:PE X a ta)(hb:PE X b tb)(hm:behindInMarks op b=false):PT X (.Compare a [op] [b] pos) (tTest (tOp r ta tb)):=by
 intro pins s σ H Q I h
 refine wpAny_isTrue_Compare1 (thn (ha pins s σ H _ I h) fun v s1 h0=>ex5 h0 fun x H1 I1 r1 q1=>thn (hb pins s1 σ H1 _ I1 q1) fun u s2 h0=>ex5 h0 fun y H2 I2 r2 q2=>
  thn (ho pins s2 σ H2 x y v u _ I2 r1 r2 q2) fun c s3 ⟨z,H3,I3,r3,k,e,q3⟩=>?_) hm
 subst e;cases r3;exact vB ⟨H3,I3,q3⟩
def tChain (r r':R2) (ta tb tc:TE):TE:=fun σ H Q=>ta σ H fun x H1=>tb σ H1 fun y H2=>r x y H2 fun z H3=>∃k,z= .bl k/\
 (if k=true then tc σ H3 fun w' H4=>r' y w' H4 Q else Q (.bl false) H3)
theorem a20 {op op':CmpOp}{r r':R2}(ho:OpR X (compareOp op) r)(ho':OpR X (compareOp op') r')(ha:PE X a ta)(hb:PE X b tb)(hc:PE X c tc)
  (hm:lastMarks [op,op'] [b,c]=false:=by with_unfolding_all rfl):PE X (.Compare a [op,op'] [b,c] pos) (tChain r r' ta tb tc):=by
 intro pins s σ H Q I h
 refine Compare_chain (thn (ha pins s σ H _ I h) fun v s1 h0=>ex5 h0 fun x H1 I1 r1 q1=>chain_link (thn (hb pins s1 σ H1 _ I1 q1) fun u s2 h0=>ex5 h0 fun y H2 I2 r2 q2=>
  thn (ho pins s2 σ H2 x y v u _ I2 r1 r2 q2) fun d s3 ⟨z,H3,I3,r3,k,e,q3⟩=>?_)) hm
 subst e;cases r3;refine vB ?_;cases k with
 | false=>exact ite_ff ⟨.bl false,H3,I3,rfl,q3⟩
 | true=>exact ite_tt (chain_last (thn (hc pins s3 σ H3 _ I3 q3) fun w' s4 h0=>ex5 h0 fun z' H4 I4 r4 q4=>ho' pins s4 σ H4 y z' u w' Q I4 r2 r4 q4))
def TruV (K:PySem.W.Frag) (x:V) (H:Hp) (k:Bool):Prop:=
 match x with
 | .non=>k=false
 | .bl b=>k=b
 | .int i=>k=(i != 0)
 | .str y=>y.length<=sizeLine/\k=((y.length:Int) != 0)
 | .byt y=>y.size<=sizeLine/\k=((y.size:Int) != 0)
 | .ref p=>(∃xs,SqL K H p xs/\k= !xs.isEmpty)\/(∃xs,SqT K H p xs/\k= !xs.isEmpty)\/∃kvs,H p=some (.dK kvs)/\k= !kvs.isEmpty
 | _=>False
theorem a31 {κ:Type}{kvs:List (κ×V)}{vs:List (κ×Value)}(r:KV kvs vs):(!vs.isEmpty)= !kvs.isEmpty:=by
 cases r<;>rfl
theorem a05 {xs:List V}{its:List Value}(r:Vals xs its):(!its.toArray.isEmpty)= !xs.isEmpty:=by
 cases r<;>simp
theorem line63:(sizeLine:Nat)<2^63:=by rw[qR];decide
theorem a6H:TruR X (fun x H Q=>∃k,TruV X.K x H k/\Q k H):=by
 intro pins s σ H x v Q I rx h;obtain⟨k,e,q⟩:=h;have hl:=line63;have hs:sizeLine=16777216:=qR;cases x with
 | non=>
  cases rx;have e':k=false:=e;subst e';exact truthy_none ⟨H,I,q⟩
 | bl b=>
  cases rx;have e':k=b:=e;subst e';exact vB ⟨H,I,q⟩
 | int i=>
  obtain⟨t,rfl⟩:=rx;have e':k=(i != 0):=e;subst e';exact PySem.P.truthy_int ⟨H,I,q⟩
 | str y=>
  obtain⟨t,rfl⟩:=rx;obtain⟨hy,e'⟩:y.length<=sizeLine/\k=((y.length:Int) != 0):=e;subst e';exact PySem.P.truthy_str (by walk_at "o") ⟨H,I.tok _,q⟩
 | byt y=>
  obtain⟨t,rfl⟩:=rx;obtain⟨hy,e'⟩:y.size<=sizeLine/\k=((y.size:Int) != 0):=e;subst e';exact PySem.W.truthy_bytes (by walk_at "o") ⟨H,I.tok _,q⟩
 | ref p=>
  cases rx;have e':(∃xs,SqL X.K H p xs/\k= !xs.isEmpty)\/(∃xs,SqT X.K H p xs/\k= !xs.isEmpty)\/∃kvs,H p=some (.dK kvs)/\k= !kvs.isEmpty:=e;rcases e' with ⟨xs,hx,e'⟩|⟨xs,hx,e'⟩|⟨kvs,hx,e'⟩
  ·subst e';obtain⟨its,r,pl,hz⟩:=I.list hx;have hlen:=r.length;exact wpAny_truthy_list pl.isList (by simp only[qI];walk_at "o") ⟨H,I.tok _,by rw[a05 r];exact q⟩
  ·subst e';obtain⟨its,r,pl,hz⟩:=I.tuple hx;have hlen:=r.length;exact truthy_tuple pl (by simp only[qI];walk_at "o") ⟨H,I.tok _,by rw[a05 r];exact q⟩
  ·subst e';obtain⟨hz,hS,vs,r,m⟩:kvs.length<=sizeLine/\(p==sysModules)=false/\∃vs,KV kvs vs/\s.heap.DictAt (mixKind X.prog X.w) p vs kvs.length:=I.hok p _ hx;have hlen:kvs.length=vs.length:=Paired.length r;exact wpAny_truthy_dict hS m.dictOf (by walk_at "o") ⟨H,I.tok _,by rw[a31 r];exact q⟩
 | _=>exact(show False from e).elim
theorem a62 (ha:PE X a ta)(he:∀whole,isTrue a X.env whole=(do let v <-whole;standAt a.pos;holding [v] (truthy v))):
  PT X a (fun σ H Q=>ta σ H fun x H'=>∃k,TruV X.K x H' k/\Q k H'):=by
 intro pins s σ H Q I h;exact isTrue_plain (thn (ha pins s σ H _ I h) fun v s1 h0=>ex5 h0 fun x H1 I1 r1 q1=>a6H pins s1 σ H1 x v Q I1 r1 q1) (he _)
theorem vals1 {x:V}{us:List Value}(r:Vals [x] us):∃u,us=[u]/\RelV x u:=by
 cases r with
 | cons r1 r2=>cases r2;exact⟨_,rfl,r1⟩
theorem vals2 {x y:V}{us:List Value}(r:Vals [x,y] us):∃u w',us=[u,w']/\RelV x u/\RelV y w':=by
 cases r with
 | cons r1 r2=>
  cases r2 with
  | cons r3 r4=>cases r4;exact⟨_,_,rfl,r1,r3⟩
theorem a1L (hc:X.calm=true):CallR X (.builtin "max") (fun xs H Q=>∃i j,xs=[.int i,.int j]/\Q (.int (if j>i then j else i)) H):=by
 intro pins s σ H xs us Q I r h;obtain⟨i,j,rfl,q⟩:=h;obtain⟨u,w',rfl,⟨t,rfl⟩,⟨t',rfl⟩⟩:=vals2 r;refine max_two_ints (I.ok.hd hc) fun h' tk k=>⟨_,H,I.kept k,?_,q⟩
 by_cases hj:j>i
 ·rw[if_pos hj,if_pos hj];exact⟨_,rfl⟩
 ·rw[if_neg hj,if_neg hj];exact⟨_,rfl⟩
theorem P9 (hc:X.calm=true):CallR X (.builtin "min") (fun xs H Q=>∃i j,xs=[.int i,.int j]/\Q (.int (if j<i then j else i)) H):=by
 intro pins s σ H xs us Q I r h;obtain⟨i,j,rfl,q⟩:=h;obtain⟨u,w',rfl,⟨t,rfl⟩,⟨t',rfl⟩⟩:=vals2 r;refine min_two_ints (I.ok.hd hc) fun h' tk k=>⟨_,H,I.kept k,?_,q⟩
 by_cases hj:j<i
 ·rw[if_pos hj,if_pos hj];exact⟨_,rfl⟩
 ·rw[if_neg hj,if_neg hj];exact⟨_,rfl⟩
end
theorem RelO.some_of {v:V}{o:Option Value}(r:RelO (some v) o):∃u,o=some u/\RelV v u:=by
 cases o with
 | none=>exact(show False from r).elim
 | some u=>exact⟨u,rfl,r⟩
structure Cls (K:PySem.W.Frag) (C:Addr):Prop where
 pg:PySem.W.plainGet K C Str.empty=true
 hd:PySem.W.hasDictIn K C=true
 po:PySem.W.plainOver K C=true
 sa:PySem.W.findIn K (.ref C) "__setattr__"=some (some (.builtin "object.__setattr__"))
section
variable {X:Cx}{pins:List (Addr×Obj)}{σ:St}{H:Hp}{s:Shared}{a C:Addr}
theorem Inv.made (I:Inv X pins σ H s):Inv X pins σ (upd (upd H s.heap.objs.size (.own (s.heap.objs.size+1))) (s.heap.objs.size+1) (.ins C s.heap.objs.size []))
  {s with heap:=(s.heap.push PySem.W.emptyDict).push (PySem.W.instObj C s.heap.objs.size)}:=by
 have e1:(s.heap.push PySem.W.emptyDict).get? s.heap.objs.size=some PySem.W.emptyDict:=zK s.heap rfl;have e2:((s.heap.push PySem.W.emptyDict).push (PySem.W.instObj C s.heap.objs.size)).get? (s.heap.objs.size+1)=some (PySem.W.instObj C s.heap.objs.size):=by
  have:=zK (s.heap.push PySem.W.emptyDict) (o:=PySem.W.instObj C s.heap.objs.size) rfl
  rwa [jI] at this
 have e3:(s.heap.push PySem.W.emptyDict).Ns s.heap.objs.size (fun _=>none):=⟨PySem.W.emptyDict, #[],_,e1,rfl,(fun e he=>absurd he (by simp)),fun _=>rfl⟩
 have I1:=I.laid (a:=s.heap.objs.size) (o:=.own (s.heap.objs.size+1)) (h':=s.heap.push PySem.W.emptyDict) (t':=s.toks) (fun b u q=>zD _ q) (zE _) ⟨_,e1⟩;refine I1.laid (a:=s.heap.objs.size+1) (o:=.ins C s.heap.objs.size []) (t':=s.toks) (fun b u q=>zD _ q) (Nat.le_of_eq (jI _ _)) ?_;have ne:s.heap.objs.size≠s.heap.objs.size+1:=zG (xA _);refine⟨by rw[c9 ne,j3],jG _,ne,e2,fun _=>none,(Heap.Ns1.of_empty e3).at fun o q=>zD _ q,fun _=>True.intro,fun y hy=>absurd rfl hy⟩
end
section
variable {H:Hp}
inductive TyOf (K:PySem.W.Frag) (H:Hp):V->Value->Prop where
 | non:TyOf K H .non (.type "NoneType")
 | bl (x:Bool):TyOf K H (.bl x) (.type "bool")
 | int (i:Int):TyOf K H (.int i) (.type "int")
 | str (x:Str):TyOf K H (.str x) (.type "str")
 | flt (x:UInt64):TyOf K H (.flt x) (.type "float")
 | lst {a:Addr} {xs:List V} (e:H a=some (.lst xs)):TyOf K H (.ref a) (.type "list")
 | frz {a:Addr} {o:Obj} {xs:List V} (e:H a=some (.frz o (.lst xs))):TyOf K H (.ref a) (.type "list")
 | tup {a:Addr} {xs:List V} (e:H a=some (.tup xs)):TyOf K H (.ref a) (.type "tuple")
 | dK {a:Addr} {kvs:List (Key×V)} (e:H a=some (.dK kvs)):TyOf K H (.ref a) (.type "dict")
 | dT {a:Addr} {kvs:List (List Key×V)} (e:H a=some (.dT kvs)):TyOf K H (.ref a) (.type "dict")
 | ins {a C dx:Addr} {fs:List (Str×V)} (e:H a=some (.ins C dx fs)) (cl:Cls K C) (ha:PySem.W.findIn K (.ref C) "__class__"=some (some (.builtin "object.__class__")))
   (hn:PySem.W.specialIn K (.builtin "object.__class__") "__get__"=some (some (.builtin "getset_descriptor.__get__"))) (htk:PySem.W.takesIn K (.builtin "object.__class__")=some true)
   (hm:PySem.W.mroIn K C (.type "object")=some true):TyOf K H (.ref a) (.ref C)
end
structure Room (k:Nat) (A:Around):Prop where
 hd:A.handled=none
 dp:A.depth+3*k+5<recursionLimit
 un:A.units+16*k+200<cLine
 gd:A.guards=some []
theorem Room.mono {j k:Nat}{A:Around}(r:Room k A)(h:j<=k):Room j A:=⟨r.hd,by have:=r.dp;walk_at "o",by have:=r.un;walk_at "o",r.gd⟩
theorem Room.deeper {k:Nat}{A:Around}(r:Room (k+1) A)(env:Env):Room k (A.deeper env):=
 ⟨r.hd,by have:=r.dp;show A.depth+1+3*k+5<_;walk_at "o",by have:=r.un;show A.units+3+16*k+200<_;walk_at "o",r.gd⟩
theorem Room.depth {k:Nat}{A:Around}(r:Room k A):A.depth<recursionLimit:=by have:=r.dp;walk_at "o"
theorem Room.units {k:Nat}{A:Around}(r:Room k A):A.units+64<cLine:=by have:=r.un;walk_at "o"
def tNil:TA:=fun _ H Q=>Q [] H
def tCons (ta:TE) (tr:TA):TA:=fun σ H Q=>ta σ H fun x H1=>tr σ H1 fun xs H2=>Q (x::xs) H2
section
variable {X:Cx}{e:Expr}{es:List Expr}{te:TE}{t:TA}{pos:Pos}
theorem N2:PA X [] tNil:=fun _ _ _ _ H Q I h=>Calls.spliced_nil ⟨[],H,I,.nil,h⟩
theorem w8 (ha:PE X e te)(hr:PA X es t)(hs:starEach (e::es) X.env=(false,eval e X.env)::starEach es X.env:=by rfl):PA X (e::es) (tCons te t):=by
 intro pos pins s σ H Q I h;rw[hs];show wpAny _ _ (spliced ((false,eval e X.env)::backTo pos (starEach es X.env))) _ _ s;refine Calls.spliced_cons (thn (ha pins s σ H _ I h) fun u s1 h0=>ex5 h0 fun x H1 I1 r1 q1=>?_);exact thn (hr pos pins s1 σ H1 _ I1 q1) fun us s2 h0=>ex5 h0 fun xs H2 I2 r2 q2=>⟨x::xs,H2,I2,.cons r1 r2,q2⟩
def tTup (t:TA):TE:=fun σ H Q=>t σ H fun xs H1=>xs.length<=sizeLine/\∀p,H1 p=none->Q (.ref p) (upd H1 p (.tup xs))
def tLst (t:TA):TE:=fun σ H Q=>t σ H fun xs H1=>xs.length<=sizeLine/\∀p,H1 p=none->Q (.ref p) (upd H1 p (.lst xs))
theorem a4h {x1}(h:PA X es t):PE X (.Tuple es x1 pos) (tTup t):=by
 intro pins s σ H Q I hq;refine wpAny_Tuple_spliced (thn (h pos pins s σ H _ I hq) fun us s1 ⟨xs,H1,I1,r,z,q⟩=>⟨by rw[<-r.length];exact z,?_⟩)
 have hf:H1 s1.heap.objs.size=none:=I1.hok.fresh (zE _);refine⟨.ref s1.heap.objs.size,upd H1 s1.heap.objs.size (.tup xs),I1.laid (t':=s1.toks) (fun b u e=>zD _ e) (zE _) ?_,rfl,q _ hf⟩;exact⟨z,us,r,TupN.new _ _⟩
theorem b18 (h:PA X es t):PE X (.List es pos) (tLst t):=by
 intro pins s σ H Q I hq;refine wpAny_List_spliced (thn (h pos pins s σ H _ I hq) fun us s1 ⟨xs,H1,I1,r,z,q⟩=>⟨by rw[<-r.length];exact z,?_⟩)
 have hf:H1 s1.heap.objs.size=none:=I1.hok.fresh (zE _);refine⟨.ref s1.heap.objs.size,upd H1 s1.heap.objs.size (.lst xs),I1.laid (t':=s1.toks) (fun b u e=>zD _ e) (zE _) ?_,rfl,q _ hf⟩;exact⟨z,us,0,r,zK _ rfl⟩
end
abbrev Sp:=List V->Hp->VK->XK->Prop
abbrev CXT:=List Env->Hp->Shared->XK->Value->Shared->Prop
structure Env0 (P:Program) (w:World) (K:PySem.W.Frag) (mg:Str->Option Value) (base:Heap) (A:Around) (outer:List Env) (s:Shared) (H:Hp):Prop where
 frames:A.frames=some outer
 mod:Mod K mg base
 bs:∀b o,base.get? b=some o->s.heap.get? b=some o/\H b=none
 bsz:base.objs.size<=s.heap.objs.size
 funs:s.heap.FunFrames base outer
 frf:∀b∈frs outer,H b=none
 hok:HOk K P w H s.heap
 bare:AllBare s.gens
def CE (outer:List Env) (K:PySem.W.Frag) (P:Program) (w:World) (H:Hp) (s:Shared) (Q:VK) (u:Value) (s':Shared):Prop:=
 ∃v H',s'.os=s.os/\AllBare s'.gens/\Un (frs outer) [] H H' s.heap s'.heap/\HOk K P w H' s'.heap/\RelV v u/\Q v H'
def CR (CX:CXT) (outer:List Env) (K:PySem.W.Frag) (P:Program) (w:World) (H:Hp) (s:Shared) (Q:VK) (E:XK) (r:Result) (s':Shared):Prop:=
 match r with
 | .ok (.ret u)=>CE outer K P w H s Q u s'
 | .ok _=>False
 | .error e=>CX outer H s E e s'
structure FnOk (P:Program) (w:World) (K:PySem.W.Frag) (mg:Str->Option Value) (base:Heap) (CX:CXT) (k:Nat) (f:Addr) (fd:FuncData) (ps:List Str) (sp:Sp):Prop where
 len:∀vs H Q E,sp vs H Q E->vs.length=ps.length
 run:∀(A:Around) (outer:List Env) (s:Shared) (H:Hp) (args:Args) (us:List Value) (vs:List V) (Q:VK) (E:XK),Room k A->Env0 P w K mg base A outer s H->BindsTo s fd args (ps.zip us)->Vals vs us->sp vs H Q E->
  codeAny (model P w) A (.call (.ref f) args) (CR CX outer K P w H s Q E) s
theorem FnOk.mono {P:Program}{w:World}{K:PySem.W.Frag}{mg:Str->Option Value}{base:Heap}{CX:CXT}{j k:Nat}{f:Addr}{fd:FuncData}{ps:List Str}{sp:Sp}(F:FnOk P w K mg base CX j f fd ps sp)(h:j<=k):
  FnOk P w K mg base CX k f fd ps sp:=⟨F.len,fun A outer s H args us vs Q E hr=>F.run A outer s H args us vs Q E (hr.mono h)⟩
section
variable {X:Cx}{pins:List (Addr×Obj)}{σ:St}{H:Hp}{s s':Shared}
theorem Inv.env0 (I:Inv X pins σ H s):Env0 X.prog X.w X.K X.mg X.base X.A X.stack s H:=
 ⟨I.ok.frames,I.ok.mod,I.bs,zX I.ok.bsz I.sz,I.stack,I.stkFree,I.hok,I.bare⟩
theorem Inv.after {Q:VK}{u:Value}(I:Inv X pins σ H s)(h:CE X.stack X.K X.prog X.w H s Q u s'):EP X pins σ Q u s':=by
 obtain⟨v,H',os,bare,un,hok,r,q⟩:=h;obtain⟨hh,g,d,t,os'⟩:=s';obtain rfl:os'=s.os:=os;exact⟨v,H',I.call (h':=hh) (g':=g) (d':=d) (t':=t) (ch:=[]) un hok bare (fun b z=>absurd z (by simp)),r,q⟩
end
def tCall (sp:Sp) (dvs:List V) (E:XK) (t:TA):TE:=fun σ H Q=>t σ H fun vs H1=>sp (vs++dvs) H1 Q E
def Binds (K:PySem.W.Frag) (fd:FuncData) (ps:List Str) (ds:List Value):Prop:=
 ∀(s:Shared) (us:List Value),K.In s.heap->(us++ds).length=ps.length->BindsTo s fd ⟨us,[]⟩ (ps.zip (us++ds))
theorem Binds.all {K:PySem.W.Frag}{fd:FuncData}{ps:List Str}(h:∀us:List Value,us.length=ps.length->bindArgs fd ⟨us,[]⟩=pure (ps.zip us)):Binds K fd ps []:=fun s us _ hl=>by
 rw[yT] at hl ⊢;exact .of_eq (h us hl)
def Passes (CX:CXT) (X:Cx) (E:XK):Prop:=∀(pins:List (Addr×Obj)) (σ:St) (H:Hp) (s:Shared) (e:Value) (s':Shared),Inv X pins σ H s->CX X.stack H s E e s'->X.xe e s'
section
variable {X:Cx}{CX:CXT}{k:Nat}{f C:Addr}{fd:FuncData}{ps:List Str}{sp:Sp}{dvs:List V}{ds:List Value}{E:XK}{x:Str}{p pos:Pos}{e:Expr}{es:List Expr}{t:TA}
theorem b1f {pins:List (Addr×Obj)}{σ:St}{H:Hp}{s:Shared}{Q:VK}{us:List Value}{vs:List V}(F:FnOk X.prog X.w X.K X.mg X.base CX k f fd ps sp)(hr:Room k X.A)(hb:Binds X.K fd ps ds)(hd:Vals dvs ds)(hx:Passes CX X E)
  (I:Inv X pins σ H s) (r:Vals vs us) (h:sp (vs++dvs) H Q E):wpAny (model X.prog X.w) X.A (call (.ref f) us) (EP X pins σ Q) X.xe s:=by
 have r2:Vals (vs++dvs) (us++ds):=r.append hd;have hl:(us++ds).length=ps.length:=by rw[<-r2.length];exact F.len _ _ _ _ h
 refine wpAny_call (yK (F.run X.A X.stack s H ⟨us,[]⟩ (us++ds) (vs++dvs) Q E hr I.env0 (hb s us I.kIn hl) r2 h) fun r s' hq=>?_);cases r with
 | error e=>exact hx pins σ H s e s' I hq
 | ok fl=>
  cases fl with
  | ret u=>exact I.after hq
  | next=>exact False.elim hq
  | brk=>exact False.elim hq
  | cont=>exact False.elim hq
theorem a9M (F:FnOk X.prog X.w X.K X.mg X.base CX k f fd ps sp)(hr:Room k X.A)(hg:Gl X x)(hm:X.mg x=some (.ref f))(hk:PySem.W.keepIn X.K (.ref f)=true)(hb:Binds X.K fd ps ds)(hd:Vals dvs ds)(hx:Passes CX X E)
  (ha:PA X (e::es) t) (hdb:(x==("__debug__":Str))=false:=by decide) (he:starEach (e::es) X.env=(false,eval e X.env)::starEach es X.env:=by rfl) (hpl:(backTo pos (starEach es X.env)).any (·.1)=false:=by rfl):
  PE X (.Call (.Name x p) (e::es) [] pos) (tCall sp dvs E t):=by
 intro pins s σ H Q I h;refine xV (U6 I hg hm ?_ hdb);refine PySem.W.callWith_K (h₀:=X.base) I.ok.mod.kin hk (thn (ha pos pins s σ H _ I h) fun us s1 h0=>ex5 h0 fun vs H1 I1 r q=>⟨I1.kIn,?_⟩) he hpl;exact b1f F hr hb hd hx I1 r q
structure Mk (K:PySem.W.Frag) (C f:Addr):Prop where
 makes:PySem.W.makesIn K C=true
 init:PySem.W.findIn K (.ref C) "__init__"=some (some (.ref f))
 fn:PySem.W.isFn K (.ref f)=true
 kp:PySem.W.keepIn K (.ref C)=true
end
structure FnScope (N P:List Str) (sc:Scope):Prop where
 kind:sc.kind= .function
 co:sc.isCoroutine=false
 gen:sc.isGenerator=false
 nd:N.Nodup
 pre:N.take P.length=P
 par:∀x∈P,sc.names.lookup x=some .local\/sc.names.lookup x=some .cell
 nofree:∀y∈sc.names,y.2≠.free
theorem a1P {kindOf:Str->Option NameKind}{x:Str}:∀{binds:List (Str×Value)} {m:Str->Option Value},(∀v,(x,v)∉binds)->bindL kindOf binds m x=m x
 | [],_,_=>rfl
 | (n,v)::r,m,h=>by
  unfold bindL;rw[a1P fun w hw=>h w (zL _ hw)]
  split
  ·have:x≠n:=by rintro rfl;exact h v zJ
   simp[this]
  ·rfl
theorem a1q {kindOf:Str->Option NameKind}{x:Str}:∀{binds:List (Str×Value)} {m:Str->Option Value},(∀v,(x,v)∉binds)->bindC kindOf binds m x=m x
 | [],_,_=>rfl
 | (n,v)::r,m,h=>by
  unfold bindC;rw[a1q fun w hw=>h w (zL _ hw)]
  split
  ·rfl
  ·have:x≠n:=by rintro rfl;exact h v zJ
   simp[this]
theorem a1V {kindOf:Str->Option NameKind}{x:Str}{v:Value}:∀{P:List Str} {vs:List Value} {i:Nat} {m:Str->Option Value},P.Nodup->P[i]? =some x->vs[i]? =some v->kindOf x=some .local->
  bindL kindOf (P.zip vs) m x=some v
 | [],_,_,_,_,h,_,_=>by simp at h
 | _::_,[],_,_,_,_,h,_=>by simp at h
 | p::P,w::vs,0,m,nd,h1,h2,hk=>by
  simp at h1 h2;subst h1;subst h2;show bindL kindOf ((p,w)::P.zip vs) m p=_;unfold bindL;rw[a1P fun v hv=>(nodup_cons.mp nd).1 (of_mem_zip hv).1,if_pos hk];simp
 | p::P,w::vs,i+1,m,nd,h1,h2,hk=>by
  show bindL kindOf ((p,w)::P.zip vs) m x=_;unfold bindL;exact a1V (i:=i) (nodup_cons.mp nd).2 (by simpa using h1) (by simpa using h2) hk
theorem a1Q {kindOf:Str->Option NameKind}{x:Str}{v:Value}:∀{P:List Str} {vs:List Value} {i:Nat} {m:Str->Option Value},P.Nodup->P[i]? =some x->vs[i]? =some v->kindOf x≠some .local->
  bindC kindOf (P.zip vs) m x=some v
 | [],_,_,_,_,h,_,_=>by simp at h
 | _::_,[],_,_,_,_,h,_=>by simp at h
 | p::P,w::vs,0,m,nd,h1,h2,hk=>by
  simp at h1 h2;subst h1;subst h2;show bindC kindOf ((p,w)::P.zip vs) m p=_;unfold bindC;rw[a1q fun v hv=>(nodup_cons.mp nd).1 (of_mem_zip hv).1,if_neg hk];simp
 | p::P,w::vs,i+1,m,nd,h1,h2,hk=>by
  show bindC kindOf ((p,w)::P.zip vs) m x=_;unfold bindC;exact a1Q (i:=i) (nodup_cons.mp nd).2 (by simpa using h1) (by simpa using h2) hk
def start (N:List Str) (vs:List V):St:=vs.map some++List.replicate (N.length-vs.length) none
def cxOf (CX:CXT) (P:Program) (w:World) (K:PySem.W.Frag) (mg:Str->Option Value) (base:Heap) (N:List Str) (qual:Str) (scope:Scope) (f:Addr) (cd:Value) (A:Around) (outer:List Env) (s:Shared) (H:Hp) (E:XK):Cx where
 prog:=P
 w:=w
 K:=K
 mg:=mg
 base:=base
 A:=A.deeper (envOfC qual scope s.heap.objs.size f cd)
 N:=N
 s₀:=s
 H₀:=H
 env:=envOfC qual scope s.heap.objs.size f cd
 outer:=outer
 stack:=envOfC qual scope s.heap.objs.size f cd::outer
 ex:=[]
 calm:=true
 fn:=fun _=>true
 pn:=[]
 xe:=fun e s'=>wpAny (model P w) (A.deeper (envOfC qual scope s.heap.objs.size f cd)) (leaving (envOfC qual scope s.heap.objs.size f cd) e) (fun _ s''=>CX outer H s E e s'') (fun e' s''=>CX outer H s E e' s'') s'
theorem a3B {sc:Scope}{n:Nat}{x:Str}(h:sc.names.lookup x=some .cell):∃c,(cellsFrom n sc.names []).lookup x=some c:=by
 have q:=PySem.W.cellsFrom_some sc.names n [] (.inl h);exact isSome_iff_exists.mp q
theorem a59 {CX:CXT}{P:Program}{w:World}{K:PySem.W.Frag}{mg:Str->Option Value}{base:Heap}{N ps:List Str}{qual:Str}{scope:Scope}{f:Addr}{cd:Value}{A:Around}{outer:List Env}{s s1:Shared}{H:Hp}{E:XK}{us:List Value}{vs:List V}
  (S:FnScope N ps scope) (hd:A.handled=none) (e0:Env0 P w K mg base A outer s H) (hl:vs.length=ps.length) (r:Vals vs us)
  (x:InCallC s s.heap.objs.size (bindL (envOfC qual scope s.heap.objs.size f cd).kindOf (ps.zip us) fun _=>none) (cellsFrom (s.heap.objs.size+1) scope.names []) (bindC (envOfC qual scope s.heap.objs.size f cd).kindOf (ps.zip us) fun _=>none) s1):
  Inv (cxOf CX P w K mg base N qual scope f cd A outer s H E) [] (start N vs) H s1:=by
 have hpl:ps.length<=N.length:=by have:=congrArg List.length S.pre;rw[length_take] at this;walk_at "o"
 obtain⟨h1,tk,rfl,hk⟩:=x.done;have noA:∀b:Addr,b∉(cxOf CX P w K mg base N qual scope f cd A outer s H E).ex:=fun b z=>absurd (show b∈([]:List Addr) from z) (by simp)
 refine⟨⟨e0.mod,S.kind,rfl,rfl,zE _,fun y z c h1 h2=>?_,fun y hy=>?_,fun y c _ h=>?_,fun _=>hd,Around.frames_deeper e0.frames,.inr ⟨rfl,rfl⟩,fun b z=>absurd z (noA b),e0.bs,e0.bsz,fun b _ _=>noA b,fun b z=>absurd z (noA b),e0.funs,e0.frf⟩,
  rfl,e0.bare,Un.kept hk,⟨_,x.toInCall.ns,fun i y v h1 h2 h3=>?_⟩,fun y c h=>⟨_,x.cell y c h⟩,e0.hok.fresh (zE _),fun y c h=>?_,fun p hp=>absurd (show p∈([]:List (Addr×Obj)) from hp) (by simp),e0.hok.kept hk,?_⟩
 ·exact name_of_addr x.apart (yM h1) (yM h2)
 ·have hy:scope.names.lookup y=some .cell\/scope.names.lookup y=some .free:=hy;rcases hy with hy|hy
  ·exact a3B hy
  ·exact absurd rfl (S.nofree _ (yM hy))
 ·exact Nat.le_of_lt (x.above y c (yM h))
 ·have hi:i<vs.length:=by
   unfold start at h2
   by_cases hi:i<vs.length
   ·exact hi
   ·rw[qP (by simpa using hi)] at h2
    rw[List.getElem?_replicate] at h2;split at h2<;>cases h2
  have ha:vs[i]? =some v:=by
   unfold start at h2;rw[qB (by simpa using hi),qH] at h2
   cases e:vs[i]? with
   | none=>rw[e] at h2;cases h2
   | some a=>rw[e] at h2;cases h2;rfl
  obtain⟨u,hu,rv⟩:=r.get ha;have hp:ps[i]? =some y:=by
   rw[<-S.pre,List.getElem?_take_of_lt (by walk_at "o")];exact h1
  have ndP:ps.Nodup:=by rw[<-S.pre];exact S.nd.sublist (List.take_sublist _ _)
  refine⟨u,rv,?_⟩;rcases S.par y (qQ hp) with k|k
  ·exact .inl ⟨k,a1V ndP hp hu k⟩
  ·obtain⟨c,e⟩:=a3B (n:=s.heap.objs.size+1) k;refine .inr ⟨.inl k,c,e,?_⟩;have q:=x.cell y c e;rw[a1Q ndP hp hu (by show scope.names.lookup y≠_;rw[k];decide)] at q
   exact q
 ·exact e0.hok.fresh (Nat.le_of_lt (x.above y c (yM h)))
 ·unfold start;show _=N.length;rw[qK,zH,List.length_replicate];walk_at "o"
theorem b0k {CX:CXT}{P:Program}{w:World}{K:PySem.W.Frag}{mg:Str->Option Value}{base:Heap}{k:Nat}{f:Addr}{name qual:Str}{params:Arguments}{body:List Stmt}{scope:Scope}{dV kV doc pm cdv ct oc:Value}{an od:Option Addr}
  {osl:Array (Option Value)} {N ps:List Str} {sp:Sp} (lk:K.lookup f=some ⟨oc,od,.func (PySem.W.fnOf name qual params body scope dV kV doc pm an cdv ct),osl⟩) (hcd:PySem.W.codeIn K cdv qual=true) (S:FnScope N ps scope)
  (len:∀vs H Q E,sp vs H Q E->vs.length=ps.length)
  (hbody:∀(A:Around) (outer:List Env) (s:Shared) (H:Hp) (vs:List V) (Q:VK) (E:XK),Room k (A.deeper (envOfC qual scope s.heap.objs.size f cdv))->sp vs H Q E->
   ∃t,PSs (cxOf CX P w K mg base N qual scope f cdv A outer s H E) body t/\t {nx:=fun _ H'=>Q .non H',rt:=Q} (start N vs) H):
  FnOk P w K mg base CX (k+1) f (PySem.W.fnOf name qual params body scope dV kV doc pm an cdv ct) ps sp:=by
 refine⟨len,fun A outer s H args us vs Q E hr e0 hb r hsp=>?_⟩;have hl:=len _ _ _ _ hsp;have KX:K.In s.heap:=e0.mod.kin.keeps fun b o e=>(e0.bs b o e).1;have lim:s.heap.NoLimit:=e0.mod.nolimit.keeps fun b o e=>(e0.bs b o e).1;have hkind:∀y∈ps.zip us,scope.names.lookup y.1=some .local\/(scope.names.lookup y.1=some .cell/\((cellsFrom (s.heap.objs.size+1) scope.names []).lookup y.1).isSome=true):=fun⟨n,v⟩ hy=>by
  rcases S.par n (of_mem_zip hy).1 with q|q
  ·exact .inl q
  ·exact .inr ⟨q,PySem.W.cellsFrom_some _ _ _ (.inl q)⟩
 refine codeAny_call_function hr.depth (KX _ _ lk) rfl S.co S.gen rfl (PySem.W.codeRec_of KX hcd) (hb _ _ _ _ ?_);refine wpAny_newFunctionEnv_cells S.kind hkind fun env he s1 x=>?_;subst he;refine⟨lim.keeps x.toInCall.keep,codeAny_func ?_⟩;obtain⟨t,ht,hq⟩:=hbody A outer s H vs Q E (hr.deeper _) hsp;have I:Inv (cxOf CX P w K mg base N qual scope f cdv A outer s H E) [] (start N vs) H s1:=a59 S hr.hd e0 hl r x;refine zR (ht [] s1 (start N vs) H _ I hq) (fun fl s' hs=>?_) fun e s' hs=>hs;have fin:∀{σ':St} {H':Hp} {v:V} {u:Value},Inv (cxOf CX P w K mg base N qual scope f cdv A outer s H E) [] σ' H' s'->RelV v u->Q v H'->CE outer K P w H s Q u s':=
  fun{σ' H' v u} J rv q=>⟨v,H',J.os,J.bare,J.base,J.hok,rv,q⟩
 cases fl with
 | ret u=>
  obtain⟨v,σ',H',J,rv,q⟩:=hs;exact fin J rv q
 | next=>
  obtain⟨σ',H',J,q⟩:=hs;exact fin (v:=V.non) (u:=Value.none) J rfl q
 | brk=>
  obtain⟨_,_,_,q⟩:=hs;exact False.elim q
 | cont=>
  obtain⟨_,_,_,q⟩:=hs;exact False.elim q
section
variable {X:Cx}{x:Str}{p pos:Pos}{e:Expr}{es:List Expr}{t:TA}{id T:String}{r:List V->Hp->VK->Prop}
def tCB (r:List V->Hp->VK->Prop) (t:TA):TE:=fun σ H Q=>t σ H fun vs H1=>r vs H1 Q
theorem C8 (hc:CallR X (.builtin id) r)(hg:Gl X x)(hm:X.mg x=none)(hv:bootBuiltins x=some (.builtin id))(ha:PA X (e::es) t)(hn:x≠"__name__":=by decide)(hdb:(x==("__debug__":Str))=false:=by decide)
  (he:starEach (e::es) X.env=(false,eval e X.env)::starEach es X.env:=by rfl) (hpl:(backTo pos (starEach es X.env)).any (·.1)=false:=by rfl):PE X (.Call (.Name x p) (e::es) [] pos) (tCB r t):=by
 intro pins s σ H Q I h;refine xV (R3 I hg hm hv ?_ hn hdb);exact PyProof.Rows.callWith_builtin1 (thn (ha pos pins s σ H _ I h) fun us s1 h0=>ex5 h0 fun vs H1 I1 r1 q1=>hc pins s1 σ H1 vs us Q I1 r1 q1) he hpl
theorem Z0 (hc:CallR X (.type T) r)(hg:Gl X x)(hm:X.mg x=none)(hv:bootBuiltins x=some (.type T))(ha:PA X (e::es) t)(hn:x≠"__name__":=by decide)(hdb:(x==("__debug__":Str))=false:=by decide)
  (he:starEach (e::es) X.env=(false,eval e X.env)::starEach es X.env:=by rfl) (hpl:(backTo pos (starEach es X.env)).any (·.1)=false:=by rfl):PE X (.Call (.Name x p) (e::es) [] pos) (tCB r t):=by
 intro pins s σ H Q I h;refine xV (R3 I hg hm hv ?_ hn hdb);exact jV (thn (ha pos pins s σ H _ I h) fun us s1 h0=>ex5 h0 fun vs H1 I1 r1 q1=>hc pins s1 σ H1 vs us Q I1 r1 q1) he hpl
end
end L2
namespace HT
open PySem PyProof.Rows
def lexLt:List Int->List Int->Bool
 | [],[]=>false
 | [],_::_=>true
 | _::_,[]=>false
 | x::xs,y::ys=>if x=y then lexLt xs ys else decide (x<y)
theorem lexLt_cons (x y:Int)(xs ys:List Int):lexLt (x::xs) (y::ys)=if x=y then lexLt xs ys else decide (x<y):=rfl
theorem a1h:lexLt [] []=false:=rfl
theorem a04 (y:Int)(ys:List Int):lexLt [] (y::ys)=true:=rfl
theorem a0Y (x:Int)(xs:List Int):lexLt (x::xs) []=false:=rfl
theorem a6R (A:Around)(s:Shared)(a:Int)(t:Tok)(c:Int)(u:Tok):∃e,SeqAt.EqAt A s (.int a t) (.int c u) e/\(e=true↔a=c):=
 ⟨(a==c),SeqAt.EqAt.int_int a t c u,by simp⟩
theorem a8t (A:Around)(s:Shared)(a:Int)(t:Tok)(c:Int)(u:Tok)(prog:Program)(w:World)(E:Value->Shared->Prop)(Q:Value->Shared->Prop)(h:Q (.bool (decide (a<c))) s):
  wpAny (model prog w) A (richCompare .Lt (.int a t) (.int c u)) Q E s:=
 (PyProof.Rows.lt_int h:wpAny (model prog w) A (compareOp .Lt (.int a t) (.int c u)) Q E s)
section
open PySem.SeqAt
open PySem.AutoSeq1 (wpAny_loadPart')
open PySem.MeetsSeq PySem.MeetsSeq2 PySem.MeetsSeq3
theorem a1m (l b:Addr)(items items2:Array Value)(n n2:Nat)(dd dd2:Option Addr)(sl sl2:Array (Option Value))(ns ms:List Int)(hi:IntsAre items.toList ns)(hj:IntsAre items2.toList ms):
  Meets (Builtin.«tuple.__lt__» ⟨[.ref l,.ref b],[]⟩)
   (fun _ R s=>s.heap.get? l=some {cls:=.type "tuple",dict:=dd,data:=.seq items n,slots:=sl}/\s.heap.get? b=some {cls:=.type "tuple",dict:=dd2,data:=.seq items2 n2,slots:=sl2}/\
    R (.ok (.ret (.bool (lexLt ns ms)))) s):=
 .of_wp fun prog w A R s h=>by
  obtain⟨hp,g,d,tk,os⟩:=s;obtain⟨hl,hb,h⟩:=h;have f2:=AutoSeq1.sub_tuple_tuple;have z1:items.size=ns.length:=by rw[<-hi.length];simp
  have z2:items2.size=ms.length:=by rw[<-hj.length];simp
  wp_walk using wpAny_loadPart' hl,wpAny_loadPart' hb,wpAny_forIn_list _ (fun rest b s'=>b.1=none/\s'=⟨hp,g,d,tk,os⟩/\∃(vs ws:List Value) (ns' ms':List Int),rest=vs.zip ws/\
   IntsAre vs ns'/\IntsAre ws ms'/\ns'.length+items2.size=ms'.length+items.size/\R (.ok (.ret (.bool (lexLt ns' ms')))) ⟨hp,g,d,tk,os⟩) _
  case turn=>
   rintro⟨y,x⟩ rest b s' ⟨hb',rfl,vs,ws,ns',ms',hz,hvi,hwi,hlen,hR⟩;cases hvi with
   | nil=>rw[zip_nil_left] at hz;cases hz
   | cons a t hvi'=>
    cases hwi with
    | nil=>rw[List.zip_nil_right] at hz;cases hz
    | cons c u hwi'=>
     rw[jS] at hz;injection hz with hyx hrest
     injection hyx with hy hx
     subst hy hx;rw[lexLt_cons] at hR;simp only[zV] at hlen;obtain⟨e,he,hiff⟩:=a6R A.in1 ⟨hp,g,d,tk,os⟩ a t c u;refine zA (he prog w _ _ ?_);cases e with
     | true=>
      rw[if_pos (hiff.mp rfl)] at hR
      wp_walk
      exact⟨rfl,rfl,_,_,_,_,hrest,hvi',hwi',by walk_at "o",hR⟩
     | false=>
      rw[if_neg (fun q=>absurd (hiff.mpr q) zT)] at hR;have hri:=a8t A.in1 ⟨hp,g,d,tk,os⟩ a t c u prog w
      wp_walk using hri
      exact⟨_,rfl,by simpa using hR⟩
  case fin=>
   rintro⟨b1,b2⟩ s' ⟨hb',rfl,vs,ws,ns',ms',hz,hvi,hwi,hlen,hR⟩;simp only at hb';subst hb';have hv:lexLt ns' ms'=decide (items.size<items2.size):=by
    cases hvi with
    | nil=>
     cases hwi with
     | nil=>
      simp only[length_nil] at hlen;rw[a1h];exact(zU (by walk_at "o")).symm
     | cons c u hw=>
      simp only[length_nil,zV] at hlen;rw[a04];exact(zP (by walk_at "o")).symm
    | cons a t hv=>
     cases hwi with
     | nil=>
      simp only[length_nil,zV] at hlen;rw[a0Y];exact(zU (by walk_at "o")).symm
     | cons c u hw=>
      rw[jS] at hz;cases hz
   rw[hv] at hR
   wp_walk
   exact⟨_,rfl,by simpa [Builtin.Tuple.tupleCompareSizes] using hR⟩
  case h=>
   exact⟨rfl,rfl,items.toList,items2.toList,ns,ms,rfl,hi,hj,by walk_at "o",h⟩
end
section
variable {prog:Program}{w:World}{A:Around}{E:Value->Shared->Prop}{s:Shared}
theorem lt_tupInts {l b:Addr}{items items2:Array Value}{ns ms:List Int}{Q:Value->Shared->Prop}(hl:IsTup s.heap l items)(hb:IsTup s.heap b items2)(hi:IntsAre items.toList ns)(hj:IntsAre items2.toList ms)
  (hu:A.units<cLine) (h:Q (.bool (lexLt ns ms)) s):wpAny (model prog w) A (compareOp .Lt (.ref l) (.ref b)) Q E s:=by
 obtain⟨⟨cls,dd,data,sl⟩,ho,hc,n,hd⟩:=id hl;obtain⟨⟨cls2,dd2,data2,sl2⟩,ho2,hc2,n2,hd2⟩:=id hb;simp only at hc hd hc2 hd2;subst hc hd hc2 hd2;exact richCompare_meets_room (op:=.Lt) ⟨_,ho,rfl⟩ ⟨_,ho2,rfl⟩ PySem.F.slot_tuple_lt PySem.F.entry_tuple_lt (PySem.F.args_tuple_lt_2 _ _) (a1m l b items items2 n n2 dd dd2 sl sl2 ns ms hi hj)
  ⟨ho,ho2,show Value.bool (lexLt ns ms)≠Value.notImplemented/\Q (.bool (lexLt ns ms)) s from⟨(fun x=>nomatch x),h⟩⟩ hu
theorem cat_tup {t b:Addr}{vs ws:List Value}{Q:Value->Shared->Prop}(ht:IsTup s.heap t vs.toArray)(hb:IsTup s.heap b ws.toArray)(hv:vs≠[])
  (h1:ws=[]->Q (.ref t) s) (h2:ws≠[]->Q (.ref s.heap.objs.size) {s with heap:=s.heap.push {cls:=.type "tuple",data:=.seq (vs++ws).toArray}})
  (hsz:vs.length+ws.length<=sizeLine):wpAny (model prog w) A (binaryOp .Add (.ref t) (.ref b)) Q E s:=by
 obtain⟨⟨cls,dd,data,sl⟩,ho,hc,n,hd⟩:=id ht;obtain⟨⟨cls2,dd2,data2,sl2⟩,ho2,hc2,n2,hd2⟩:=id hb;simp only at hc hd hc2 hd2;subst hc hd hc2 hd2;have e:vs.toArray++ws.toArray=(vs++ws).toArray:=by simp
 by_cases hw:ws=[]
 ·exact concat_meets ⟨_,ho,rfl⟩ ⟨_,ho2,rfl⟩ noFill_tuple_add seq_tuple_add PySem.F.slot_tuple_add PySem.F.entry_tuple_add (PySem.F.args_tuple_add_2 _ _)
   (tuple_addW1 t b vs.toArray ws.toArray n n2 dd dd2 sl sl2 (by simpa using hv) (by simp[hw])) ⟨ho,ho2,h1 hw⟩
 ·refine concat_meets ⟨_,ho,rfl⟩ ⟨_,ho2,rfl⟩ noFill_tuple_add seq_tuple_add PySem.F.slot_tuple_add PySem.F.entry_tuple_add (PySem.F.args_tuple_add_2 _ _)
   (tuple_addW2 t b vs.toArray ws.toArray n n2 dd dd2 sl sl2 (by simpa using hv) (by simpa using hw) (by rw[qI,qI];exact hsz)) ⟨ho,ho2,?_⟩
  rw[e];exact h2 hw
def sIx (n d:Nat):Option Int->Nat
 | none=>d
 | some v=>if v<0 then(v+(n:Int)).toNat else min v.toNat n
theorem sIx_none (n d:Nat):sIx n d none=d:=rfl
theorem sIx_nat (n d k:Nat):sIx n d (some (k:Int))=min k n:=by
 show(if(k:Int)<0 then((k:Int)+(n:Int)).toNat else min (k:Int).toNat n)=min k n;rw[if_neg (by walk_at "o"),xM]
theorem b12 (n d:Nat)(hd:d<=n)(o:Option Int):sIx n d o<=n:=by
 cases o with
 | none=>exact hd
 | some v=>
  show(if v<0 then(v+(n:Int)).toNat else min v.toNat n)<=n
  by_cases hv:v<0
  ·rw[if_pos hv];walk_at "o"
  ·rw[if_neg hv];exact Nat.min_le_right _ _
theorem a46 (v:Int)(n d:Nat):(if v<0 then max (v+(n:Int)) 0 else min v (n:Int))=((sIx n d (some v):Nat):Int):=by
 show(if v<0 then max (v+(n:Int)) 0 else min v (n:Int))=(((if v<0 then(v+(n:Int)).toNat else min v.toNat n):Nat):Int)
 by_cases hv:v<0
 ·simp only[if_pos hv];walk_at "o"
 ·simp only[if_neg hv];walk_at "o"
theorem a4i (lo hi:Option Int)(n:Nat):Builtin.Slice.sliceAdjust lo hi 1 (n:Int)=(((sIx n 0 lo:Nat):Int),((sIx n n hi:Nat):Int)):=by
 have h1:¬((1:Int)<0):=by walk_at "o"
 unfold Builtin.Slice.sliceAdjust;simp only[h1,qY];refine Prod.ext ?_ ?_
 ·cases lo with
  | none=>rfl
  | some v=>exact a46 v n 0
 ·cases hi with
  | none=>rfl
  | some v=>exact a46 v n n
theorem a3Y (i j:Nat):Builtin.Slice.slicePlaces (i:Int) (j:Int) 1=j-i:=by
 unfold Builtin.Slice.slicePlaces;have h1:(1:Int)>0:=by walk_at "o"
 simp only[h1,qW,Int.ediv_one]
 split<;>walk_at "o"
theorem a03 {v:Value}{o:Option Int}{Q:Option Int->Shared->Prop}(p:IsPart v o)(h:Q o s):wpAny (model prog w) A (Builtin.Slice.slicePartIndex v) Q E s:=by
 cases p with
 | none=>exact slicePart_none h
 | int i t=>exact slicePart_int h
theorem sliceApplied_gen {sl:Addr}{vl vu:Value}{lo hi:Option Int}{n:Nat}{Q:Int×Int×Nat->Shared->Prop}(hs:s.heap.IsSliceOf sl vl vu .none)(pl:IsPart vl lo)(pu:IsPart vu hi)
  (h:Q (((sIx n 0 lo:Nat):Int),1,sIx n n hi-sIx n 0 lo) s):wpAny (model prog w) A (Builtin.Slice.sliceApplied (.ref sl) (pure (n:Int))) Q E s:=by
 obtain⟨os,hos,hcs,hds⟩:=id hs;unfold Builtin.Slice.sliceApplied Builtin.Slice.sliceFields;refine zA (zA (jH hos hds (x:=vl) rfl (zA (jH hos hds (x:=vu) rfl (zA (jH hos hds (x:=.none) rfl (zC ?_)))))));refine zA (slicePart_none ?_);show wpAny _ _ (if((1:Int)==0)=true then _ else _) _ _ s;rw[if_neg (by decide)]
 refine zA (a03 pl (zA (a03 pu (zA (zC ?_)))));show wpAny _ _ (match Builtin.Slice.sliceAdjust lo hi 1 (n:Int) with|(lo,hi)=>pure (lo,(1:Int),Builtin.Slice.slicePlaces lo hi 1)) _ _ s
 rw[a4i lo hi n];show wpAny _ _ (pure (((sIx n 0 lo:Nat):Int),(1:Int),Builtin.Slice.slicePlaces ((sIx n 0 lo:Nat):Int) ((sIx n n hi:Nat):Int) 1)) _ _ s;rw[a3Y];exact zC h
theorem a8R (xs:Array Value)(i k:Nat):((List.range k).filterMap fun(m:Nat)=>xs[((i:Int)+(m:Int)*1).toNat]?).toArray=((xs.toList.drop i).take k).toArray:=by
 have e:(fun(m:Nat)=>xs[((i:Int)+(m:Int)*1).toNat]?)=fun m=>xs[i+m]?:=by
  funext m
  have:((i:Int)+(m:Int)*1).toNat=i+m:=by walk_at "o"
  rw[this]
 rw[e]
 have:=pick_run xs i k
 rw[List.filterMap_map] at this;have e2:((fun x=>xs[x]?)∘fun x=>i+x)=fun m=>xs[i+m]?:=rfl;rw[e2] at this;rw[this]
theorem getItem_tuple_cut {t sl:Addr}{items:Array Value}{vl vu:Value}{lo hi:Option Int}{Q:Value->Shared->Prop}(ht:IsTup s.heap t items)(hs:s.heap.IsSliceOf sl vl vu .none)(pl:IsPart vl lo)(pu:IsPart vu hi)
  (hw:¬(sIx items.size 0 lo=0/\sIx items.size items.size hi=items.size))
  (h:Q (.ref s.heap.objs.size) {s with heap:=s.heap.push {cls:=.type "tuple",data:=.seq ((items.toList.drop (sIx items.size 0 lo)).take (sIx items.size items.size hi-sIx items.size 0 lo)).toArray}})
  (hsz:items.size<=sizeLine):wpAny (model prog w) A (getItem (.ref t) (.ref sl)) Q E s:=by
 have htake:sizeOk (.seq ((items.toList.drop (sIx items.size 0 lo)).take (sIx items.size items.size hi-sIx items.size 0 lo)).toArray):=by
  show((items.toList.drop (sIx items.size 0 lo)).take (sIx items.size items.size hi-sIx items.size 0 lo)).toArray.size<=sizeLine;rw[qI,length_take,length_drop,zW];omega
 have hj:sIx items.size items.size hi<=items.size:=b12 _ _ (zE _) hi;obtain⟨os,hos,hcs,hds⟩:=id hs;have hTs:s.TypeIs (.ref sl) "slice":=⟨os,hos,hcs⟩;unfold getItem
 try with_reducible refine qE ?_
 first|refine zA (zC ?_)|skip
 refine zA (wpAny_sequenceKey ht.typeIs (by decide) ?_)
 refine zA (qJ (name:=Str.ofString "__getitem__") ht.typeIs qX
  (qA qX ht.typeIs entry_tuple_getitem ?_ (args_tuple_getitem _ _)))
 show wpAny _ _ (Builtin.Tuple.tupleItemsOf (.ref t) >>=_) _ _ s;refine zA (tupleItemsOf_ ht ?_);refine zA (wpAny_typeOf hTs ?_);rw[if_pos (by decide)]
 refine zA (sliceApplied_gen hs pl pu ?_);have hno:¬((((sIx items.size 0 lo:Nat):Int)==0&&(1:Int)==1&&(sIx items.size items.size hi-sIx items.size 0 lo)==items.size)=true):=by
  intro q;rw[jQ,jQ] at q;have q1:((sIx items.size 0 lo:Nat):Int)=0:=eq_of_beq q.1.1;have q2:sIx items.size items.size hi-sIx items.size 0 lo=items.size:=eq_of_beq q.2;exact hw ⟨by omega,by omega⟩
 show wpAny _ _ (if(((sIx items.size 0 lo:Nat):Int)==0&&(1:Int)==1&&(sIx items.size items.size hi-sIx items.size 0 lo)==items.size)=true then _ else _) _ _ s;rw[if_neg hno,a8R]
 first
  | exact zA (m:=Builtin.Tuple.tupleExact _) (qD (zC ⟨_,rfl,zC h⟩) htake)
  | exact zA (m:=Builtin.Tuple.tupleExact _) (qD (zA (zC (zC ⟨_,rfl,zC h⟩))) htake)
  | exact zA (zA (m:=Builtin.Tuple.tupleExact _) (qD (zC (zC ⟨_,rfl,zC h⟩)) htake))
  | exact zA (zA (m:=Builtin.Tuple.tupleExact _) (qD (zC ⟨_,rfl,zC h⟩) htake))
end
end HT
namespace L2
open PySem PySem.Spec PyProof.Rows
abbrev TO:=St->Hp->(Option Int->Hp->Prop)->Prop
def PO (X:Cx) (e:Option Expr) (t:TO):Prop:=
 ∀(pins:List (Addr×Obj)) (s:Shared) (σ:St) (H:Hp) (Q:Option Int->Hp->Prop),Inv X pins σ H s->t σ H Q->
  wpAny (model X.prog X.w) X.A (evalPart e X.env) (fun u s'=>∃o H',Inv X pins σ H' s'/\IsPart u o/\Q o H') X.xe s
def tNoPart:TO:=fun _ H Q=>Q none H
def tPart (t:TE):TO:=fun σ H Q=>t σ H fun x H1=>∃i,x= .int i/\Q (some i) H1
theorem J3 {ns:List Int}:∀{us:List Value},Vals (ns.map V.int) us->IntsAre us ns:=by
 induction ns with
 | nil=>intro us r;rw[xN] at r;cases r;exact .nil
 | cons n ns ih=>
  intro us r;rw[zI] at r;cases r with
  | cons r1 r2=>
   obtain⟨t,e⟩:=r1;subst e;exact .cons n t (ih r2)
section
variable {X:Cx}{e:Expr}{te:TE}{lo hi:Option Expr}{tl th:TO}{pos p2:Pos}
theorem a83:PO X none tNoPart:=by
 intro pins s σ H Q I h;rw[evalPart_none];exact zC ⟨none,H,I,.none,h⟩
theorem a9R (h:PE X e te):PO X (some e) (tPart te):=by
 intro pins s σ H Q I hw;rw[evalPart_some];refine thn (h pins s σ H _ I hw) fun u s1 h0=>ex5 h0 fun x H1 I1 r1 q1=>?_;obtain⟨i,rfl,q⟩:=q1;obtain⟨t,rfl⟩:=r1;exact⟨some i,H1,I1,.int i t,q⟩
def SlR (X:Cx) (r:V->Option Int->Option Int->Hp->VK->Prop):Prop:=
 ∀(pins:List (Addr×Obj)) (s:Shared) (σ:St) (H:Hp) (x:V) (v vl vu:Value) (lo hi:Option Int) (sl:Addr) (Q:VK),Inv X pins σ H s->RelV x v->s.heap.IsSliceOf sl vl vu .none->IsPart vl lo->IsPart vu hi->r x lo hi H Q->
  ∃T id,typeLookup (.type T) "__getitem__"=pure (some (.builtin id))/\s.TypeIs v T/\wpAny (model X.prog X.w) X.A (getItem v (.ref sl)) (EP X pins σ Q) X.xe s
theorem SlR.or {r r':V->Option Int->Option Int->Hp->VK->Prop}(h:SlR X r)(h':SlR X r'):SlR X (fun x lo hi H Q=>r x lo hi H Q\/r' x lo hi H Q):=by
 intro pins s σ H x v vl vu lo hi sl Q I rx hs pl pu q;rcases q with q|q
 ·exact h pins s σ H x v vl vu lo hi sl Q I rx hs pl pu q
 ·exact h' pins s σ H x v vl vu lo hi sl Q I rx hs pl pu q
def tSl (r:V->Option Int->Option Int->Hp->VK->Prop) (te:TE) (tl th:TO):TE:=fun σ H Q=>te σ H fun x H1=>tl σ H1 fun l H2=>th σ H2 fun u H3=>r x l u H3 Q
theorem a71 {r:V->Option Int->Option Int->Hp->VK->Prop}(hr:SlR X r)(he:PE X e te)(hl:PO X lo tl)(hu:PO X hi th):PE X (.Subscript e (.Slice lo hi none p2) pos) (tSl r te tl th):=by
 intro pins s σ H Q I h;refine Subscript_ (thn (he pins s σ H _ I h) fun v s1 h0=>ex5 h0 fun x H1 I1 r1 q1=>?_);refine wpAny_Slice (thn (hl pins s1 σ H1 _ I1 q1) fun vl s2 ⟨l,H2,I2,pl,q2⟩=>thn (hu pins s2 σ H2 _ I2 q2) fun vu s3 ⟨u,H3,I3,pu,q3⟩=>?_);rw[evalPart_none];refine zC ?_;have I4:Inv X pins σ H3 {s3 with heap:=s3.heap.push {cls:=.type "slice",data:=.fields #[vl,vu,.none]}}:=I3.kept (t':=s3.toks) fun b ob q=>zD _ q
 obtain⟨T,id,hT,ht,hg⟩:=hr pins {s3 with heap:=s3.heap.push {cls:=.type "slice",data:=.fields #[vl,vu,.none]}} σ H3 x v vl vu l u s3.heap.objs.size Q I4 r1 (Heap.IsSliceOf.new ..) pl pu q3
 show wpAny (model X.prog X.w) X.A (subscriptTail e (.Slice lo hi none p2) v (.ref s3.heap.objs.size)) (EP X pins σ Q) X.xe {s3 with heap:=s3.heap.push {cls:=.type "slice",data:=.fields #[vl,vu,.none]}}
 exact tail_any (ops:=[.ref s3.heap.objs.size,v]) ht hT hg (by with_unfolding_all rfl)
def cutV (xs:List V) (lo hi:Option Int):List V:=(xs.drop (HT.sIx xs.length 0 lo)).take (HT.sIx xs.length xs.length hi-HT.sIx xs.length 0 lo)
theorem a0e (xs:List V)(lo hi:Option Int):(cutV xs lo hi).length<=xs.length:=by
 unfold cutV;rw[length_take,length_drop];walk_at "o"
def rSlT (K:PySem.W.Frag):V->Option Int->Option Int->Hp->VK->Prop:=fun x lo hi H Q=>∃a xs,x= .ref a/\SqT K H a xs/\
 ¬(HT.sIx xs.length 0 lo=0/\HT.sIx xs.length xs.length hi=xs.length)/\∀p,H p=none->Q (.ref p) (upd H p (.tup (cutV xs lo hi)))
theorem b1o:SlR X (rSlT X.K):=by
 intro pins s σ H x v vl vu lo hi sl Q I rx hs pl pu h;obtain⟨a,xs,rfl,hx,hw,q⟩:=h;cases rx;obtain⟨its,r,ht,hz⟩:=I.tuple hx;have hlen:its.toArray.size=xs.length:=by rw[qI];exact r.length.symm
 refine⟨"tuple",_,PyProof.Rows.slot_tuple_getitem.lookup,ht.typeIs,?_⟩;refine HT.getItem_tuple_cut ht hs pl pu (by rw[hlen];exact hw) ?_ (by rw[hlen];exact hz)
 rw[hlen];refine⟨.ref s.heap.objs.size,_,I.laid (t':=s.toks) (o:=.tup (cutV xs lo hi)) (fun b ob q=>zD _ q) (zE _) ?_,rfl,q _ (I.hok.fresh (zE _))⟩;exact⟨zX (a0e xs lo hi) hz,_,(r.drop (HT.sIx xs.length 0 lo)).take (HT.sIx xs.length xs.length hi-HT.sIx xs.length 0 lo),TupN.new _ _⟩
def rLtT (K:PySem.W.Frag):R2:=fun x y H Q=>∃a b ns ms,x= .ref a/\y= .ref b/\SqT K H a (ns.map V.int)/\SqT K H b (ms.map V.int)/\Q (.bl (HT.lexLt ns ms)) H
theorem a8r (hu:X.A.units<cLine):OpR X (compareOp .Lt) (rLtT X.K):=by
 intro pins s σ H x y v u Q I rx ry h;obtain⟨a,b,ns,ms,rfl,rfl,ha,hb,q⟩:=h;cases rx;cases ry;obtain⟨its,r1,p1,_⟩:=I.tuple ha;obtain⟨its2,r2,p2,_⟩:=I.tuple hb;have i1:IntsAre its.toArray.toList ns:=J3 r1;have i2:IntsAre its2.toArray.toList ms:=J3 r2;exact HT.lt_tupInts p1 p2 i1 i2 hu ⟨.bl (HT.lexLt ns ms),H,I,rfl,q⟩
def rCatT (K:PySem.W.Frag):R2:=fun x y H Q=>∃a b xs ys,x= .ref a/\y= .ref b/\SqT K H a xs/\SqT K H b ys/\xs≠[]/\xs.length+ys.length<=sizeLine/\
 (ys=[]->Q (.ref a) H)/\(ys≠[]->∀p,H p=none->Q (.ref p) (upd H p (.tup (xs++ys))))
theorem Vals.nil_iff {xs:List V}{us:List Value}(r:Vals xs us):us=[]↔xs=[]:=by
 cases r with
 | nil=>simp
 | cons _ _=>simp
theorem a9D:OpR X (binaryOp .Add) (rCatT X.K):=by
 intro pins s σ H x y v u Q I rx ry h;obtain⟨a,b,xs,ys,rfl,rfl,ha,hb,hx,hz,q1,q2⟩:=h;cases rx;cases ry;obtain⟨its,r1,p1,_⟩:=I.tuple ha;obtain⟨its2,r2,p2,_⟩:=I.tuple hb;refine HT.cat_tup p1 p2 (fun z=>hx (r1.nil_iff.mp z)) (fun z=>⟨.ref a,H,I,rfl,q1 (r2.nil_iff.mp z)⟩) (fun z=>?_) (by rw[<-r1.length,<-r2.length];exact hz)
 refine⟨.ref s.heap.objs.size,_,I.laid (t':=s.toks) (o:=.tup (xs++ys)) (fun b ob q=>zD _ q) (zE _) ?_,rfl,q2 (fun w=>z (r2.nil_iff.mpr w)) _ (I.hok.fresh (zE _))⟩;exact⟨by rw[qK];exact hz,_,r1.append r2,TupN.new _ _⟩
end
def ixN (n:Nat) (i:Int):Option Nat:=if 0<=i then(if i<n then some i.toNat else none) else if -(n:Int)<=i then some (i+n).toNat else none
def atI {α:Type} (xs:List α) (i:Int):Option α:=(ixN xs.length i).bind fun j=>xs[j]?
theorem a9r {n:Nat}{i:Int}{j:Nat}(h:ixN n i=some j):seqIndex? i n=some j/\j<n/\-(n:Int)<=i/\i<n:=by
 unfold ixN at h
 by_cases h0:0<=i
 ·rw[if_pos h0] at h
  by_cases h1:i<n
  ·rw[if_pos h1] at h;have e:i.toNat=j:=jC h;exact⟨by rw[seqIndex_of h0 h1,e],by walk_at "o",by walk_at "o",h1⟩
  ·rw[if_neg h1] at h;cases h
 ·rw[if_neg h0] at h
  by_cases h1:-(n:Int)<=i
  ·rw[if_pos h1] at h;have e:(i+n).toNat=j:=jC h;exact⟨by rw[seqIndex_neg (by walk_at "o") h1,e],by walk_at "o",h1,by walk_at "o"⟩
  ·rw[if_neg h1] at h;cases h
theorem a2G {α:Type}{xs:List α}{i:Int}{v:α}(h:atI xs i=some v):∃j,seqIndex? i xs.length=some j/\xs[j]? =some v/\j<xs.length/\-(xs.length:Int)<=i/\i<xs.length:=by
 unfold atI at h;cases e:ixN xs.length i with
 | none=>rw[e] at h;cases h
 | some j=>
  rw[e] at h;obtain⟨h1,h2,h3,h4⟩:=a9r e;exact⟨j,h1,h,h2,h3,h4⟩
theorem t7 {α:Type}{xs:List α}{j:Nat}{v:α}(h:xs[j]? =some v):atI xs (j:Int)=some v:=by
 have hj:j<xs.length:=(zQ.mp h).1;have e:ixN xs.length (j:Int)=some j:=by
  unfold ixN;rw[if_pos (by walk_at "o"),if_pos (by walk_at "o")];simp
 unfold atI;rw[e];exact h
def PlainIx (b:Expr):Prop:=∀o i,subscripted b false o i=operate [o,i] (getItem o i)
def IxR (X:Cx) (r:R2):Prop:=
 ∀(value slice:Expr) (pins:List (Addr×Obj)) (s:Shared) (σ:St) (H:Hp) (x y:V) (v u:Value) (Q:VK),Inv X pins σ H s->RelV x v->RelV y u->r x y H Q->
  subscripted slice false v u=operate [v,u] (getItem v u)->wpAny (model X.prog X.w) X.A (subscriptTail value slice v u) (EP X pins σ Q) X.xe s
def MtR (X:Cx) (id:String) (r:V->List V->Hp->VK->Prop):Prop:=
 ∀(pins:List (Addr×Obj)) (s:Shared) (σ:St) (H:Hp) (x:V) (xs:List V) (v:Value) (us:List Value) (Q:VK),Inv X pins σ H s->RelV x v->Vals xs us->r x xs H Q->
  wpAny (model X.prog X.w) X.A (call (.builtin id) (v::us)) (EP X pins σ Q) X.xe s
section
variable {X:Cx}{a b:Expr}{ta tb:TE}{pos:Pos}
theorem IxR.or {r r':R2}(h:IxR X r)(h':IxR X r'):IxR X (fun x y H Q=>r x y H Q\/r' x y H Q):=by
 intro value slice pins s σ H x y v u Q I rx ry q hs;rcases q with q|q
 ·exact h value slice pins s σ H x y v u Q I rx ry q hs
 ·exact h' value slice pins s σ H x y v u Q I rx ry q hs
theorem pe_ix {r:R2}(hr:IxR X r)(ha:PE X a ta)(hb:PE X b tb)(hs:PlainIx b):PE X (.Subscript a b pos) (tOp r ta tb):=by
 intro pins s σ H Q I h;exact Subscript_ (binT ha hb I h fun v u s2 x y H2 I2 rx ry q=>hr a b pins s2 σ H2 x y v u Q I2 rx ry q (hs _ _))
def rIxL (K:PySem.W.Frag):R2:=fun x y H Q=>∃p xs i v,x= .ref p/\y= .int i/\SqL K H p xs/\atI xs i=some v/\Q v H
def rIxT (K:PySem.W.Frag):R2:=fun x y H Q=>∃p xs i v,x= .ref p/\y= .int i/\SqT K H p xs/\atI xs i=some v/\Q v H
def rIxS:R2:=fun x y H Q=>∃z i c,x= .str z/\y= .int i/\z.length<=sizeLine/\atI z.cps.toList i=some c/\Q (.str ⟨#[c]⟩) H
theorem a9B:IxR X (rIxL X.K):=by
 intro value slice pins s σ H x y v u Q I rx ry h hs;obtain⟨p,xs,i,z,rfl,rfl,hq,he,q⟩:=h;cases rx;obtain⟨t,rfl⟩:=ry;obtain⟨its,r,pl,hz⟩:=I.list hq;obtain⟨j,h1,h2,h3,h4,h5⟩:=a2G he;obtain⟨w,ew,rw'⟩:=r.get h2;have hl:=r.length;have hn:=line63;have fin:EP X pins σ Q w s:=⟨z,H,I,rw',q⟩
 by_cases h0:0<=i
 ·have hj:i.toNat=j:=by
   rw[seqIndex_of h0 h5] at h1;exact jC h1
  exact item_listR pl.isList h0 (by walk_at "o") (by rw[hj];simpa using ew) fin hs
 ·have hj:(i+(its.toArray.size:Int)).toNat=j:=by
   rw[seqIndex_neg (by walk_at "o") h4] at h1
   rw[qI,<-hl];exact jC h1
  exact yW (x:=w) pl.isList.typeIs slot_list_getitem.lookup
   (wpAny_getItem_list_neg (Q:=fun r s'=>r=w/\EP X pins σ Q r s') pl.isList (by walk_at "o") (by rw[qI]<;>walk_at "o") (by walk_at "o") (by rw[hj];simpa using ew) ⟨rfl,fin⟩) hs
theorem b1I:IxR X (rIxT X.K):=by
 intro value slice pins s σ H x y v u Q I rx ry h hs;obtain⟨p,xs,i,z,rfl,rfl,hq,he,q⟩:=h;cases rx;obtain⟨t,rfl⟩:=ry;obtain⟨its,r,pl,hz⟩:=I.tuple hq;obtain⟨j,h1,h2,h3,h4,h5⟩:=a2G he;obtain⟨w,ew,rw'⟩:=r.get h2;have hl:=r.length;have hn:=line63;have fin:EP X pins σ Q w s:=⟨z,H,I,rw',q⟩;exact yW (x:=w) pl.typeIs slot_tuple_getitem.lookup
  (getItem_tuple (j:=j) (Q:=fun r s'=>r=w/\EP X pins σ Q r s') pl (by walk_at "o") (by walk_at "o") (by rw[qI,<-hl];exact h1) (by simpa using ew) ⟨rfl,fin⟩) hs
theorem b1U:IxR X rIxS:=by
 intro value slice pins s σ H x y v u Q I rx ry h hs;obtain⟨z,i,c,rfl,rfl,hz,he,q⟩:=h;obtain⟨t,rfl⟩:=rx;obtain⟨t',rfl⟩:=ry;obtain⟨j,h1,h2,h3,h4,h5⟩:=a2G he;have hl:z.cps.toList.length=z.length:=by simp[Str.length]
 rw[hl] at h1 h4 h5;have hn:=line63
 exact tail_any (typeIs_str s z t) slot_str_getitem.lookup (getItem_str (c:=c) (by
  have e1:decide (i < -(2^63:Int))=false:=zU (by walk_at "o")
  have e2:decide (i≥2^63)=false:=zU (by walk_at "o")
  rw[e1,e2,Bool.or_false]) (by rw[h1];simpa using h2) ⟨.str ⟨#[c]⟩,H,I.tok _,⟨_,rfl⟩,q⟩) hs
def rIx (K:PySem.W.Frag):R2:=fun x y H Q=>rIxL K x y H Q\/rIxT K x y H Q\/rIxS x y H Q
theorem b1x:IxR X (rIx X.K):=a9B.or (b1I.or b1U)
theorem Inv.lst {pins:List (Addr×Obj)}{σ:St}{H:Hp}{s:Shared}{p:Addr}{xs:List V}(I:Inv X pins σ H s)(h:H p=some (.lst xs)):
  ∃(its:List Value) (n:Nat),Vals xs its/\s.heap.get? p=some {cls:=.type "list",data:=.seq its.toArray n}/\xs.length<=sizeLine:=by
 obtain⟨z,its,n,r,e⟩:=I.hok p _ h;exact⟨its,n,r,e,z⟩
theorem a2z (lo hi:Option Int)(n:Nat):(sliceBounds lo hi none n).1=((HT.sIx n 0 lo:Nat):Int)/\(sliceBounds lo hi none n).2.1=((HT.sIx n n hi:Nat):Int)/\(sliceBounds lo hi none n).2.2=1:=by
 refine⟨?_,?_,rfl⟩
 ·cases lo with
  | none=>simp[sliceBounds,HT.sIx]
  | some i=>
   simp only[sliceBounds,HT.sIx,getD_none,show(1:Int)>0 by decide,qW]
   by_cases h:i<0
   ·simp only[h,qW]<;>walk_at "o"
   ·simp only[h,qY]<;>walk_at "o"
 ·cases hi with
  | none=>simp[sliceBounds,HT.sIx]
  | some i=>
   simp only[sliceBounds,HT.sIx,getD_none,show(1:Int)>0 by decide,qW]
   by_cases h:i<0
   ·simp only[h,qW]<;>walk_at "o"
   ·simp only[h,qY]<;>walk_at "o"
theorem a1j (its:List Value)(lo hi:Option Int):slicePick its.toArray lo hi none=((its.drop (HT.sIx its.length 0 lo)).take (HT.sIx its.length its.length hi-HT.sIx its.length 0 lo)).toArray:=by
 obtain⟨h1,h2,h3⟩:=a2z lo hi its.toArray.size;unfold slicePick;rw[h1,h2,h3];simp only[sliceRange_one,pick_run,qI]<;>rfl
def rSlL (K:PySem.W.Frag):V->Option Int->Option Int->Hp->VK->Prop:=fun x lo hi H Q=>∃a xs,x= .ref a/\SqL K H a xs/\∀p,H p=none->Q (.ref p) (upd H p (.lst (cutV xs lo hi)))
theorem a9m:SlR X (rSlL X.K):=by
 intro pins s σ H x v vl vu lo hi sl Q I rx hs pl pu h;obtain⟨a,xs,rfl,hx,q⟩:=h;cases rx;obtain⟨its,r,ht,hz⟩:=I.list hx;have hlen:=r.length;refine⟨"list",_,slot_list_getitem.lookup,ht.isList.typeIs,?_⟩;refine wpAny_getItem_list_slice ht.isList hs pl pu .none (by simp) ?_ (by rw[qI]<;>walk_at "o")
 rw[a1j,<-hlen];refine⟨.ref s.heap.objs.size,_,I.laid (t':=s.toks) (o:=.lst (cutV xs lo hi)) (fun b ob q=>zD _ q) (zE _) ?_,rfl,q _ (I.hok.fresh (zE _))⟩;exact⟨zX (a0e xs lo hi) hz,_,0,(r.drop (HT.sIx xs.length 0 lo)).take (HT.sIx xs.length xs.length hi-HT.sIx xs.length 0 lo),zK _ rfl⟩
def flatV:V->Bool
 | .non=>true
 | .bl _=>true
 | .int _=>true
 | .str _=>true
 | _=>false
def eqV:V->V->Bool
 | .non,.non=>true
 | .bl a,.bl b=>a==b
 | .bl a,.int b=>(if a then 1 else 0)==b
 | .int a,.bl b=>a==(if b then 1 else 0)
 | .int a,.int b=>a==b
 | .str a,.str b=>a==b
 | _,_=>false
theorem b1S {A:Around}{s:Shared}{y x:V}{u v:Value}(ry:RelV y u)(rx:RelV x v)(fy:flatV y=true)(fx:flatV x=true):SeqAt.EqAt A s u v (eqV y x):=by
 cases y with
 | non=>
  cases ry;cases x with
  | non=>cases rx;exact SeqAt.EqAt.same _
  | bl b=>cases rx;exact SeqAt.EqAt.none_bool b
  | int b=>obtain⟨t,rfl⟩:=rx;exact SeqAt.EqAt.none_int b t
  | str b=>obtain⟨t,rfl⟩:=rx;exact SeqAt.EqAt.none_str b t
  | _=>exact absurd (show false=true from fx) zT
 | bl a=>
  cases ry;cases x with
  | non=>cases rx;exact SeqAt.EqAt.bool_none a
  | bl b=>cases rx;exact SeqAt.EqAt.bool_bool a b
  | int b=>obtain⟨t,rfl⟩:=rx;exact SeqAt.EqAt.bool_int a b t
  | str b=>obtain⟨t,rfl⟩:=rx;exact SeqAt.EqAt.bool_str a b t
  | _=>exact absurd (show false=true from fx) zT
 | int a=>
  obtain⟨t',rfl⟩:=ry;cases x with
  | non=>cases rx;exact SeqAt.EqAt.int_none a t'
  | bl b=>cases rx;exact SeqAt.EqAt.int_bool a t' b
  | int b=>obtain⟨t,rfl⟩:=rx;exact SeqAt.EqAt.int_int a t' b t
  | str b=>obtain⟨t,rfl⟩:=rx;exact SeqAt.EqAt.int_str a t' b t
  | _=>exact absurd (show false=true from fx) zT
 | str a=>
  obtain⟨t',rfl⟩:=ry;cases x with
  | non=>cases rx;exact SeqAt.EqAt.str_none a t'
  | bl b=>cases rx;exact SeqAt.EqAt.str_bool a t' b
  | int b=>obtain⟨t,rfl⟩:=rx;exact SeqAt.EqAt.str_int a t' b t
  | str b=>obtain⟨t,rfl⟩:=rx;exact SeqAt.EqAt.str_str a t' b t
  | _=>exact absurd (show false=true from fx) zT
 | _=>exact absurd (show false=true from fy) zT
def eqU (x:V) (u:Value):Bool:=match u with
 | .none=>eqV .non x
 | .bool b=>eqV (.bl b) x
 | .int i _=>eqV (.int i) x
 | .str z _=>eqV (.str z) x
 | _=>false
theorem a6P {x y:V}{u:Value}(r:RelV y u)(f:flatV y=true):eqU x u=eqV y x:=by
 cases y with
 | non=>cases r;rfl
 | bl b=>cases r;rfl
 | int i=>obtain⟨t,rfl⟩:=r;rfl
 | str z=>obtain⟨t,rfl⟩:=r;rfl
 | _=>exact absurd (show false=true from f) zT
theorem U7 {x:V}:∀{xs:List V} {us:List Value},Vals xs us->xs.all flatV=true->us.any (eqU x)=xs.any fun y=>eqV y x
 | _,_,.nil,_=>rfl
 | y::xs,u::us,.cons r t,f=>by
  rw[all_cons,jQ] at f;rw[any_cons,any_cons,a6P r f.1,U7 t f.2]
theorem L7 {A:Around}{s:Shared}{x:V}{v:Value}(rx:RelV x v)(fx:flatV x=true):∀{xs:List V} {us:List Value},Vals xs us->xs.all flatV=true->∀u∈us,SeqAt.EqAt A s u v (eqU x u)
 | _,_,.nil,_=>fun u hu=>by cases hu
 | y::xs,u::us,.cons r t,f=>fun u' hu=>by
  rw[all_cons,jQ] at f;rcases zN.mp hu with rfl|hu
  ·rw[a6P r f.1];exact b1S r rx f.1 fx
  ·exact L7 rx fx t f.2 u' hu
def inV (x:V) (xs:List V):Bool:=xs.any fun y=>eqV y x
def rIn (K:PySem.W.Frag) (neg:Bool):R2:=fun x y H Q=>∃p xs,y= .ref p/\(SqL K H p xs\/SqT K H p xs)/\flatV x=true/\xs.all flatV=true/\Q (.bl (if neg then !inV x xs else inV x xs)) H
theorem a57:OpR X (compareOp .In) (rIn X.K false):=by
 intro pins s σ H x y v u Q I rx ry h;obtain⟨p,xs,rfl,hq,fx,fs,q⟩:=h;cases ry;rcases hq with hq|hq
 ·obtain⟨its,r,pl,hz⟩:=I.list hq;refine SeqAt.in_listAt (eqU x) pl.isList (fun w hw=>L7 rx fx r fs w (by simpa using hw)) ⟨.bl _,H,I,rfl,?_⟩
  rw[show its.toArray.any (eqU x)=its.any (eqU x) by simp,U7 r fs]
  exact q
 ·obtain⟨its,r,pl,hz⟩:=I.tuple hq;refine SeqAt.in_tupleAt (eqU x) pl (fun w hw=>L7 rx fx r fs w (by simpa using hw)) ⟨.bl _,H,I,rfl,?_⟩
  rw[show its.toArray.any (eqU x)=its.any (eqU x) by simp,U7 r fs]
  exact q
theorem a2H:OpR X (compareOp .NotIn) (rIn X.K true):=by
 intro pins s σ H x y v u Q I rx ry h;obtain⟨p,xs,rfl,hq,fx,fs,q⟩:=h;cases ry;rcases hq with hq|hq
 ·obtain⟨its,r,pl,hz⟩:=I.list hq;refine SeqAt.notIn_listAt (eqU x) pl.isList (fun w hw=>L7 rx fx r fs w (by simpa using hw)) ⟨.bl _,H,I,rfl,?_⟩
  rw[show its.toArray.any (eqU x)=its.any (eqU x) by simp,U7 r fs]
  exact q
 ·obtain⟨its,r,pl,hz⟩:=I.tuple hq;refine SeqAt.notIn_tupleAt (eqU x) pl (fun w hw=>L7 rx fx r fs w (by simpa using hw)) ⟨.bl _,H,I,rfl,?_⟩
  rw[show its.toArray.any (eqU x)=its.any (eqU x) by simp,U7 r fs]
  exact q
theorem W0:CallR X (.builtin "len") (fun xs H Q=>∃p ys,xs=[.ref p]/\(SqL X.K H p ys\/SqT X.K H p ys)/\Q (.int ys.length) H):=by
 intro pins s σ H xs us Q I r h;obtain⟨p,ys,rfl,hq,q⟩:=h;obtain⟨u,rfl,rx⟩:=vals1 r;cases rx;have hn:=line63;rcases hq with hq|hq
 ·obtain⟨its,r',pl,hz⟩:=I.list hq;have hlen:=r'.length;exact Calls.call_len_list pl.isList (by simp only[qI]<;>walk_at "o") ⟨.int ys.length,H,I.tok _,⟨s.toks+1,by rw[qI,hlen]⟩,q⟩
 ·obtain⟨its,r',pl,hz⟩:=I.tuple hq;have hlen:=r'.length;exact len_tuple pl (by simp only[qI]<;>walk_at "o") ⟨.int ys.length,H,I.tok _,⟨s.toks+1,by rw[qI,hlen]⟩,q⟩
theorem CallR.or {f:Value}{r r':List V->Hp->VK->Prop}(h:CallR X f r)(h':CallR X f r'):CallR X f (fun xs H Q=>r xs H Q\/r' xs H Q):=by
 intro pins s σ H xs us Q I rs q;rcases q with q|q
 ·exact h pins s σ H xs us Q I rs q
 ·exact h' pins s σ H xs us Q I rs q
theorem w4:CallR X (.type "tuple") (fun xs H Q=>∃p ys,xs=[.ref p]/\((SqL X.K H p ys/\∀l,H l=none->Q (.ref l) (upd H l (.tup ys)))\/(SqT X.K H p ys/\Q (.ref p) H))):=by
 intro pins s σ H xs us Q I r h;obtain⟨p,ys,rfl,h⟩:=h;obtain⟨u,rfl,rx⟩:=vals1 r;cases rx;rcases h with ⟨hq,q⟩|⟨hq,q⟩
 ·obtain⟨its,r',pl,hz⟩:=I.list hq;have hlen:=r'.length;refine call_tuple_list pl.isList (fun h' kp=>?_) (by simp only[qI]<;>walk_at "o")
  have I1:Inv X pins σ H {s with heap:=h'}:=I.kept (t':=s.toks) kp
  have I2:Inv X pins σ (upd H h'.objs.size (.tup ys)) {s with heap:=h'.push {cls:=.type "tuple",data:=.seq its.toArray}}:=
   I1.laid (t':=s.toks) (fun b o e=>zD _ e) (zE _) (show ObjOk X.K X.prog X.w _ _ _ (.tup ys) from⟨hz,its,r',TupN.new _ _⟩)
  exact⟨.ref h'.objs.size,_,I2,rfl,q _ (I1.hok.fresh (zE _))⟩
 ·obtain⟨its,r',pl,hz⟩:=I.tuple hq;exact call_tuple_same pl ⟨.ref p,H,I,rfl,q⟩
def tyV (K:PySem.W.Frag) (T:String) (x:V) (H:Hp):Prop:=match x with
 | .str _=>T="str"
 | .int _=>T="int"
 | .ref p=>(T="list"/\∃xs,SqL K H p xs)\/(T="tuple"/\∃o,K.lookup p=some o/\o.cls= .type "tuple"/\o.dict=none)\/
   (T="dict"/\((∃kvs,H p=some (.dK kvs))\/∃kvs,H p=some (.dT kvs)))\/(T="set"/\∃S n,H p=some (.set S n))
 | _=>False
theorem a7h {pins:List (Addr×Obj)}{σ:St}{H:Hp}{s:Shared}{T:String}{x:V}{v:Value}(I:Inv X pins σ H s)(r:RelV x v)(ty:tyV X.K T x H):
  s.TypeIs v T/\∀a,v= .ref a->∃ob,s.heap.get? a=some ob/\ob.dict=none:=by
 cases x with
 | str z=>
  obtain⟨t,rfl⟩:=r;cases(show T="str" from ty);exact⟨typeIs_str s z t,fun _ e=>nomatch e⟩
 | int i=>
  obtain⟨t,rfl⟩:=r;cases(show T="int" from ty);exact⟨typeIs_int s i t,fun _ e=>nomatch e⟩
 | ref p=>
  cases r;rcases ty with ⟨rfl,xs,hq⟩|⟨rfl,o,hk,hc,hd⟩|⟨rfl,hk⟩|⟨rfl,S,n,hk⟩
  ·obtain⟨its,_,pl,_⟩:=I.list hq;refine⟨pl.isList.typeIs,fun a e=>?_⟩;cases e;obtain⟨o,n,e,c,hd,_⟩:=pl;exact⟨o,e,hd⟩
  ·refine⟨⟨o,I.kIn p o hk,hc⟩,fun a e=>?_⟩;cases e;exact⟨o,I.kIn _ o hk,hd⟩
  ·have z:∃o,s.heap.get? p=some o/\o.ExactDict:=by
    rcases hk with ⟨kvs,hk⟩|⟨kvs,hk⟩
    ·obtain⟨_,_,_,_,o,_,e,ex,_⟩:=I.hok p _ hk;exact⟨o,e,ex⟩
    ·obtain⟨_,_,_,_,o,_,e,ex,_⟩:=I.hok p _ hk;exact⟨o,e,ex⟩
   obtain⟨o,e,ex⟩:=z;refine⟨⟨o,e,ex.1⟩,fun a e2=>?_⟩;cases e2;exact⟨o,e,ex.2.1⟩
  ·obtain⟨o,_,_,_,e,ex,_⟩:=I.hok p _ hk;refine⟨⟨o,e,ex.1⟩,fun a e2=>?_⟩;cases e2;exact⟨o,e,ex.2.1⟩
 | _=>exact False.elim ty
def tBM0 (K:PySem.W.Frag) (T:String) (r:V->List V->Hp->VK->Prop) (to:TE):TE:=fun σ H Q=>to σ H fun x H1=>tyV K T x H1/\r x [] H1 Q
def tBM (K:PySem.W.Frag) (T:String) (r:V->List V->Hp->VK->Prop) (to:TE) (t:TA):TE:=fun σ H Q=>to σ H fun x H1=>tyV K T x H1/\t σ H1 fun xs H2=>r x xs H2 Q
variable {o e:Expr}{es:List Expr}{to:TE}{t:TA}{name:Str}{apos cpos:Pos}{T id:String}{r:V->List V->Hp->VK->Prop}
theorem b1y (pa:PlainAttrs T)(slot:Slot T name id)(hty:typeOf (.builtin id)=pure (.type "method_descriptor"))(hm:MtR X id r)(ho:PE X o to)
  (hbase:attributeBase o name X.env (eval o X.env)=eval o X.env:=by rfl) (hline:(apos.endLine==cpos.line)=true:=by rfl):PE X (.Call (.Attribute o name apos) [] [] cpos) (tBM0 X.K T r to):=by
 intro pins s σ H Q I h;refine wpAny_Call_method0_late hbase hline (thn (ho pins s σ H _ I h) fun v s1 ⟨x,H1,I1,r1,ty,q1⟩=>?_);obtain⟨h1,h2⟩:=a7h I1 r1 ty;exact⟨T,id,pa,slot,hty,h1,h2,Calls.callWith_builtin rfl (PySem.evalArgs_none (hm pins s1 σ H1 x [] v [] Q I1 r1 .nil q1))⟩
theorem pe_bm (pa:PlainAttrs T)(slot:Slot T name id)(hty:typeOf (.builtin id)=pure (.type "method_descriptor"))(hm:MtR X id r)(ho:PE X o to)(ha:PA X (e::es) t)
  (hbase:attributeBase o name X.env (eval o X.env)=eval o X.env:=by rfl)
  (hfew:((backTo cpos (starEach (e::es) X.env)).all (fun x=>!x.1)&&(backToKw cpos (keywordEach [] X.env)).all (fun x=>x.1.isSome)
   && decide ((e::es).length+([]:List Keyword).length+(if([]:List Keyword).isEmpty then 0 else 1)<30))=true:=by rfl)
  (hline:(apos.endLine==cpos.line)=true:=by rfl) (hs:starEach (e::es) X.env=(false,eval e X.env)::starEach es X.env:=by rfl) (hplain:(backTo cpos (starEach es X.env)).any (·.1)=false:=by rfl):
  PE X (.Call (.Attribute o name apos) (e::es) [] cpos) (tBM X.K T r to t):=by
 intro pins s σ H Q I h;refine wpAny_Call_method_late hbase hfew hline rfl (thn (ho pins s σ H _ I h) fun v s1 ⟨x,H1,I1,r1,ty,q1⟩=>?_);obtain⟨h1,h2⟩:=a7h I1 r1 ty;refine⟨T,id,pa,slot,hty,h1,h2,?_⟩;have hA:=ha cpos pins s1 σ H1 _ I1 q1;rw[hs] at hA ⊢;refine Calls.callWith_builtin (by show(false||(backTo cpos (starEach es X.env)).any (·.1))=false;rw[hplain]<;>rfl) (Calls.evalArgs_plain ?_)
 exact thn hA fun us s2 h0=>ex5 h0 fun vs H2 I2 r2 q2=>hm pins s2 σ H2 x vs v us Q I2 r1 r2 q2
end
def MtM (X:Cx) (id:String) (r:V->List V->Hp->VK->Prop):Prop:=
 ∀(pins:List (Addr×Obj)) (s:Shared) (σ:St) (H:Hp) (x:V) (xs:List V) (v:Value) (us:List Value) (Q:VK),Inv X pins σ H s->RelV x v->Vals xs us->r x xs H Q->
  wpAny (model X.prog X.w) X.A (call (.builtin id) (v::us)) (EP X pins σ Q) X.xe s
theorem Vals.one:∀{x:V} {us:List Value},Vals [x] us->∃u,us=[u]/\RelV x u
 | _,_,.cons r .nil=>⟨_,rfl,r⟩
section
variable {X:Cx}{pins:List (Addr×Obj)}{σ:St}{H:Hp}{s:Shared}{l:Addr}{xs ys:List V}
theorem Inv.lset {its its':List Value}{n:Nat}{f:Array Value->Array Value}{t':Nat}(I:Inv X pins σ H s)(hH:H l=some (.lst xs))
  (e:s.heap.get? l=some {cls:=.type "list",data:=.seq its.toArray n}) (hf:f its.toArray=its'.toArray) (hv:Vals ys its') (hz:ys.length<=sizeLine):
  Inv X pins σ (upd H l (.lst ys)) {s with heap:=s.heap.update l (Obj.mapSeq f),toks:=t'}:=by
 have q:=PySem.IsL.update e f;rw[hf] at q;refine I.write (x:=l) (e:=l) (by rw[hH];exact trivial) (.inl rfl) (fun b' u hb hu=>(Heap.get?_update_other s.heap (Obj.mapSeq f) (qM hb)).trans hu) ⟨_,q⟩ ?_
 exact⟨hz,its',_,hv,q⟩
theorem Inv.lnew {its:List Value}{t':Nat}(I:Inv X pins σ H s)(hv:Vals ys its)(hz:ys.length<=sizeLine):
  Inv X pins σ (upd H s.heap.objs.size (.lst ys)) {s with heap:=s.heap.push {cls:=.type "list",data:=.seq its.toArray},toks:=t'}:=
 I.laid (fun _ _ q=>zD _ q) (zE _) ⟨hz,its,0,hv,zK _ rfl⟩
theorem Inv.fresh (I:Inv X pins σ H s):H s.heap.objs.size=none:=I.hok.fresh (zE _)
theorem Inv.lstM (I:Inv X pins σ H s)(hH:H l=some (.lst xs)):xs.length<=sizeLine/\∃(its:List Value) (n:Nat),Vals xs its/\xs.length=its.length/\s.heap.get? l=some {cls:=.type "list",data:=.seq its.toArray n}:=by
 obtain⟨z,its,n,r,e⟩:=I.hok l _ hH;exact⟨z,its,n,r,r.length,e⟩
end
section
variable {X:Cx}
def rAppend:V->List V->Hp->VK->Prop:=fun x vs H Q=>∃l xs y,x= .ref l/\vs=[y]/\H l=some (.lst xs)/\xs.length<sizeLine/\Q .non (upd H l (.lst (xs++[y])))
theorem W2:MtM X "list.append" rAppend:=by
 intro pins s σ H x vs v us Q I rx rv h;obtain⟨l,xs,y,rfl,rfl,hH,hz,q⟩:=h;cases rx;obtain⟨u,rfl,ru⟩:=rv.one;obtain⟨z,its,n,r,hl,e⟩:=I.lstM hH;refine call_meets F.slot_list_append ⟨_,e,rfl⟩ F.entry_list_append (F.args_list_append_2 _ _) (PySem.list_append l its.toArray n u (by rw[qI];walk_at "o")) ⟨e,?_⟩
 refine⟨.non,_,I.lset (its':=its++[u]) hH e (by simp) (r.append (.cons ru .nil)) ?_,rfl,q⟩
 rw[qK,length_singleton];walk_at "o"
end
end L2
namespace Att
open PySem PySem.W PySem.Calls PyProof.Rows
theorem a0k {P:Params}{h:Heap}:∀(ns:List Int) (vs:List Value),WellAll P h vs (ns.map WData.int)->IntsAre vs ns:=by
 intro ns
 induction ns with
 | nil=>
  intro vs w;rw[xN] at w;cases w;exact .nil
 | cons n ns ih=>
  intro vs w;rw[zI] at w;cases w with
  | cons a b=>
   cases a;exact .cons _ _ (ih _ b)
theorem a6c {l:OpenLaw}{n:Nat}(hn:l.most=some n){P:Params}{h:Heap}{args:List WData}{vals:List Value}
  (hpre:l.row.toRowW.claim.pre args=true) (hwl:WellAll P h vals args):
  ∃a vs ns,vals=[Value.ref a]/\args=[WData.list (ns.map WData.int)]/\h.get? a=some {cls:=.type "list",data:=.seq vs.toArray}/\IntsAre vs ns/\ns.length<=n:=by
 have hsh:WShape.hasAll [] args [.list .int]=true:=(pre_splitW hpre).1;have hc:l.pre.holds [] {args:=args}=true:=(pre_splitW hpre).2;obtain⟨d,r,rfl,h1,h2⟩:=hasAllW_cons hsh;obtain rfl:=hasAllW_nil h2;obtain⟨xs,rfl,h3⟩:=hasW_list h1;obtain⟨ns,rfl⟩:=items_int h3;have hlen:ns.length<=n:=by
  unfold OpenLaw.pre at hc;have h4:(WTm.not (.lt (.lit (.int (n:Int))) (.len (.arg 0)))).holds [] {args:=[.list (ns.map .int)]}=true:=by
   have h4:=(holds_andW hc).1;rw[hn] at h4;exact h4
  have h5:=condW_of h4 (w_not (w_lt w_lit (w_len_list (w_arg rfl))));rw[zH] at h5;refine Nat.le_of_not_lt fun q=>?_;have q':(n:Int)<((ns.length:Nat):Int):=by walk_at "o"
  first
   | (rw[zP q'] at h5;exact absurd h5 (by decide))
   | (simp at h5;walk_at "o")
 cases hwl with
 | cons w1 w2=>
  cases w2;cases w1 with
  | list ho hall=>exact⟨_,_,ns,rfl,rfl,ho,a0k ns _ hall,hlen⟩
theorem a5V (l:OpenLaw)(args:List WData):l.row.toRowW.claim.post args (.bool true) args=true:=
 postW_of (r:=l.row.toRowW) (X:=(true==true))
  (show WShape.has [] (.bool true) .bool=true by first|rfl|decide|simp[WShape.has,WShape.arms,WShape.armsAll])
  (show(WTm.eq .res (.lit (.bool true))).value [] {args:=args,res:=some (.bool true),after:=args}=some (.bool (true==true)) from w_eq_bool (w_res rfl) w_lit) rfl
theorem attach_call {l:OpenLaw}{n:Nat}{q:Program}{loose:List Str}{XP:(Str->Option Value)->Heap->Prop}{YP:World->Heap->Prop}{d:DefRec}
  (hn:l.most=some n) (hdf:d.params.defaults=[])
  (call:∀(w:World) (s₀ s₁:Shared) (mg mb:Str->Option Value) (fa:Addr) (o:Obj) (pm cd doc:Value) (a:Addr) (vs:List Value) (ns:List Int),
   Ground q loose [] XP w s₀ mg mb s₁.heap->YP w s₁.heap->
   s₁.heap.get? fa=some o->o.data= .func (docDef d.name d.params d.body d.scope pm cd doc)->s₁.heap.CodeRec cd d.name->mg d.name=some (.ref fa)->
   s₁.heap.get? a=some {cls:=.type "list",data:=.seq vs.toArray}->IntsAre vs ns->ns.length<=n->s₁.gens= #[]->
   codeAny (model l.prog w) callerA (.call (.ref fa) ⟨[.ref a],[]⟩) (fun r s'=>r= .ok (.ret (.bool true))/\OldK s₁.heap s'.heap/\s'.os=s₁.os/\AllBare s'.gens) s₁):
  WalkO q loose XP YP l.row.toRowW d [] (fun f vs=>PySem.call f vs):=by
 intro w s₀ s₁ mg mb G Y fa o pm cd doc dV kV ho hd hcd hD hmg hg args vals as hpre hlay hrd hwl hlo;obtain rfl:dV= .none:=Dflts.none hD hdf;obtain rfl:kV= .none:=Dflts.noKw hD;obtain⟨a,vs,ns,rfl,rfl,hobj,hints,hlen⟩:=a6c hn hpre hwl;refine enter_call (yK (call w s₀ s₁ mg mb fa o pm cd doc a vs ns G Y ho (fd_plain hd) hcd hmg hobj hints hlen hg) fun r s' hq=>?_);obtain⟨rfl,h2,h3,h4⟩:=hq;exact⟨.inl ⟨.bool true,.bool true,[],rfl,fun _=>rfl,.bool true,a5V l _,fun _=>⟨List.Pairwise.nil,fun _ hm=>(nomatch hm)⟩⟩,h2,h3,h4⟩
def ledger (h:Heap) (L d:Addr):List (Addr×Obj):=(List.range h.objs.size).filterMap fun a=>if a=L\/a=d then none else(h.get? a).map fun o=>(a,o)
end Att
namespace L2
open PySem PySem.Spec PyProof.Rows
theorem a1v:∀{vs:List Value} {ns:List Int},IntsAre vs ns->Vals (ns.map V.int) vs
 | _,_,.nil=>.nil
 | _,_,.cons n t h=>.cons ⟨t,rfl⟩ (a1v h)
def Only (H:Hp):Prop:=∀b,H b=none\/∃o xs,H b=some (.frz o (.lst xs))
theorem a8b {P:Program}{w:World}{K:PySem.W.Frag}{mg mb:Str->Option Value}{CX:CXT}{k:Nat}{fa a:Addr}{fd:FuncData}{x:Str}{sp:Sp}{s₁:Shared}{vs:List Value}{ns:List Int}
  (KX:K.In s₁.heap) (hns:s₁.heap.Ns mainGlobals mg) (hb:s₁.heap.Ns builtinsNs mb) (hbb:∀x:Str,x≠"__name__"->mb x=bootBuiltins x) (hlim:s₁.heap.NoLimit) (hg:s₁.gens= #[])
  (ha:s₁.heap.get? a=some {cls:=.type "list",data:=.seq vs.toArray}) (hi:IntsAre vs ns) (hl:ns.length<=sizeLine) (hr:Room k callerA)
  (F:∀base:Heap,K.In base->base.Ns mainGlobals mg->FnOk P w K mg base CX k fa fd [x] sp) (hbind:∀(s:Shared) (u:Value),BindsTo s fd ⟨[u],[]⟩ [(x,u)])
  (hsp:∀H:Hp,Only H->SqL K H a (ns.map V.int)->sp [.ref a] H (fun v _=>v= .bl true) fun _ _ _=>False)
  (hCX:∀H e s',CX [] H s₁ (fun _ _ _=>False) e s'->False):
  codeAny (model P w) callerA (.call (.ref fa) ⟨[.ref a],[]⟩) (fun r s'=>r= .ok (.ret (.bool true))/\OldK s₁.heap s'.heap/\s'.os=s₁.os/\AllBare s'.gens) s₁:=by
 have rv:=a1v hi;have lenV:=hi.length;have core:∀H:Hp,Only H->SqL K H a (ns.map V.int)->HOk K P w H s₁.heap->(∀b,H b≠none->b=a)->(H a≠none->K.lookup a=none)->
   codeAny (model P w) callerA (.call (.ref fa) ⟨[.ref a],[]⟩) (fun r s'=>r= .ok (.ret (.bool true))/\OldK s₁.heap s'.heap/\s'.os=s₁.os/\AllBare s'.gens) s₁:=by
  intro H hO hS hok hA hK;have base_of:∀{b:Addr} {o:Obj},s₁.heap.get? b=some o->H b=none->(hidT s₁.heap H).get? b=some o:=fun e n=>a8c e n;have noA:∀{b:Addr} {o:Obj} {es:Array DictEntry} {ep:Nat},s₁.heap.get? b=some o->o.data= .dict es ep->H b=none:=fun{b o es ep} e d=>by
   cases q:H b with
   | none=>rfl
   | some u=>
    have e':b=a:=hA b (by rw[q];simp)
    subst e';rw[ha] at e;cases e;have d':Data.seq vs.toArray _=Data.dict es ep:=d;cases d'
  have nsK:∀{b:Addr} {m:Str->Option Value},s₁.heap.Ns b m->(hidT s₁.heap H).Ns b m:=fun{b m} ⟨o,es,ep,e,d,r⟩=>⟨o,es,ep,base_of e (noA e d),d,r⟩
  have hKb:K.In (hidT s₁.heap H):=fun b o e=>base_of (KX b o e) (by
   cases q:H b with
   | none=>rfl
   | some u=>
    have e':b=a:=hA b (by rw[q];simp)
    subst e'
    rw[hK (by rw[q];simp)] at e;cases e)
  have hM:Mod K mg (hidT s₁.heap H):=⟨hKb,nsK hns,⟨mb,nsK hb,hbb⟩,let ⟨mc,h1,h2⟩:=hlim;⟨mc,nsK h1,h2⟩⟩;have e0:Env0 P w K mg (hidT s₁.heap H) callerA [] s₁ H:=⟨rfl,hM,fun b o e=>a9b e,Nat.le_of_eq (a5J _ _),trivial,fun b hb=>absurd (show b∈([]:List Addr) from hb) (by simp),hok,.of_eq hg⟩
  refine yK ((F _ hKb (nsK hns)).run callerA [] s₁ H ⟨[.ref a],[]⟩ [.ref a] [.ref a] _ _ hr e0 (hbind s₁ (.ref a)) (.cons rfl .nil) (hsp H hO hS)) fun r s' h=>?_;cases r with
  | error e=>exact(hCX H e s' h).elim
  | ok fl=>
   cases fl with
   | next=>exact False.elim h
   | brk=>exact False.elim h
   | cont=>exact False.elim h
   | ret u=>
    obtain⟨v,H',os,bare,un,hok',r',q⟩:=h;have q':v= .bl true:=q;subst q';obtain rfl:u=Value.bool true:=r';refine⟨rfl,OldK.of_keep fun b o e=>?_,os,bare⟩;cases q:H b with
    | none=>exact un.keep b o e q (by intro z;exact absurd (show b∈([]:List Addr) from z) (by simp)) (by simp)
    | some u=>
     rcases hO b with z|⟨ob,xs,z⟩
     ·rw[q] at z;cases z
     ·have z2:=un.frzs b ob _ z;obtain⟨e1,_⟩:=hok b _ z;obtain⟨e2,_⟩:=hok' b _ z2;rw[e] at e1;cases e1;exact e2
 cases hk:K.lookup a with
 | some o=>
  have e:=KX a o hk;rw[ha] at e;cases e;refine core (fun _=>none) (fun _=>.inl rfl) (.inr ⟨_,vs.toArray,_,hk,rfl,rfl,rfl,by rw[qI,lenV];exact hl,by simpa using rv⟩) (fun b u z=>by have z':(none:Option HO)=some u:=z;cases z') (fun b z=>absurd rfl z) fun z=>absurd rfl z
 | none=>
  refine core (fun b=>if b=a then some (.frz {cls:=.type "list",data:=.seq vs.toArray} (.lst (ns.map V.int))) else none) (fun b=>?_) (.inl (.inr ⟨{cls:=.type "list",data:=.seq vs.toArray},if_pos rfl⟩)) (fun b u z=>?_) (fun b z=>?_) fun _=>hk
  ·by_cases hb:b=a
   ·exact .inr ⟨_,_,if_pos hb⟩
   ·exact .inl (if_neg hb)
  ·by_cases hb:b=a
   ·have z':=(if_pos hb).symm.trans z;cases z';subst hb;exact⟨ha,by rw[zH];exact hl,vs,_,rv,ha⟩
   ·have z':=(if_neg hb).symm.trans z;cases z'
  ·by_cases hb:b=a
   ·exact hb
   ·exact absurd (if_neg hb) z
abbrev KOf {K:PySem.W.Frag} {h:Heap} (_:K.In h):PySem.W.Frag:=K
theorem a9V {l:PySem.W.OpenLaw}{n k:Nat}{q:Program}{loose:List Str}{XP:(Str->Option Value)->Heap->Prop}{YP:World->Heap->Prop}{d:DefRec}{K:Params->PySem.W.Frag}{CX:World->CXT}{sp:World->Sp}{x:Str}
  (hn:l.most=some n) (hn2:n<=sizeLine) (hdf:d.params.defaults=[]) (hr:Room k callerA)
  (hY:∀(w:World) (h:Heap),YP w h->(K w.params).In h)
  (F:∀(w:World) (mg:Str->Option Value) (fa:Addr) (h:Heap),(K w.params).In h->h.Ns mainGlobals mg->mg d.name=some (.ref fa)->
   ∃fd:FuncData,(∀(s:Shared) (u:Value),BindsTo s fd ⟨[u],[]⟩ [(x,u)])/\
    ∀base:Heap,(K w.params).In base->base.Ns mainGlobals mg->FnOk l.prog w (K w.params) mg base (CX w) k fa fd [x] (sp w))
  (hsp:∀(w:World) (H:Hp) (a:Addr) (ns:List Int),ns.length<=n->Only H->SqL (K w.params) H a (ns.map V.int)->sp w [.ref a] H (fun v _=>v= .bl true) fun _ _ _=>False)
  (hCX:∀(w:World) (H:Hp) (s:Shared) (e:Value) (s':Shared),CX w [] H s (fun _ _ _=>False) e s'->False):
  PySem.W.WalkO q loose XP YP l.row.toRowW d [] (fun f vs=>PySem.call f vs):=by
 refine Att.attach_call hn hdf fun w s₀ s₁ mg mb fa o pm cd doc a vs ns G Y ho hd hcd hmg hobj hints hlen hg=>?_;have KX:=hY w _ Y;obtain⟨fd,hb,hF⟩:=F w mg fa _ KX G.T.g hmg;exact a8b KX G.T.g G.T.b G.T.builtins G.T.nolimit hg hobj hints (zX hlen hn2) hr hF hb (fun H hO hS=>hsp w H a ns hlen hO hS) fun H e s'=>hCX w H s₁ e s'
def defArgs (s:Stmt):Arguments:=match s with
 | .FunctionDef _ a _ _ _ _ _ _ _ _=>a
 | _=>{posonlyargs:=[],args:=[],vararg:=none,kwonlyargs:=[],kw_defaults:=[],kwarg:=none,defaults:=[]}
def defBody (s:Stmt):List Stmt:=match s with
 | .FunctionDef _ _ b _ _ _ _ _ _ _=>b
 | _=>[]
def defScope (s:Stmt):Scope:=match s with
 | .FunctionDef _ _ _ _ _ _ sc _ _ _=>sc
 | _=>{kind:=.function,names:=[],isGenerator:=false,isCoroutine:=false}
abbrev CX0:CXT:=fun _ _ _ _ _ _=>False
abbrev E0:XK:=fun _ _ _=>False
theorem pass0 {X:Cx}:Passes CX0 X E0:=fun _ _ _ _ _ _ _ h=>h.elim
structure Fun (K:PySem.W.Frag) (x qual:Str) (st:Stmt) (f:Addr) (fd:FuncData):Prop where
 ex:∃(oc:Value) (od:Option Addr) (kV doc pm:Value) (an:Option Addr) (cdv ct:Value) (osl:Array (Option Value)),
  fd=PySem.W.fnOf x qual (defArgs st) (defBody st) (defScope st) .none kV doc pm an cdv ct/\K.lookup f=some ⟨oc,od,.func fd,osl⟩/\PySem.W.codeIn K cdv qual=true
 kp:PySem.W.keepIn K (.ref f)=true
section
variable {P:Program}{w:World}{K:PySem.W.Frag}{mg:Str->Option Value}{base:Heap}
theorem Fun.ok {x qual:Str}{st:Stmt}{f:Addr}{fd:FuncData}{N ps:List Str}{k:Nat}{sp:Sp}(F:Fun K x qual st f fd)(S:FnScope N ps (defScope st))(len:∀vs H Q E,sp vs H Q E->vs.length=ps.length)
  (hbody:∀(cdv:Value) (A:Around) (outer:List Env) (s:Shared) (H:Hp) (vs:List V) (Q:VK) (E:XK),Room k (A.deeper (envOfC qual (defScope st) s.heap.objs.size f cdv))->sp vs H Q E->
   ∃t,PSs (cxOf CX0 P w K mg base N qual (defScope st) f cdv A outer s H E).nox (defBody st) t/\t {nx:=fun _ H'=>Q .non H',rt:=Q} (start N vs) H):FnOk P w K mg base CX0 (k+1) f fd ps sp:=by
 obtain⟨oc,od,kV,doc,pm,an,cdv,ct,osl,rfl,lk,hcd⟩:=F.ex;refine b0k lk hcd S len fun A outer s H vs Q E hr hsp=>?_;obtain⟨t,h,q⟩:=hbody cdv A outer s H vs Q E hr hsp;exact⟨t,h.nox,q⟩
theorem Fun.binds {x qual:Str}{st:Stmt}{f:Addr}{fd:FuncData}{ps:List Str}(F:Fun K x qual st f fd)
  (h:∀(kV doc pm:Value) (an:Option Addr) (cdv ct:Value) (us:List Value),us.length=ps.length->bindArgs (PySem.W.fnOf x qual (defArgs st) (defBody st) (defScope st) .none kV doc pm an cdv ct) ⟨us,[]⟩=pure (ps.zip us)):Binds K fd ps []:=by
 obtain⟨oc,od,kV,doc,pm,an,cdv,ct,osl,rfl,lk,hcd⟩:=F.ex;exact .all (h kV doc pm an cdv ct)
theorem a8u {x qual:Str}{st:Stmt}{f:Addr}{oc:Value}{od an:Option Addr}{osl:Array (Option Value)}{kV doc pm cdv ct:Value}(l:K.lookup f=some ⟨oc,od,.func (PySem.W.fnOf x qual (defArgs st) (defBody st) (defScope st) .none kV doc pm an cdv ct),osl⟩)
  (c:PySem.W.codeIn K cdv qual=true) (k:PySem.W.keepIn K (.ref f)=true):Fun K x qual st f (PySem.W.fnOf x qual (defArgs st) (defBody st) (defScope st) .none kV doc pm an cdv ct):=⟨⟨oc,od,kV,doc,pm,an,cdv,ct,osl,rfl,l,c⟩,k⟩
end
theorem a4Y {A:Around}{k:Nat}(hr:Room k A):A.units+1<cLine:=Nat.lt_of_le_of_lt (Nat.add_le_add_left (by decide:1<=64) _) hr.units
def Same (H H':Hp):Prop:=∀b o,H b=some o->H' b=some o
theorem Same.refl (H:Hp):Same H H:=fun _ _ h=>h
theorem Same.trans {H H1 H2:Hp}(a:Same H H1)(b:Same H1 H2):Same H H2:=fun c o h=>b c o (a c o h)
section
variable {prog:Program}{w:World}{K:Type} [DecidableEq K] {knd:KeyKind prog w K}{A:Around}{E:Value->Shared->Prop}{s:Shared}
theorem a0z {kvs:List (K×Value)}{k:K}{v:Value}(h:(kvs.any fun kv=>decide (kv.1=k))=true):(stored kvs k v).length=kvs.length:=by
 unfold stored;rw[if_pos h,zH]
theorem a01 {kvs:List (K×Value)}{k:K}{v:Value}(h:¬(kvs.any fun kv=>decide (kv.1=k))=true):(stored kvs k v).length=kvs.length+1:=by
 unfold stored;rw[if_neg h,qK];rfl
theorem a33 {d:Addr}{kvs:List (K×Value)}{k:K}{key v:Value}{Q:Unit->Shared->Prop}(hkey:knd.is k key=true)(hm:s.heap.DictAt knd d kvs kvs.length)(hsz:kvs.length<=sizeLine)
  (hQ:∀h',h'.DictAt knd d (stored kvs k v) (stored kvs k v).length->Heap.SameBut d s.heap h'->Q () {s with heap:=h',toks:=s.toks+1}):wpAny (model prog w) A (dictSet d key v) Q E s:=by
 obtain⟨o,es,ho,hc,hd,hk,hp,hn⟩:=hm;have pl:=hp.length;have hes:es.size<=sizeLine:=by rw[zW] at pl;walk_at "o"
 unfold dictSet
 try with_reducible refine qE ?_
 refine zA (knd.pyHash hkey ?_);unfold dictSetHashed
 try with_reducible refine qE ?_
 refine zA (wpAny_dictFind_of (s:={s with toks:=s.toks+1}) hkey ho hd hk ?_)
 have hidx:(es.findIdx? fun e=>knd.is k e.key)=kvs.findIdx? fun kv=>decide (kv.1=k):=by
  rw[<-hp.findIdx k];obtain⟨l⟩:=es;simp
 cases hi:es.findIdx? fun e=>knd.is k e.key with
 | some i=>
  have old:=any_of_findIdx_some (hidx▸hi);have el:=a0z (v:=v) old;refine zA (yC (zA (wpAny_updateDict (s:={s with toks:=s.toks+1}) ho hd (wpAny_point (hQ _ ⟨_,_,jL _ ho (Obj.isFreed_of_dict (Obj.data_mapDict hd _)),hc.mapDict _,by rw[el];exact Obj.data_mapDict hd _,hk.modify _ _,?_,?_⟩ (qF ..))))))
  ·rw[stored,if_pos old];have hl:(es.toList.findIdx? fun e=>knd.is k e.key)=some i:=by rw[<-hi];obtain⟨l⟩:=es;simp
   have:=hp.modify hn hl v
   obtain⟨l⟩:=es;simpa using this
  ·rw[stored,if_pos old,keys_map_store];exact hn
 | none=>
  have hnot:k∉kvs.map (·.1):=not_mem_of_findIdx_none (hidx▸hi);have hany:¬(kvs.any fun kv=>decide (kv.1=k))=true:=by
   rw[List.any_eq_true];rintro⟨kv,hkv,he⟩;exact hnot (qG.mpr ⟨kv,hkv,vA he⟩)
  have el:=a01 (v:=v) hany;refine zA (yC (wpAny_updateDictKeys (hz:=hes) (s:={s with toks:=s.toks+1}) ho hd (hQ _ ⟨_,_,jL _ ho (Obj.isFreed_of_dict (Obj.data_mapDictKeys hd _)),hc.mapDictKeys _,by rw[el];exact Obj.data_mapDictKeys hd _,hk.push hkey _,?_,?_⟩ (qF ..))))
  ·rw[stored,if_neg hany]
   have:=hp.append hkey (knd.hash k) v
   obtain⟨l⟩:=es;simpa using this
  ·rw[stored,if_neg hany,yD,nodup_append];exact⟨hn,by simp,fun a ha b hb e=>by simp only[zI,xN,zS] at hb;subst hb;exact hnot (e▸ha)⟩
theorem a3m {d:Addr}{kvs:List (K×Value)}{k:K}{key v:Value}{Q:Unit->Shared->Prop}(hkey:knd.is k key=true)(hm:s.heap.DictAt knd d kvs kvs.length)(hsz:kvs.length<=sizeLine)
  (hQ:∀h',h'.DictAt knd d (stored kvs k v) (stored kvs k v).length->Heap.SameBut d s.heap h'->Q () {s with heap:=h',toks:=s.toks+1}):wpAny (model prog w) A (setItem (.ref d) key v) Q E s:=by
 have ty:=hm.dictOf.typeIs;unfold setItem
 try with_reducible refine qE ?_
 refine zA (wpAny_sequenceKey ty (by decide) ?_)
 refine zA (qJ (name:=Str.ofString "__setitem__") ty slot_dict_setitem (qA slot_dict_setitem ty entry_dict_setitem ?_ (args_dict_setitem _ _ _)));show wpAny _ _ (Builtin.Dict.notOrdered "__setitem__" ⟨[.ref d,key,v],[]⟩ >>=_) _ _ s;refine zA (wpAny_notOrdered_dict ty ?_);show wpAny _ _ (dictSet d key v >>=_) _ _ s;exact zA (a33 hkey hm hsz fun h' hm' hs'=>zC ⟨.none,rfl,zC (hQ h' hm' hs')⟩)
end
section
variable {prog:Program}{w:World}{K:Type} [DecidableEq K] {knd:HeapKind prog w K}{A:Around}{E:Value->Shared->Prop}{s:Shared}
def DictLnH (knd:HeapKind prog w K) (h:Heap) (d:Addr) (xs:List (K×Addr×Value)):Prop:=∃o es,h.get? d=some o/\o.ExactDict/\o.data= .dict es xs.length/\es.toList=xs.map (entryOfKey knd)/\(∀x∈xs,knd.is h x.1 x.2.1)/\(xs.map (·.1)).Nodup
theorem DictLnH.of {h:Heap}{d:Addr}{xs:List (K×Addr×Value)}(x:DictLnH knd h d xs):h.DictOfH knd d xs:=let ⟨o,es,a,b,c,e⟩:=x;⟨o,es,_,a,b,c,e⟩
theorem a5H {d a:Addr}{xs:List (K×Addr×Value)}{k:K}{v:Value}{Q:Unit->Shared->Prop}(hu:knd.room A)(hkey:knd.is s.heap k a)(hm:DictLnH knd s.heap d xs)(hsz:xs.length<=sizeLine)
  (hQ:∀h',DictLnH knd h' d (storedH xs k a v)->Heap.SameBut d s.heap h'->Q () {s with heap:=h',toks:=s.toks+knd.draws k}):wpAny (model prog w) A (dictSet d (.ref a) v) Q E s:=by
 obtain⟨o,es,ho,hc,hd,he,his,hn⟩:=hm;have sz:=size_of_entries he;unfold dictSet
 try with_reducible refine qE ?_
 refine zA (knd.pyHash hu hkey ?_);unfold dictSetHashed
 try with_reducible refine qE ?_
 refine zA (wpAny_dictFind_heap (s:={s with toks:=s.toks+knd.draws k}) hu hkey ho hd he his hn ?_ ?_)
 ·intro hno;have hnot:k∉xs.map (·.1):=not_mem_keys_of_get hno;have en:=storedH_new (atKey_none_of_get hno) a v;refine zA (yC (wpAny_updateDictKeys (hz:=by walk_at "o") (s:={s with toks:=s.toks+knd.draws k}) ho hd (hQ _ ⟨_,_,jL _ ho (Obj.isFreed_of_dict (Obj.data_mapDictKeys hd _)),hc.mapDictKeys _,by rw[en,qK];exact Obj.data_mapDictKeys hd _,?_,?_,?_⟩ (qF ..))))
  ·rw[en];simp[he,entryOfKey]
  ·rw[en];intro x hx;rcases jB.mp hx with hx|hx
   ·exact knd.keeps (his x hx) ho hd (qF ..)
   ·rw[zS.mp hx];exact knd.keeps hkey ho hd (qF ..)
  ·rw[en,yD,nodup_append];exact⟨hn,by simp,fun x hx y hy e=>by simp only[zI,xN,zS] at hy;subst hy;exact hnot (e▸hx)⟩
 ·intro j p hj;have eo:=storedH_old (atKey_of_get hn hj) a v;refine zA (yC (zA (wpAny_updateDict (s:={s with toks:=s.toks+knd.draws k}) ho hd (wpAny_point (hQ _ ⟨_,_,jL _ ho (Obj.isFreed_of_dict (Obj.data_mapDict hd _)),hc.mapDict _,by rw[eo,zH];exact Obj.data_mapDict hd _,?_,?_,?_⟩ (qF ..))))))
  ·rw[eo]
   have:=modify_map_putAt (entryOfKey knd) (fun e:DictEntry=>{e with val:=v}) k v (fun _ _=>rfl) hn hj
   rw[<-he] at this;obtain⟨l⟩:=es;simpa using this
  ·rw[eo];intro x hx;obtain⟨y,hy,rfl⟩:=qG.mp hx;unfold putAt
   split<;>exact knd.keeps (his y hy) ho hd (qF ..)
  ·rw[eo,keys_map_putAt];exact hn
theorem a3U {d a:Addr}{xs:List (K×Addr×Value)}{k:K}{v:Value}{Q:Unit->Shared->Prop}(hu:knd.room A.in1)(hkey:knd.is s.heap k a)(hm:DictLnH knd s.heap d xs)(hsz:xs.length<=sizeLine)
  (hQ:∀h',DictLnH knd h' d (storedH xs k a v)->Heap.SameBut d s.heap h'->Q () {s with heap:=h',toks:=s.toks+knd.draws k}):wpAny (model prog w) A (setItem (.ref d) (.ref a) v) Q E s:=by
 have ty:=hm.of.typeIs;unfold setItem
 try with_reducible refine qE ?_
 refine zA (wpAny_sequenceKey ty (by decide) ?_)
 refine zA (qJ (name:=Str.ofString "__setitem__") ty slot_dict_setitem (qA slot_dict_setitem ty entry_dict_setitem ?_ (args_dict_setitem _ _ _)));show wpAny _ _ (Builtin.Dict.notOrdered "__setitem__" ⟨[.ref d,.ref a,v],[]⟩ >>=_) _ _ s;refine zA (wpAny_notOrdered_dict ty ?_);show wpAny _ _ (dictSet d (.ref a) v >>=_) _ _ s;exact zA (a5H hu hkey hm hsz fun h' hm' hs'=>zC ⟨.none,rfl,zC (hQ h' hm' hs')⟩)
end
section
variable {κ:Type} [DecidableEq κ]
def valV (kvs:List (κ×V)) (k:κ):Option V:=(kvs.find? fun kv=>decide (kv.1=k)).map (·.2)
def putK (kvs:List (κ×V)) (k:κ) (v:V):List (κ×V):=
 if(kvs.any fun kv=>decide (kv.1=k))=true then kvs.map (fun kv=>if kv.1=k then(kv.1,v) else kv) else kvs++[(k,v)]
theorem U2 {p:κ×V}{r:List (κ×V)}{k:κ}(e:p.1=k):valV (p::r) k=some p.2:=by simp[valV,find?_cons,e]
theorem M6 {p:κ×V}{r:List (κ×V)}{k:κ}(e:¬p.1=k):valV (p::r) k=valV r k:=by simp[valV,find?_cons,e]
theorem a3h (k:κ):∀kvs:List (κ×V),(kvs.any fun kv=>decide (kv.1=k))=(valV kvs k).isSome
 | []=>rfl
 | p::r=>by
  rw[any_cons]
  by_cases e:p.1=k
  ·simp only[U2 e,zP e,Bool.true_or,Option.isSome_some]
  ·rw[M6 e,zU e,Bool.false_or];exact a3h k r
theorem a0f (kvs:List (κ×V))(k:κ)(v:V):(putK kvs k v).length<=kvs.length+1:=by
 unfold putK
 split
 ·rw[zH];walk_at "o"
 ·rw[qK,zV,length_nil];walk_at "o"
theorem RelO.isSome_eq {o:Option V}{u:Option Value}(r:RelO o u):o.isSome=u.isSome:=by
 cases o with
 | none=>cases u with
  | none=>rfl
  | some _=>exact(show False from r).elim
 | some _=>cases u with
  | none=>exact(show False from r).elim
  | some _=>rfl
theorem RelO.getD {o:Option V}{u:Option Value}{d:V}{d':Value}(r:RelO o u)(rd:RelV d d'):RelV (o.getD d) (u.getD d'):=by
 cases o with
 | none=>cases u with
  | none=>exact rd
  | some _=>exact(show False from r).elim
 | some _=>cases u with
  | none=>exact(show False from r).elim
  | some _=>exact r
theorem KV.val {kvs:List (κ×V)}{vs:List (κ×Value)}(r:KV kvs vs)(k:κ):RelO (valV kvs k) (valueAt vs k):=by
 unfold KV at r
 induction r with
 | nil=>exact True.intro
 | @cons p q ps qs h t ih=>
  obtain⟨h1,h2⟩:=h
  by_cases e:p.1=k
  ·have e':q.1=k:=h1.symm.trans e;have b:valueAt (q::qs) k=some q.2:=by simp[valueAt,find?_cons,e']
   rw[U2 e,b];exact h2
  ·have e':¬q.1=k:=fun z=>e (h1.trans z);have b:valueAt (q::qs) k=valueAt qs k:=by simp[valueAt,find?_cons,e']
   rw[M6 e,b];exact ih
theorem KV.any {kvs:List (κ×V)}{vs:List (κ×Value)}(r:KV kvs vs)(k:κ):(kvs.any fun kv=>decide (kv.1=k))=vs.any fun kv=>decide (kv.1=k):=by
 unfold KV at r
 induction r with
 | nil=>rfl
 | cons h t ih=>rw[any_cons,any_cons,ih,h.1]
theorem KV.repl {kvs:List (κ×V)}{vs:List (κ×Value)}(r:KV kvs vs)(k:κ){y:V}{u:Value}(ry:RelV y u):
  KV (kvs.map fun kv=>if kv.1=k then(kv.1,y) else kv) (vs.map fun kv=>if kv.1=k then(kv.1,u) else kv):=by
 unfold KV at r ⊢
 induction r with
 | nil=>exact .nil
 | @cons p q ps qs h t ih=>
  rw[zI,zI];refine .cons ?_ ih;obtain⟨h1,h2⟩:=h
  by_cases e:p.1=k
  ·rw[if_pos e,if_pos (h1.symm.trans e)];exact⟨h1,ry⟩
  ·rw[if_neg e,if_neg (fun z=>e (h1.trans z))];exact⟨h1,h2⟩
theorem KV.put {kvs:List (κ×V)}{vs:List (κ×Value)}(r:KV kvs vs)(k:κ){y:V}{u:Value}(ry:RelV y u):KV (putK kvs k y) (stored vs k u):=by
 unfold putK stored;rw[r.any k]
 by_cases e:(vs.any fun kv=>decide (kv.1=k))=true
 ·rw[if_pos e,if_pos e];exact r.repl k ry
 ·rw[if_neg e,if_neg e];exact Paired.snoc r ⟨rfl,ry⟩
theorem KV.length {kvs:List (κ×V)}{vs:List (κ×Value)}(r:KV kvs vs):kvs.length=vs.length:=Paired.length r
end
theorem a3y {P:Program}{w:World}{k:Key}{u:Value}(r:RelV (kV k) u):(mixKind P w).is k u=true:=by
 cases k with
 | inl i=>obtain⟨t,e⟩:=(show ∃t,u=Value.int i t from r);subst e;exact a2W P w i t
 | inr x=>obtain⟨t,e⟩:=(show ∃t,u=Value.str x t from r);subst e;exact a2V P w x t
theorem O9 {P:Program}{w:World}:∀{ks:List Key} {us:List Value},Vals (ks.map kV) us->ItemsAre (mixKind P w) ks us
 | [],_,r=>by rw[xN] at r;cases r;exact .nil
 | k::ks,_,r=>by
  rw[zI] at r;cases r with
  | cons h t=>exact .cons (a3y h) (O9 t)
abbrev KT (K:PySem.W.Frag) (H:Hp):List (List Key×V)->List (List Key×Addr×Value)->Prop:=Paired fun p q=>p.1=q.1/\SqT K H q.2.1 (p.1.map kV)/\RelV p.2 q.2.2
theorem KT.val {K:PySem.W.Frag}{H:Hp}{kvs:List (List Key×V)}{xs:List (List Key×Addr×Value)}(r:KT K H kvs xs)(k:List Key):RelO (valV kvs k) ((atKey xs k).map (·.2)):=by
 induction r with
 | nil=>exact True.intro
 | @cons p q ps qs h t ih=>
  obtain⟨h1,_,h2⟩:=h
  by_cases e:p.1=k
  ·have e':q.1=k:=h1.symm.trans e;have b:atKey (q::qs) k=some q.2:=by simp[atKey,find?_cons,e']
   rw[U2 e,b];exact h2
  ·have e':¬q.1=k:=fun z=>e (h1.trans z);have b:atKey (q::qs) k=atKey qs k:=by simp[atKey,find?_cons,e']
   rw[M6 e,b];exact ih
theorem KT.repl {K:PySem.W.Frag}{H:Hp}{kvs:List (List Key×V)}{xs:List (List Key×Addr×Value)}(r:KT K H kvs xs)(k:List Key){y:V}{u:Value}(ry:RelV y u):
  KT K H (kvs.map fun kv=>if kv.1=k then(kv.1,y) else kv) (xs.map (putAt k u)):=by
 induction r with
 | nil=>exact .nil
 | @cons p q ps qs h t ih=>
  rw[zI,zI];refine .cons ?_ ih;obtain⟨h1,h2,h3⟩:=h;unfold putAt
  by_cases e:p.1=k
  ·rw[if_pos e,if_pos (h1.symm.trans e)];exact⟨h1,h2,ry⟩
  ·rw[if_neg e,if_neg (fun z=>e (h1.trans z))];exact⟨h1,h2,h3⟩
theorem KT.put {K:PySem.W.Frag}{H:Hp}{kvs:List (List Key×V)}{xs:List (List Key×Addr×Value)}(r:KT K H kvs xs)(k:List Key){b:Addr}{y:V}{u:Value}(hb:SqT K H b (k.map kV))(ry:RelV y u):
  KT K H (putK kvs k y) (storedH xs k b u):=by
 have e:(kvs.any fun kv=>decide (kv.1=k))=(atKey xs k).isSome:=by
  rw[a3h,(r.val k).isSome_eq,isSome_map]
 unfold putK storedH;rw[e]
 by_cases q:(atKey xs k).isSome=true
 ·rw[if_pos q,if_pos q];exact r.repl k ry
 ·rw[if_neg q,if_neg q];exact Paired.snoc r ⟨rfl,hb,ry⟩
theorem KT.keeps {K:PySem.W.Frag}{H H':Hp}{kvs:List (List Key×V)}{xs:List (List Key×Addr×Value)}(r:KT K H kvs xs)(ht:∀b ys,Rd H b (.tup ys)->Rd H' b (.tup ys)):KT K H' kvs xs:=
 Paired.mapP r fun _ _ z=>⟨z.1,z.2.1.imp (ht _ _) id,z.2.2⟩
section
variable {K:PySem.W.Frag}{P:Program}{w:World}{H:Hp}{h:Heap}{a:Addr}
theorem a7A {u:HO}(ok:HOk K P w H h)(e:Rd H a u):ObjOk K P w H h a u:=e.ok ok
theorem dk_rd {kvs:List (Key×V)}(ok:HOk K P w H h)(e:Rd H a (.dK kvs)):kvs.length<=sizeLine/\(a==sysModules)=false/\∃vs,KV kvs vs/\h.DictOf (mixKind P w) a vs:=
 let ⟨z,y,vs,r,d⟩:=(show ObjOk K P w H h a (.dK kvs) from a7A ok e);⟨z,y,vs,r,d.dictOf⟩
theorem dk_at {kvs:List (Key×V)}(ok:HOk K P w H h)(e:H a=some (.dK kvs)):kvs.length<=sizeLine/\(a==sysModules)=false/\∃vs,KV kvs vs/\h.DictAt (mixKind P w) a vs kvs.length:=a7A ok (.inl e)
theorem a70 {kvs:List (Key×V)}(ok:HOk K P w H h)(e:H a=some (.dK kvs)):kvs.length<=sizeLine/\(a==sysModules)=false/\∃vs,KV kvs vs/\h.DictOf (mixKind P w) a vs:=dk_rd ok (.inl e)
theorem a5q {ks:List Key}(kin:K.In h)(ok:HOk K P w H h)(e:SqT K H a (ks.map kV)):(tupleKind (mixKind P w)).is h ks a:=by
 rcases e with e|⟨o,its,n,hk,hc,_,hs,_,r⟩
 ·obtain⟨_,its,r,o,h1,h2,⟨n,h3⟩,_⟩:=(show ObjOk K P w H h a (.tup (ks.map kV)) from e.ok ok);exact⟨o,its.toArray,n,h1,h2,h3,by simpa using O9 r⟩
 ·exact⟨o,its,n,kin a o hk,hc,hs,O9 r⟩
theorem a7p {kvs:List (List Key×V)}(kin:K.In h)(ok:HOk K P w H h)(e:Rd H a (.dT kvs)):kvs.length<=sizeLine/\(a==sysModules)=false/\
  ∃xs,KT K H kvs xs/\DictLnH (tupleKind (mixKind P w)) h a xs:=by
 obtain⟨z,y,xs,r,o,es,h1,h2,h3,h4,h5⟩:=(show ObjOk K P w H h a (.dT kvs) from a7A ok e);refine⟨z,y,xs,r,o,es,h1,h2,by rw[<-Paired.length r];exact h3,h4,fun x hx=>?_,h5⟩
 have all:∀{l:List (List Key×V)} {m:List (List Key×Addr×Value)},KT K H l m->∀x∈m,(tupleKind (mixKind P w)).is h x.1 x.2.1:=by
  intro l m q
  induction q with
  | nil=>intro x hx;exact nomatch hx
  | @cons p q ps qs hq t ih=>
   intro x hx;rcases zN.mp hx with e|hx
   ·subst e;exact a5q kin ok (by rw[<-hq.1];exact hq.2.1)
   ·exact ih x hx
 exact all r x hx
theorem dt_rd {kvs:List (List Key×V)}(kin:K.In h)(ok:HOk K P w H h)(e:Rd H a (.dT kvs)):kvs.length<=sizeLine/\(a==sysModules)=false/\
  ∃xs,KT K H kvs xs/\h.DictOfH (tupleKind (mixKind P w)) a xs:=let ⟨z,y,xs,r,d⟩:=a7p kin ok e;⟨z,y,xs,r,d.of⟩
theorem a7i {kvs:List (List Key×V)}(kin:K.In h)(ok:HOk K P w H h)(e:H a=some (.dT kvs)):kvs.length<=sizeLine/\(a==sysModules)=false/\
  ∃xs,KT K H kvs xs/\h.DictOfH (tupleKind (mixKind P w)) a xs:=dt_rd kin ok (.inl e)
end
def DPut (K:PySem.W.Frag) (H:Hp) (a:Addr) (y v:V) (H':Hp):Prop:=
 (∃kvs k,H a=some (.dK kvs)/\y=kV k/\kvs.length<sizeLine/\H'=upd H a (.dK (putK kvs k v)))\/
 ∃kvs k b,H a=some (.dT kvs)/\y= .ref b/\SqT K H b (k.map kV)/\kvs.length<sizeLine/\H'=upd H a (.dT (putK kvs k v))
theorem DPut.t {K:PySem.W.Frag}{H:Hp}{a b:Addr}{kvs:List (List Key×V)}{k:List Key}{v:V}(e:H a=some (.dT kvs))(eb:SqT K H b (k.map kV))(hl:kvs.length<sizeLine):
  DPut K H a (.ref b) v (upd H a (.dT (putK kvs k v))):=.inr ⟨kvs,k,b,e,rfl,eb,hl,rfl⟩
section
variable {X:Cx}{pins:List (Addr×Obj)}{σ:St}{H:Hp}{s:Shared}{a:Addr}{y v:V}{u r:Value}{o:Option V}{A:Around}{E:Value->Shared->Prop}
theorem Inv.big (I:Inv X pins σ H s):sysModules<s.heap.objs.size:=by
 have h:mainGlobals<s.heap.objs.size:=(I.mod.glob.keeps I.bk).lt;exact Nat.lt_trans (by decide) h
theorem a4O {h':Heap}{t':Nat}{ob:HO}(I:Inv X pins σ H s)(mu:Mut (H a))(hs:Heap.SameBut a s.heap h')(he:∃q,h'.get? a=some q)(new:ObjOk X.K X.prog X.w (upd H a ob) h' a ob):
  Inv X pins σ (upd H a ob) {s with heap:=h',toks:=t'}:=
 I.write (x:=a) (e:=a) mu (.inl rfl) (fun b q hb z=>(hs.2 b hb).trans z) he new
theorem b1w {K:PySem.W.Frag}{P:Program}{w:World}{H':Hp}{h':Heap}{kvs:List (Key×V)}{vs:List (Key×Value)}(z:kvs.length<=sizeLine)(hd:(a==sysModules)=false)(rel:KV kvs vs)(dd:h'.DictAt (mixKind P w) a vs vs.length):
  ObjOk K P w H' h' a (.dK kvs):=⟨z,hd,vs,rel,by rw[rel.length];exact dd⟩
theorem a52 {H':Hp}{Q:Unit->Shared->Prop}(hu:A.units+1<cLine)(I:Inv X pins σ H s)(g:DPut X.K H a y v H')(ry:RelV y u)(rv:RelV v r)(h:∀s',Inv X pins σ H' s'->Q () s'):
  wpAny (model X.prog X.w) A (setItem (.ref a) u r) Q E s:=by
 rcases g with ⟨kvs,k,e,ey,l,eH⟩|⟨kvs,k,b,e,ey,eb,l,eH⟩
 ·subst ey eH;obtain⟨z,hd,vs,rel,dd⟩:=dk_at I.hok e;rw[rel.length] at dd;have hz:vs.length<=sizeLine:=by rw[<-rel.length];exact z
  have hl:(putK kvs k v).length<=sizeLine:=by have:=a0f kvs k v;walk_at "o"
  refine a3m (a3y ry) dd hz fun h' dd' hs=>h _ ?_;have he:∃q,h'.get? a=some q:=let ⟨q,_,hq,_⟩:=dd';⟨q,hq⟩;exact a4O I (by rw[e];exact True.intro) hs he (b1w hl hd (rel.put k rv) dd')
 ·subst ey eH;cases(show u=Value.ref b from ry);obtain⟨z,hd,xs,rel,dd⟩:=a7p I.kIn I.hok (.inl e);have hz:xs.length<=sizeLine:=by rw[<-Paired.length rel];exact z
  have hl:(putK kvs k v).length<=sizeLine:=by have:=a0f kvs k v;walk_at "o"
  refine a3U (tupleKind_room_in1 hu) (a5q I.kIn I.hok eb) dd hz fun h' dd' hs=>h _ ?_;obtain⟨q,es,hq,h2,h3,h4,_,h5⟩:=dd';refine a4O I (by rw[e];exact True.intro) hs ⟨q,hq⟩ ⟨hl,hd,_,(rel.put k eb rv).keeps fun c ys ec=>?_,q,es,hq,h2,by rw[Paired.length (rel.put k eb rv)];exact h3,h4,h5⟩
  exact ec.upd fun z=>by subst z;rcases ec with q|⟨_,q⟩<;>rw[e] at q<;>cases q
end
def sDPut (K:PySem.W.Frag) (td ty tv:TE):TS:=fun D σ H=>tv σ H fun v H1=>td σ H1 fun x H2=>ty σ H2 fun y H3=>∃a H4,x= .ref a/\DPut K H3 a y v H4/\D.nx σ H4
section
variable {X:Cx}{o i value:Expr}{pos pos':Pos}{td ty tv:TE}
theorem a89 (hu:X.A.units+1<cLine)(ho:PE X o td)(hi:PE X i ty)(hv:PE X value tv)(hs:swapsWith value (some (.Subscript o i pos')) pos.line X.env=pure false):
  PS X (.Assign [.Subscript o i pos'] value pos) (sDPut X.K td ty tv):=by
 intro pins s σ H D I h;refine wpAny_Assign_Subscript (thn (hv pins s σ H _ I h) fun r s1 ⟨v,H1,I1,rv,q1⟩=>thn (ho pins s1 σ H1 _ I1 q1) fun u s2 ⟨x,H2,I2,rx,q2⟩=>thn (hi pins s2 σ H2 _ I2 q2) fun iv s3 ⟨y,H3,I3,ry,a,H4,ex,g,q3⟩=>?_) hs;subst ex;obtain rfl:u=Value.ref a:=rx;exact a52 hu I3 g ry rv fun s4 I4=>⟨σ,H4,I4,q3⟩
end
theorem a8A {K:PySem.W.Frag}{P:Program}{w:World}{H:Hp}(h:Heap)(hb:sysModules<h.objs.size):ObjOk K P w H (h.push {cls:=.type "dict",data:=.dict #[]}) h.objs.size (.dK []):=
 ⟨jG _,beq_eq_false_iff_ne.mpr (qM (zG hb)),[],.nil,_, #[],zK _ rfl,⟨rfl,rfl,rfl⟩,rfl,fun _ he=>by simp at he,Pairs.nil,nodup_nil⟩
theorem a6W {K:PySem.W.Frag}{P:Program}{w:World}{H:Hp}(h:Heap)(hb:sysModules<h.objs.size):ObjOk K P w H (h.push {cls:=.type "dict",data:=.dict #[]}) h.objs.size (.dT []):=
 ⟨jG _,beq_eq_false_iff_ne.mpr (qM (zG hb)),[],.nil,_, #[],zK _ rfl,⟨rfl,rfl,rfl⟩,rfl,rfl,nodup_nil⟩
def tDNewK:TE:=fun _ H Q=>∀p,H p=none->Q (.ref p) (upd H p (.dK []))
def tDNewT:TE:=fun _ H Q=>∀p,H p=none->Q (.ref p) (upd H p (.dT []))
section
variable {X:Cx}{pos:Pos}
theorem a7d:PE X (.Dict [] [] pos) tDNewK:=fun pins s σ H Q I h=>
 wpAny_Dict_empty ⟨.ref s.heap.objs.size,_,I.laid (a:=s.heap.objs.size) (o:=.dK []) (t':=s.toks) (fun _ _ q=>zD _ q) (zE _) (a8A s.heap I.big),rfl,h _ (I.hok.fresh (zE _))⟩
theorem a7f:PE X (.Dict [] [] pos) tDNewT:=fun pins s σ H Q I h=>
 wpAny_Dict_empty ⟨.ref s.heap.objs.size,_,I.laid (a:=s.heap.objs.size) (o:=.dT []) (t':=s.toks) (fun _ _ q=>zD _ q) (zE _) (a6W s.heap I.big),rfl,h _ (I.hok.fresh (zE _))⟩
end
end L2
set_option maxHeartbeats 1000000
namespace Z
open PySem PySem.Spec PyProof.Rows L2
theorem obs {α β:Type}{o:Option α}{k:α->Option β}{y:β}(h:o.bind k=some y):∃a,o=some a/\k a=some y:=Option.bind_eq_some_iff.mp h
theorem oms {α β:Type}{o:Option α}{k:α->β}{y:β}(h:o.map k=some y):∃a,o=some a/\k a=y:=Option.map_eq_some_iff.mp h
set_option genInjectivity true in
inductive D where
 | non|bl (b:Bool)|int (i:Int)|str (x:Str)|tup (xs:List D)|lst (xs:List D)|dT (ks:List (List Key)) (xs:List D)|dK (ks:List Key) (xs:List D)|exn (C:Addr)|fn (f:Addr)
set_option genInjectivity true in
inductive W where
 | v (d:D)|o (d:D)|l (d:D)|r (i:Nat)
abbrev Ev:=List (Option W)
abbrev Av:=Addr->Prop
def ExcAt (a C:Addr) (h:Heap):Prop:=∃o vs,h.get? a=some o/\o.cls= .ref C/\o.data= .fields vs
def Mu:HO->Prop
 | .lst _=>True
 | .dT _=>True
 | .dK _=>True
 | _=>False
abbrev Emp:Hp:=fun _=>none
mutual
def Den (K:PySem.W.Frag) (A:Av) (H:Hp):D->V->Prop
 | .non,v=>v= .non
 | .bl b,v=>v= .bl b
 | .int i,v=>v= .int i
 | .str x,v=>v= .str x
 | .tup xs,v=>∃a vs,v= .ref a/\SqT K H a vs/\DenL K A H xs vs
 | .lst xs,v=>∃a vs,v= .ref a/\((H a=some (.lst vs)/\¬A a)\/(∃o,H a=some (.frz o (.lst vs)))\/SqL K Emp a vs)/\DenL K A H xs vs
 | .dT ks xs,v=>∃a vs,v= .ref a/\(H a=some (.dT (ks.zip vs))/\¬A a)/\ks.length=xs.length/\DenL K A H xs vs
 | .dK ks xs,v=>∃a vs,v= .ref a/\(H a=some (.dK (ks.zip vs))/\¬A a)/\ks.length=xs.length/\DenL K A H xs vs
 | .exn C,v=>∃a,v= .ref a/\H a=some (.ext (ExcAt a C))
 | .fn f,v=>v= .ref f
def DenL (K:PySem.W.Frag) (A:Av) (H:Hp):List D->List V->Prop
 | [],vs=>vs=[]
 | d::ds,vs=>∃v r,vs=v::r/\Den K A H d v/\DenL K A H ds r
end
section
variable {K:PySem.W.Frag}{A A' M:Av}{H H':Hp}
structure Go (A A' M:Av) (H H':Hp):Prop where
 k:∀b o,H b=some o->¬M b->H' b=some o
 m:∀b,M b->A b/\∃u,H b=some u/\Mu u
 n:∀b,A' b->A b\/H b=none
theorem Go.not (g:Go A A' M H H'){b:Addr}{u:HO}(e:H b=some u)(n:¬Mu u):H' b=some u:=g.k b u e fun z=>by
 obtain⟨_,u',e',m⟩:=g.m b z;rw[e] at e';cases e';exact n m
theorem Go.lone (g:Go A A' M H H'){b:Addr}{u:HO}(h:H b=some u/\¬A b):H' b=some u/\¬A' b:=
 ⟨g.k b u h.1 fun z=>h.2 (g.m b z).1,fun z=>(g.n b z).elim h.2 fun z=>by rw[h.1] at z;cases z⟩
mutual
theorem p7 (g:Go A A' M H H'):∀(d:D) (v:V),Den K A H d v->Den K A' H' d v
 | .non,v,h=>by rw[Den] at h ⊢;exact h
 | .bl b,v,h=>by rw[Den] at h ⊢;exact h
 | .int i,v,h=>by rw[Den] at h ⊢;exact h
 | .str x,v,h=>by rw[Den] at h ⊢;exact h
 | .tup xs,v,h=>by
  rw[Den] at h ⊢;obtain⟨a,vs,e,q,l⟩:=h;refine⟨a,vs,e,?_,t8 g xs vs l⟩;rcases q with (q|⟨o,q⟩)|q
  ·exact .inl (.inl (g.not q id))
  ·exact .inl (.inr ⟨o,g.not q id⟩)
  ·exact .inr q
 | .lst xs,v,h=>by
  rw[Den] at h ⊢;obtain⟨a,vs,e,q,l⟩:=h;refine⟨a,vs,e,?_,t8 g xs vs l⟩;rcases q with q|⟨o,q⟩|q
  ·exact .inl (g.lone q)
  ·exact .inr (.inl ⟨o,g.not q id⟩)
  ·exact .inr (.inr q)
 | .dT ks xs,v,h=>by
  rw[Den] at h ⊢;obtain⟨a,vs,e,q,hl,l⟩:=h;exact⟨a,vs,e,g.lone q,hl,t8 g xs vs l⟩
 | .dK ks xs,v,h=>by
  rw[Den] at h ⊢;obtain⟨a,vs,e,q,hl,l⟩:=h;exact⟨a,vs,e,g.lone q,hl,t8 g xs vs l⟩
 | .exn C,v,h=>by
  rw[Den] at h ⊢;obtain⟨a,e,q⟩:=h;exact⟨a,e,g.not q id⟩
 | .fn _,v,h=>by rw[Den] at h ⊢;exact h
theorem t8 (g:Go A A' M H H'):∀(ds:List D) (vs:List V),DenL K A H ds vs->DenL K A' H' ds vs
 | [],vs,h=>by rw[DenL] at h ⊢;exact h
 | d::ds,vs,h=>by
  rw[DenL] at h ⊢;obtain⟨v,r,e,q,l⟩:=h;exact⟨v,r,e,p7 g d v q,t8 g ds r l⟩
end
theorem a2l (s:Same H H'):Go A A (fun _=>False) H H':=⟨fun b o e _=>s b o e,fun _ z=>z.elim,fun _ z=>.inl z⟩
theorem w6 (h:∀b,A' b->A b):Go A A' (fun _=>False) H H:=⟨fun _ _ e _=>e,fun _ z=>z.elim,fun b z=>.inl (h b z)⟩
theorem L5 (s:Same H H'){d:D}{v:V}(h:Den K A H d v):Den K A H' d v:=p7 (a2l s) d v h
theorem a5Y (s:Same H H'){d:List D}{v:List V}(h:DenL K A H d v):DenL K A H' d v:=t8 (a2l s) d v h
theorem j6 {d:D}{ds:List D}{v:V}{vs:List V}(h:Den K A H d v)(t:DenL K A H ds vs):DenL K A H (d::ds) (v::vs):=by rw[DenL];exact⟨v,vs,rfl,h,t⟩
theorem j7:DenL K A H [] []:=by rw[DenL]
theorem v4:∀{ds es:List D} {vs ws:List V},DenL K A H ds vs->DenL K A H es ws->DenL K A H (ds++es) (vs++ws)
 | [],_,_,_,h,t=>by rw[DenL] at h;subst h;exact t
 | d::ds,_,_,_,h,t=>by
  rw[DenL] at h;obtain⟨v,r,rfl,q,l⟩:=h;exact j6 q (v4 l t)
theorem c6:∀{ds:List D} {vs:List V},DenL K A H ds vs->ds.length=vs.length
 | [],_,h=>by rw[DenL] at h;subst h;rfl
 | d::ds,_,h=>by
  rw[DenL] at h;obtain⟨v,r,rfl,q,l⟩:=h;rw[zV,zV,c6 l]
theorem w5:∀{ds:List D} {vs:List V} {i:Nat} {d:D},DenL K A H ds vs->ds[i]? =some d->∃v,vs[i]? =some v/\Den K A H d v
 | [],_,_,_,_,e=>by simp at e
 | d::ds,_,0,_,h,e=>by
  rw[DenL] at h;obtain⟨v,r,rfl,q,l⟩:=h;simp at e;subst e;exact⟨v,rfl,q⟩
 | d::ds,_,i+1,x,h,e=>by
  rw[DenL] at h;obtain⟨v,r,rfl,q,l⟩:=h;obtain⟨u,h1,h2⟩:=w5 (i:=i) (d:=x) l (by simpa using e)
  exact⟨u,by simpa using h1,h2⟩
theorem a1W:∀{ds:List D} {vs:List V} (n:Nat),DenL K A H ds vs->DenL K A H (ds.take n) (vs.take n)
 | [],_,n,h=>by rw[DenL] at h;subst h;simp;exact j7
 | d::ds,_,0,h=>by simp;exact j7
 | d::ds,_,n+1,h=>by
  rw[DenL] at h;obtain⟨v,r,rfl,q,l⟩:=h;exact j6 q (a1W n l)
theorem a1B:∀{ds:List D} {vs:List V} (n:Nat),DenL K A H ds vs->DenL K A H (ds.drop n) (vs.drop n)
 | [],_,n,h=>by rw[DenL] at h;subst h;simp;exact j7
 | d::ds,_,0,h=>h
 | d::ds,_,n+1,h=>by
  rw[DenL] at h;obtain⟨v,r,rfl,q,l⟩:=h;exact a1B n l
theorem D9 {i:Int}{v:V}:Den K A H (.int i) v↔v= .int i:=by rw[Den]
theorem a0t {i:Bool}{v:V}:Den K A H (.bl i) v↔v= .bl i:=by rw[Den]
theorem a4x {v:V}:Den K A H .non v↔v= .non:=by rw[Den]
theorem a0o {i:Str}{v:V}:Den K A H (.str i) v↔v= .str i:=by rw[Den]
theorem denL1 {d:D}{vs:List V}(l:DenL K A H [d] vs):∃v,vs=[v]/\Den K A H d v:=by
 rw[DenL] at l;obtain⟨v,r,rfl,h,l⟩:=l;rw[DenL] at l;subst l;exact⟨v,rfl,h⟩
theorem denL2 {d e:D}{vs:List V}(l:DenL K A H [d,e] vs):∃v u,vs=[v,u]/\Den K A H d v/\Den K A H e u:=by
 rw[DenL] at l;obtain⟨v,r,rfl,h,l⟩:=l;obtain⟨u,rfl,h'⟩:=denL1 l;exact⟨v,u,rfl,h,h'⟩
end
mutual
def lf:D->Bool
 | .tup xs=>lfL xs
 | .lst _=>false
 | .dT _ _=>false
 | .dK _ _=>false
 | _=>true
def lfL:List D->Bool
 | []=>true
 | d::ds=>lf d&&lfL ds
end
section
variable {K:PySem.W.Frag}{A A':Av}{H H':Hp}
mutual
theorem a8K (g:∀b o,H b=some o->¬Mu o->H' b=some o):∀(d:D) (v:V),lf d=true->Den K A H d v->Den K A' H' d v
 | .non,v,_,h=>by rw[Den] at h ⊢;exact h
 | .bl b,v,_,h=>by rw[Den] at h ⊢;exact h
 | .int i,v,_,h=>by rw[Den] at h ⊢;exact h
 | .str x,v,_,h=>by rw[Den] at h ⊢;exact h
 | .tup xs,v,f,h=>by
  rw[Den] at h ⊢;obtain⟨a,vs,e,q,l⟩:=h;refine⟨a,vs,e,?_,T0 g xs vs (by rw[lf] at f;exact f) l⟩
  rcases q with (q|⟨o,q⟩)|q
  ·exact .inl (.inl (g _ _ q id))
  ·exact .inl (.inr ⟨o,g _ _ q id⟩)
  ·exact .inr q
 | .lst xs,v,f,h=>by rw[lf] at f;cases f
 | .dT _ xs,v,f,h=>by rw[lf] at f;cases f
 | .dK _ xs,v,f,h=>by rw[lf] at f;cases f
 | .exn _,v,_,h=>by rw[Den] at h ⊢;obtain⟨a,e,q⟩:=h;exact⟨a,e,g _ _ q id⟩
 | .fn _,v,_,h=>by rw[Den] at h ⊢;exact h
theorem T0 (g:∀b o,H b=some o->¬Mu o->H' b=some o):∀(d:List D) (v:List V),lfL d=true->DenL K A H d v->DenL K A' H' d v
 | [],v,_,h=>by rw[DenL] at h ⊢;exact h
 | d::ds,v,f,h=>by
  rw[lfL,jQ] at f;rw[DenL] at h ⊢;obtain⟨u,r,e,q,l⟩:=h;exact⟨u,r,e,a8K g d u f.1 q,T0 g ds r f.2 l⟩
end
end
def Obj (K:PySem.W.Frag) (A:Av) (H:Hp) (a:Addr):D->Prop
 | .lst xs=>∃vs,H a=some (.lst vs)/\DenL K A H xs vs
 | .dT ks xs=>∃vs,H a=some (.dT (ks.zip vs))/\ks.length=xs.length/\DenL K A H xs vs
 | .dK ks xs=>∃vs,H a=some (.dK (ks.zip vs))/\ks.length=xs.length/\DenL K A H xs vs
 | _=>False
def DenR (K:PySem.W.Frag) (A:Av) (H:Hp):D->V->Prop
 | .lst xs,v=>∃a vs,v= .ref a/\SqL K H a vs/\DenL K A H xs vs
 | .dT ks xs,v=>∃a vs,v= .ref a/\H a=some (.dT (ks.zip vs))/\ks.length=xs.length/\DenL K A H xs vs
 | .dK ks xs,v=>∃a vs,v= .ref a/\H a=some (.dK (ks.zip vs))/\ks.length=xs.length/\DenL K A H xs vs
 | d,v=>Den K A H d v
section
variable {K:PySem.W.Frag}{A A' M:Av}{H H':Hp}{d:D}{v:V}{a:Addr}
theorem w9 (g:Go A A' M H H')(hk:H' a=H a)(h:Obj K A H a d):Obj K A' H' a d:=by
 cases d with
 | lst xs=>obtain⟨vs,e,l⟩:=h;exact⟨vs,hk.trans e,t8 g _ _ l⟩
 | dT ks xs=>obtain⟨vs,e,hl,l⟩:=h;exact⟨vs,hk.trans e,hl,t8 g _ _ l⟩
 | dK ks xs=>obtain⟨vs,e,hl,l⟩:=h;exact⟨vs,hk.trans e,hl,t8 g _ _ l⟩
 | _=>exact h
theorem J0 (h:Obj K A H a d):∃u,H a=some u/\Mu u:=by
 cases d with
 | lst xs=>obtain⟨vs,e,l⟩:=h;exact⟨_,e,trivial⟩
 | dT ks xs=>obtain⟨vs,e,hl,l⟩:=h;exact⟨_,e,trivial⟩
 | dK ks xs=>obtain⟨vs,e,hl,l⟩:=h;exact⟨_,e,trivial⟩
 | _=>exact h.elim
theorem T5 (h:Obj K A H a d)(n:¬A a):Den K A H d (.ref a):=by
 cases d with
 | lst xs=>obtain⟨vs,e,l⟩:=h;rw[Den];exact⟨a,vs,rfl,.inl ⟨e,n⟩,l⟩
 | dT ks xs=>obtain⟨vs,e,hl,l⟩:=h;rw[Den];exact⟨a,vs,rfl,⟨e,n⟩,hl,l⟩
 | dK ks xs=>obtain⟨vs,e,hl,l⟩:=h;rw[Den];exact⟨a,vs,rfl,⟨e,n⟩,hl,l⟩
 | _=>exact h.elim
theorem obj_r (h:Obj K A H a d):DenR K A H d (.ref a):=by
 cases d with
 | lst xs=>obtain⟨vs,e,l⟩:=h;exact⟨a,vs,rfl,.inl (.inl e),l⟩
 | dT ks xs=>obtain⟨vs,e,hl,l⟩:=h;exact⟨a,vs,rfl,e,hl,l⟩
 | dK ks xs=>obtain⟨vs,e,hl,l⟩:=h;exact⟨a,vs,rfl,e,hl,l⟩
 | _=>exact h.elim
theorem F4 (h:Den K A H d v):DenR K A H d v:=by
 cases d with
 | lst xs=>
  rw[Den] at h;obtain⟨a,vs,e,q,l⟩:=h;refine⟨a,vs,e,?_,l⟩;rcases q with q|⟨o,q⟩|(q|⟨o,q⟩)|q
  ·exact .inl (.inl q.1)
  ·exact .inl (.inr ⟨o,q⟩)
  ·cases q
  ·cases q
  ·exact .inr q
 | dT ks xs=>rw[Den] at h;obtain⟨a,vs,e,q,l⟩:=h;exact⟨a,vs,e,q.1,l⟩
 | dK ks xs=>rw[Den] at h;obtain⟨a,vs,e,q,l⟩:=h;exact⟨a,vs,e,q.1,l⟩
 | _=>exact h
end
def W.own:W->Option D
 | .o d=>some d
 | .l d=>some d
 | _=>none
def Ow (ρ:Ev) (σ:L2.St):Av:=fun b=>∃(i:Nat) (w:W) (d:D),ρ[i]? =some (some w)/\w.own=some d/\σ[i]? =some (some (V.ref b))
abbrev AvO (O:Av) (ρ:Ev) (σ:L2.St):Av:=fun b=>O b\/Ow ρ σ b
def SlotOk (K:PySem.W.Frag) (A:Av) (H:Hp):W->V->Prop
 | .v d,v=>Den K A H d v
 | .o d,v=>∃a,v= .ref a/\Obj K A H a d
 | .l d,v=>∃a,v= .ref a/\Obj K A H a d
 | .r _,_=>False
def hz (X:Cx) (L:List (Option Nat×Addr)):Hp:=fun b=>if(none,b)∈L then none else X.H₀ b
structure Rep (X:Cx) (P:List (D×V)) (O:Av) (L:List (Option Nat×Addr)) (ρ:Ev) (σ:L2.St) (H:Hp):Prop where
 same:∀b o,X.H₀ b=some o->(∀i,(i,b)∉L)->H b=some o
 amb:∀b,O b->(∃o,X.H₀ b=some o)/\∀i,(i,b)∉L
 len:ρ.length=σ.length
 slot:∀(i:Nat) (w:W),ρ[i]? =some (some w)->∃v,σ[i]? =some (some v)/\SlotOk X.K (AvO O ρ σ) H w v
 inj:∀(i j:Nat) (w w':W) (d d':D) (b:Addr),ρ[i]? =some (some w)->w.own=some d->σ[i]? =some (some (.ref b))->ρ[j]? =some (some w')->w'.own=some d'->σ[j]? =some (some (.ref b))->i=j
 new:∀(i:Nat) (d:D) (b:Addr),ρ[i]? =some (some (.o d))->σ[i]? =some (some (.ref b))->hz X L b=none
 lnt:∀(i:Nat) (d:D),ρ[i]? =some (some (.l d))->∃b,σ[i]? =some (some (.ref b))/\(some i,b)∈L
 lnd:∀(i:Nat) (b:Addr),(some i,b)∈L->∃d,ρ[i]? =some (some (.l d))/\σ[i]? =some (some (.ref b))
 prot:∀p∈P,Den X.K (AvO O ρ σ) H p.1 p.2
 gvl:∀b,(none,b)∈L->∃(i:Nat) (a:Addr),(some i,a)∈L
section
variable {X:Cx}{P:List (D×V)}{O:Av}{L:List (Option Nat×Addr)}{ρ:Ev}{σ:L2.St}{H H':Hp}
theorem a3P {K:PySem.W.Frag}{A:Av}{H:Hp}{w:W}{d:D}{v:V}(h:SlotOk K A H w v)(e:w.own=some d):∃a,v= .ref a/\Obj K A H a d:=by
 cases w<;>simp only[W.own] at e<;>first|(cases e;exact h)|cases e
theorem Rep.obj (r:Rep X P O L ρ σ H){i:Nat}{w:W}{d:D}(e:ρ[i]? =some (some w))(ew:w.own=some d):∃a,σ[i]? =some (some (.ref a))/\Obj X.K (AvO O ρ σ) H a d:=by
 obtain⟨v,h1,h2⟩:=r.slot i w e;obtain⟨a,rfl,h3⟩:=a3P h2 ew;exact⟨a,h1,h3⟩
theorem Rep.owMu (r:Rep X P O L ρ σ H){b:Addr}(z:Ow ρ σ b):∃u,H b=some u/\Mu u:=by
 obtain⟨i,w,d,e1,e2,e3⟩:=z;obtain⟨a,h1,h2⟩:=r.obj e1 e2;rw[e3] at h1;cases h1;exact J0 h2
theorem Rep.ambN (r:Rep X P O L ρ σ H){b:Addr}(z:O b):¬Ow ρ σ b:=fun⟨i,w,d,e1,e2,e3⟩=>by
 obtain⟨⟨o,h0⟩,hl⟩:=r.amb b z;cases w with
 | o d'=>have:=r.new i d' b e1 e3;unfold hz at this;rw[if_neg (hl none),h0] at this;cases this
 | l d'=>obtain⟨c,h1,h2⟩:=r.lnt i d' e1;rw[e3] at h1;cases h1;exact hl (some i) h2
 | _=>cases e2
theorem Rep.there (r:Rep X P O L ρ σ H){b:Addr}(z:AvO O ρ σ b):∃o,H b=some o:=by
 rcases z with z|z
 ·obtain⟨⟨o,h0⟩,hl⟩:=r.amb b z;exact⟨o,r.same b o h0 hl⟩
 ·obtain⟨u,e,_⟩:=r.owMu z;exact⟨u,e⟩
theorem Rep.fresh (r:Rep X P O L ρ σ H){b:Addr}(n:H b=none):¬AvO O ρ σ b:=fun z=>by obtain⟨o,e⟩:=r.there z;rw[n] at e;cases e
theorem Rep.fresh0 (r:Rep X P O L ρ σ H){b:Addr}(n:H b=none):hz X L b=none:=by
 unfold hz
 split
 ·rfl
 ·rename_i hg;cases q:X.H₀ b with
  | none=>rfl
  | some o=>
   have:H b=some o:=r.same b o q fun i e=>by
    cases i with
    | none=>exact hg e
    | some i=>
     obtain⟨d,h1,h2⟩:=r.lnd i b e;obtain⟨a,h3,h4⟩:=r.obj h1 rfl;rw[h2] at h3;cases h3;obtain⟨u,e,_⟩:=J0 h4;rw[n] at e;cases e
   rw[n] at this;cases this
theorem C3 {K:PySem.W.Frag}{A A' M:Av}{H H':Hp}(g:Go A A' M H H'){w:W}{v:V}(hk:∀a d,w.own=some d->v= .ref a->H' a=H a)(h:SlotOk K A H w v):SlotOk K A' H' w v:=by
 cases w with
 | v d=>exact p7 g _ _ h
 | o d=>obtain⟨a,e,q⟩:=h;exact⟨a,e,w9 g (hk a d rfl e) q⟩
 | l d=>obtain⟨a,e,q⟩:=h;exact⟨a,e,w9 g (hk a d rfl e) q⟩
 | r i=>exact h
theorem Rep.grow (r:Rep X P O L ρ σ H)(s:Same H H'):Rep X P O L ρ σ H' where
 same:=fun b o e hl=>s b o (r.same b o e hl)
 amb:=r.amb
 len:=r.len
 slot:=fun i w e=>by
  obtain⟨v,h1,h2⟩:=r.slot i w e;refine⟨v,h1,C3 (a2l s) (fun a d ew ev=>?_) h2⟩;subst ev;obtain⟨b,h3,h4⟩:=r.obj e ew;rw[h1] at h3;cases h3;obtain⟨u,eu,_⟩:=J0 h4;rw[eu,s _ _ eu]
 inj:=r.inj
 new:=r.new
 lnt:=r.lnt
 lnd:=r.lnd
 prot:=fun p hp=>L5 s (r.prot p hp)
 gvl:=r.gvl
theorem Rep.more {p:D×V}(r:Rep X P O L ρ σ H)(h:Den X.K (AvO O ρ σ) H p.1 p.2):Rep X (p::P) O L ρ σ H:=
 ⟨r.same,r.amb,r.len,r.slot,r.inj,r.new,r.lnt,r.lnd,fun q hq=>(zN.mp hq).elim (fun e=>by rw[e];exact h) (r.prot q),r.gvl⟩
theorem Rep.less {p:D×V}(r:Rep X (p::P) O L ρ σ H):Rep X P O L ρ σ H:=
 ⟨r.same,r.amb,r.len,r.slot,r.inj,r.new,r.lnt,r.lnd,fun q hq=>r.prot q (zL _ hq),r.gvl⟩
theorem Rep.head {p:D×V}(r:Rep X (p::P) O L ρ σ H):Den X.K (AvO O ρ σ) H p.1 p.2:=r.prot p zJ
theorem l7 {α:Type}{l:List α}{i j:Nat}{x y:α}(e:(l.set i x)[j]? =some y):(j=i/\y=x/\i<l.length)\/(j≠i/\l[j]? =some y):=by
 by_cases q:i=j
 ·subst q;rw[List.getElem?_set,if_pos rfl] at e;split at e
  ·cases e;rename_i h;exact .inl ⟨rfl,rfl,h⟩
  ·cases e
 ·rw[zM q] at e;exact .inr ⟨qM q,e⟩
theorem z7 {α:Type}{l:List α}{i:Nat}{x:α}(h:i<l.length):(l.set i x)[i]? =some x:=by rw[List.getElem?_set,if_pos rfl,if_pos h]
def freeSlot (ρ:Ev) (i:Nat):Bool:=match ρ[i]? with
 | some (some (.l _))=>false
 | _=>true
theorem Rep.put (r:Rep X P O L ρ σ H){i:Nat}{d:D}{v:V}(hf:freeSlot ρ i=true)(h:Den X.K (AvO O ρ σ) H d v):Rep X P O L (ρ.set i (some (.v d))) (σ.set i (some v)) H:=by
 have sub:∀b,AvO O (ρ.set i (some (.v d))) (σ.set i (some v)) b->AvO O ρ σ b:=fun b z=>by
  rcases z with z|⟨j,w,c,e1,e2,e3⟩
  ·exact .inl z
  ·rcases l7 e1 with ⟨rfl,z,_⟩|⟨n,e1⟩
   ·cases z;cases e2
   ·rw[zM (qM n)] at e3;exact .inr ⟨j,w,c,e1,e2,e3⟩
 have g:=w6 (H:=H) sub;have st:∀{j:Nat} {w:W} {c:D},(ρ.set i (some (.v d)))[j]? =some (some w)->w.own=some c->j≠i/\ρ[j]? =some (some w):=fun{j w c} e1 e2=>by
  rcases l7 e1 with ⟨rfl,z,_⟩|z
  ·cases z;cases e2
  ·exact z
 refine⟨r.same,r.amb,by rw[length_set,length_set];exact r.len,fun j w e=>?_,fun j k w w' c c' b e1 e2 e3 e4 e5 e6=>?_,fun j c b e1 e2=>?_,fun j c e=>?_,fun j b e=>?_,fun p hp=>p7 g _ _ (r.prot p hp),r.gvl⟩
 ·rcases l7 e with ⟨rfl,z,hl⟩|⟨n,e⟩
  ·cases z;exact⟨v,z7 (by rw[<-r.len];exact hl),p7 g _ _ h⟩
  ·obtain⟨u,h1,h2⟩:=r.slot j w e;exact⟨u,by rw[zM (qM n)];exact h1,C3 g (fun _ _ _ _=>rfl) h2⟩
 ·obtain⟨n1,e1⟩:=st e1 e2;obtain⟨n2,e4⟩:=st e4 e5;rw[zM (qM n1)] at e3;rw[zM (qM n2)] at e6;exact r.inj j k w w' c c' b e1 e2 e3 e4 e5 e6
 ·obtain⟨n1,e1⟩:=st (c:=c) e1 rfl;rw[zM (qM n1)] at e2;exact r.new j c b e1 e2
 ·obtain⟨n1,e1⟩:=st (c:=c) e rfl;rw[zM (qM n1)];exact r.lnt j c e1
 ·obtain⟨c,h1,h2⟩:=r.lnd j b e;have n:i≠j:=fun z=>by subst z;unfold freeSlot at hf;rw[h1] at hf;cases hf
  exact⟨c,by rw[zM n];exact h1,by rw[zM n];exact h2⟩
theorem Rep.putO (r:Rep X P O L ρ σ H)(s:Same H H'){i:Nat}{d:D}{a:Addr}(hf:freeSlot ρ i=true)(hn:H a=none)(h:Obj X.K (fun b=>AvO O ρ σ b\/b=a) H' a d):Rep X P O L (ρ.set i (some (.o d))) (σ.set i (some (.ref a))) H':=by
 have nA:=r.fresh hn;have sub:∀b,AvO O (ρ.set i (some (.o d))) (σ.set i (some (.ref a))) b->AvO O ρ σ b\/b=a:=fun b z=>by
  rcases z with z|⟨j,w,c,e1,e2,e3⟩
  ·exact .inl (.inl z)
  ·rcases l7 e1 with ⟨rfl,z,hl⟩|⟨n,e1⟩
   ·rw[z7 (by rw[<-r.len];exact hl)] at e3;cases e3;exact .inr rfl
   ·rw[zM (qM n)] at e3;exact .inl (.inr ⟨j,w,c,e1,e2,e3⟩)
 have g:Go (AvO O ρ σ) (AvO O (ρ.set i (some (.o d))) (σ.set i (some (.ref a)))) (fun _=>False) H H':=⟨fun b o e _=>s b o e,fun _ z=>z.elim,fun b z=>(sub b z).imp id fun z=>by rw[z];exact hn⟩
 have old:∀{j:Nat} {w:W} {b:Addr},ρ[j]? =some (some w)->σ[j]? =some (some (.ref b))->w.own≠none->b≠a:=fun{j w b} e1 e2 e3 z=>by
  cases q:w.own with
  | none=>exact e3 q
  | some c=>exact nA (.inr ⟨j,w,c,e1,q,by rw[<-z];exact e2⟩)
 refine⟨fun b o e hl=>s b o (r.same b o e hl),r.amb,by rw[length_set,length_set];exact r.len,fun j w e=>?_,fun j k w w' c c' b e1 e2 e3 e4 e5 e6=>?_,fun j c b e1 e2=>?_,fun j c e=>?_,fun j b e=>?_,fun p hp=>p7 g _ _ (r.prot p hp),r.gvl⟩
 ·rcases l7 e with ⟨rfl,z,hl⟩|⟨n,e⟩
  ·cases z;exact⟨.ref a,z7 (by rw[<-r.len];exact hl),a,rfl,w9 (w6 sub) rfl h⟩
  ·obtain⟨u,h1,h2⟩:=r.slot j w e;refine⟨u,by rw[zM (qM n)];exact h1,C3 g (fun b c ec eb=>?_) h2⟩
   subst eb;obtain⟨o,eo,_⟩:=r.owMu ⟨j,w,c,e,ec,h1⟩;rw[eo,s _ _ eo]
 ·rcases l7 e1 with ⟨rfl,z,hl⟩|⟨n1,e1⟩
  ·rw[z7 (by rw[<-r.len];exact hl)] at e3;cases e3
   rcases l7 e4 with ⟨rfl,_,_⟩|⟨n2,e4⟩
   ·rfl
   ·rw[zM (qM n2)] at e6;exact absurd rfl (old e4 e6 (by rw[e5];exact nofun))
  ·rw[zM (qM n1)] at e3;have f1:=old e1 e3 (by rw[e2];exact nofun)
   rcases l7 e4 with ⟨rfl,_,hl⟩|⟨n2,e4⟩
   ·rw[z7 (by rw[<-r.len];exact hl)] at e6;cases e6
    exact absurd rfl f1
   ·rw[zM (qM n2)] at e6;exact r.inj j k w w' c c' b e1 e2 e3 e4 e5 e6
 ·rcases l7 e1 with ⟨rfl,z,hl⟩|⟨n1,e1⟩
  ·rw[z7 (by rw[<-r.len];exact hl)] at e2;cases e2;exact r.fresh0 hn
  ·rw[zM (qM n1)] at e2;exact r.new j c b e1 e2
 ·rcases l7 e with ⟨rfl,z,hl⟩|⟨n1,e⟩
  ·cases z
  ·rw[zM (qM n1)];exact r.lnt j c e
 ·obtain⟨c,h1,h2⟩:=r.lnd j b e;have n:i≠j:=fun z=>by subst z;unfold freeSlot at hf;rw[h1] at hf;cases hf
  exact⟨c,by rw[zM n];exact h1,by rw[zM n];exact h2⟩
def setOwn (ρ:Ev) (i:Nat) (d:D):Ev:=match ρ[i]? with
 | some (some (.l _))=>ρ.set i (some (.l d))
 | _=>ρ.set i (some (.o d))
def ownAt (ρ:Ev) (i:Nat):Option D:=match ρ[i]? with
 | some (some w)=>w.own
 | _=>none
theorem u7 {ρ:Ev}{i:Nat}{c:D}(e:ownAt ρ i=some c):∃w,ρ[i]? =some (some w)/\w.own=some c:=by
 unfold ownAt at e;split at e
 ·rename_i w q;exact⟨w,q,e⟩
 ·cases e
theorem a08 {ρ:Ev}{i:Nat}{c d:D}(e:ownAt ρ i=some c):∃w,w.own=some d/\setOwn ρ i d=ρ.set i (some w)/\((∃x,w= .l x)↔∃x,ρ[i]? =some (some (.l x))):=by
 obtain⟨w,q,e⟩:=u7 e;unfold setOwn;cases w with
 | v d=>cases e
 | r d=>cases e
 | o x=>rw[q];exact⟨.o d,rfl,rfl,by simp⟩
 | l x=>rw[q];exact⟨.l d,rfl,rfl,by simp⟩
theorem a1y {ρ:Ev}{σ:L2.St}{i:Nat}{c d:D}(e:ownAt ρ i=some c)(b:Addr):Ow (setOwn ρ i d) σ b↔Ow ρ σ b:=by
 obtain⟨w,h1,h2,_⟩:=a08 (d:=d) e;obtain⟨w0,q,e0⟩:=u7 e;rw[h2];constructor
 ·rintro⟨j,w',c',e1,e2,e3⟩;rcases l7 e1 with ⟨rfl,z,_⟩|⟨n,e1⟩
  ·exact⟨j,w0,c,q,e0,e3⟩
  ·exact⟨j,w',c',e1,e2,e3⟩
 ·rintro⟨j,w',c',e1,e2,e3⟩
  by_cases n:j=i
  ·subst n;exact⟨j,w,d,z7 (zQ.mp q).1,h1,e3⟩
  ·exact⟨j,w',c',by rw[zM (qM n)];exact e1,e2,e3⟩
theorem Rep.mut (r:Rep X P O L ρ σ H){i:Nat}{a:Addr}{c d:D}(e:ownAt ρ i=some c)(ea:σ[i]? =some (some (.ref a)))(hk:∀b o,H b=some o->b≠a->H' b=some o)(h:Obj X.K (AvO O ρ σ) H' a d):
  Rep X P O L (setOwn ρ i d) σ H':=by
 obtain⟨w,h1,h2,h3⟩:=a08 (d:=d) e;obtain⟨w0,q,e0⟩:=u7 e;have av:AvO O (setOwn ρ i d) σ=AvO O ρ σ:=funext fun b=>propext (or_congr Iff.rfl (a1y e b));have ma:Ow ρ σ a:=⟨i,w0,c,q,e0,ea⟩;have g:Go (AvO O ρ σ) (AvO O ρ σ) (fun b=>b=a) H H':=⟨hk,fun b z=>by rw[z];exact⟨.inr ma,r.owMu ma⟩,fun b z=>.inl z⟩
 have st:∀{j:Nat} {w':W} {c':D},(setOwn ρ i d)[j]? =some (some w')->w'.own=some c'->∃w'' c'',ρ[j]? =some (some w'')/\w''.own=some c'':=fun{j w' c'} e1 e2=>by
  rw[h2] at e1;rcases l7 e1 with ⟨rfl,_,_⟩|⟨_,e1⟩
  ·exact⟨w0,c,q,e0⟩
  ·exact⟨w',c',e1,e2⟩
 refine⟨fun b o eb hl=>hk b o (r.same b o eb hl) fun z=>?_,r.amb,by rw[h2,length_set];exact r.len,fun j w' e'=>?_,fun j k w1 w2 c1 c2 b e1 e2 e3 e4 e5 e6=>?_,fun j c' b e1 e2=>?_,fun j c' e'=>?_,fun j b e'=>?_,fun p hp=>by rw[av];exact p7 g _ _ (r.prot p hp),r.gvl⟩
 ·subst z;cases w0 with
  | o x=>have:=r.new i x b q ea;unfold hz at this;rw[if_neg (hl none),eb] at this;cases this
  | l x=>obtain⟨c',q1,q2⟩:=r.lnt i x q;rw[ea] at q1;cases q1;exact hl (some i) q2
  | _=>cases e0
 ·rw[av];rw[h2] at e';rcases l7 e' with ⟨rfl,z,_⟩|⟨n,e'⟩
  ·cases z;refine⟨.ref a,ea,?_⟩;cases w with
   | o x=>cases h1;exact⟨a,rfl,h⟩
   | l x=>cases h1;exact⟨a,rfl,h⟩
   | _=>cases h1
  ·obtain⟨u,q1,q2⟩:=r.slot j w' e';refine⟨u,q1,C3 g (fun b c' ec eb=>?_) q2⟩;subst eb;have nb:b≠a:=fun z=>n (r.inj j i w' w0 c' c a e' ec (by rw[<-z];exact q1) q e0 ea)
   obtain⟨o,eo,_⟩:=r.owMu ⟨j,w',c',e',ec,q1⟩;rw[eo,hk _ _ eo nb]
 ·obtain⟨u1,v1,q1,q2⟩:=st e1 e2;obtain⟨u2,v2,q3,q4⟩:=st e4 e5;exact r.inj j k u1 u2 v1 v2 b q1 q2 e3 q3 q4 e6
 ·rw[h2] at e1;rcases l7 e1 with ⟨rfl,z,_⟩|⟨n,e1⟩
  ·cases z;cases w0 with
   | o x=>exact r.new j x b q e2
   | l x=>exact absurd (h3.mpr ⟨x,q⟩) (by simp)
   | _=>cases e0
  ·exact r.new j c' b e1 e2
 ·rw[h2] at e';rcases l7 e' with ⟨rfl,z,_⟩|⟨n,e'⟩
  ·cases z;obtain⟨x,qx⟩:=h3.mp ⟨_,rfl⟩;exact r.lnt j x qx
  ·exact r.lnt j c' e'
 ·obtain⟨c',q1,q2⟩:=r.lnd j b e'
  by_cases n:j=i
  ·subst n;obtain⟨x,rfl⟩:=h3.mpr ⟨c',q1⟩;exact⟨x,by rw[h2];exact z7 (zQ.mp q).1,q2⟩
  ·exact⟨c',by rw[h2,zM (qM n)];exact q1,q2⟩
def frzAt (ρ:Ev) (i:Nat):Option Ev:=match ρ[i]? with
 | some (some (.o d))=>some (ρ.set i (some (.v d)))
 | some (some (.v _))=>some ρ
 | _=>none
theorem Rep.frz (r:Rep X P O L ρ σ H){i:Nat}{ρ':Ev}(e:frzAt ρ i=some ρ'):Rep X P O L ρ' σ H/\∀(j:Nat) (w:W) (d:D),ρ'[j]? =some (some w)->w.own=some d->ρ[j]? =some (some w)/\j≠i:=by
 unfold frzAt at e;split at e
 ·rename_i d q;cases e;obtain⟨a,h1,h2⟩:=r.obj q rfl;have hl:i<σ.length:=by rw[<-r.len];exact(zQ.mp q).1
  have es:σ.set i (some (.ref a))=σ:=by
   apply ext_getElem?;intro j
   by_cases z:i=j
   ·subst z;rw[z7 hl,h1]
   ·rw[zM z]
  have hw:¬AvO O (ρ.set i (some (.v d))) σ a:=fun z=>by
   rcases z with z|⟨j,w,c,e1,e2,e3⟩
   ·exact r.ambN z ⟨i,_,d,q,rfl,h1⟩
   ·rcases l7 e1 with ⟨rfl,z,_⟩|⟨n,e1⟩
    ·cases z;cases e2
    ·exact n (r.inj j i w (.o d) c d a e1 e2 e3 q rfl h1)
  have sub:∀b,AvO O (ρ.set i (some (.v d))) σ b->AvO O ρ σ b:=fun b z=>by
   rcases z with z|⟨j,w,c,e1,e2,e3⟩
   ·exact .inl z
   ·rcases l7 e1 with ⟨rfl,z,_⟩|⟨n,e1⟩
    ·cases z;cases e2
    ·exact .inr ⟨j,w,c,e1,e2,e3⟩
  have g:=w6 (H:=H) sub;refine⟨⟨r.same,r.amb,by rw[length_set];exact r.len,fun j w e=>?_,fun j k w w' c c' b e1 e2 e3 e4 e5 e6=>?_,fun j c b e1 e2=>?_,fun j c e=>?_,fun j b e=>?_,fun p hp=>p7 g _ _ (r.prot p hp),r.gvl⟩,fun j w c e1 e2=>?_⟩
  ·rcases l7 e with ⟨rfl,z,_⟩|⟨n,e⟩
   ·cases z;exact⟨.ref a,h1,T5 (w9 g rfl h2) hw⟩
   ·obtain⟨u,q1,q2⟩:=r.slot j w e;exact⟨u,q1,C3 g (fun _ _ _ _=>rfl) q2⟩
  ·rcases l7 e1 with ⟨rfl,z,_⟩|⟨n1,e1⟩
   ·cases z;cases e2
   ·rcases l7 e4 with ⟨rfl,z,_⟩|⟨n2,e4⟩
    ·cases z;cases e5
    ·exact r.inj j k w w' c c' b e1 e2 e3 e4 e5 e6
  ·rcases l7 e1 with ⟨rfl,z,_⟩|⟨n1,e1⟩
   ·cases z
   ·exact r.new j c b e1 e2
  ·rcases l7 e with ⟨rfl,z,_⟩|⟨n1,e⟩
   ·cases z
   ·exact r.lnt j c e
  ·obtain⟨c,q1,q2⟩:=r.lnd j b e;have n:i≠j:=fun z=>by subst z;rw[q] at q1;cases q1
   exact⟨c,by rw[zM n];exact q1,q2⟩
  ·rcases l7 e1 with ⟨rfl,z,_⟩|⟨n,e1⟩
   ·cases z;cases e2
   ·exact⟨e1,n⟩
 ·rename_i d q;cases e;exact⟨r,fun j w c e1 e2=>⟨e1,fun z=>by subst z;rw[q] at e1;cases e1;cases e2⟩⟩
 ·cases e
end
abbrev FX:=Ev->Option (W×Ev)
abbrev FT:=Ev->Option (Bool×Ev)
abbrev FA:=Ev->Option (List W×Ev)
def DenW (K:PySem.W.Frag) (A:Av) (σ:L2.St) (H1 H':Hp):W->V->Prop
 | .v d,v=>Den K A H' d v
 | .o d,v=>∃a,v= .ref a/\H1 a=none/\Obj K (fun b=>A b\/b=a) H' a d
 | .r i,v=>σ[i]? =some (some v)
 | .l _,_=>False
def DenP (K:PySem.W.Frag) (A:Av) (σ:L2.St) (H:Hp):W->V->Prop
 | .v d,v=>Den K A H d v
 | .r i,v=>σ[i]? =some (some v)
 | _,_=>False
def DenA (K:PySem.W.Frag) (A:Av) (σ:L2.St) (H:Hp):List W->List V->Prop
 | [],vs=>vs=[]
 | w::ws,vs=>∃v r,vs=v::r/\DenP K A σ H w v/\DenA K A σ H ws r
def W.fz:W->W
 | .o d=>.v d
 | w=>w
def tX (X:Cx) (f:FX):TE:=fun σ H Q=>∃P O L ρ w ρ',Rep X P O L ρ σ H/\f ρ=some (w,ρ')/\∀v H1 H',Rep X P O L ρ' σ H1->Same H1 H'->DenW X.K (AvO O ρ' σ) σ H1 H' w v->Q v H'
def tT (X:Cx) (f:FT):TT:=fun σ H Q=>∃P O L ρ b ρ',Rep X P O L ρ σ H/\f ρ=some (b,ρ')/\∀H',Rep X P O L ρ' σ H'->Q b H'
def tA (X:Cx) (f:FA):TA:=fun σ H Q=>∃P O L ρ ws ρ',Rep X P O L ρ σ H/\f ρ=some (ws,ρ')/\∀vs H',Rep X P O L ρ' σ H'->DenA X.K (AvO O ρ' σ) σ H' ws vs->Q vs H'
theorem tXe {X:Cx}{f:FX}{σ:L2.St}{H:Hp}{Q:VK}{C:Prop}(h:tX X f σ H Q)(k:∀P O L ρ w ρ',Rep X P O L ρ σ H->f ρ=some (w,ρ')->(∀v H1 H',Rep X P O L ρ' σ H1->Same H1 H'->DenW X.K (AvO O ρ' σ) σ H1 H' w v->Q v H')->C):C:=by
 obtain⟨P,O,L,ρ,w,ρ',r,e,q⟩:=h;exact k P O L ρ w ρ' r e q
theorem tTe {X:Cx}{f:FT}{σ:L2.St}{H:Hp}{Q:Bool->Hp->Prop}{C:Prop}(h:tT X f σ H Q)(k:∀P O L ρ b ρ',Rep X P O L ρ σ H->f ρ=some (b,ρ')->(∀H',Rep X P O L ρ' σ H'->Q b H')->C):C:=by
 obtain⟨P,O,L,ρ,w,ρ',r,e,q⟩:=h;exact k P O L ρ w ρ' r e q
theorem tAe {X:Cx}{f:FA}{σ:L2.St}{H:Hp}{Q:List V->Hp->Prop}{C:Prop}(h:tA X f σ H Q)(k:∀P O L ρ ws ρ',Rep X P O L ρ σ H->f ρ=some (ws,ρ')->(∀vs H',Rep X P O L ρ' σ H'->DenA X.K (AvO O ρ' σ) σ H' ws vs->Q vs H')->C):C:=by
 obtain⟨P,O,L,ρ,w,ρ',r,e,q⟩:=h;exact k P O L ρ w ρ' r e q
structure QX (X:Cx) (e:Expr) (f:FX):Prop where
 to:PE X e (tX X f)
structure QT (X:Cx) (e:Expr) (f:FT):Prop where
 to:PT X e (tT X f)
structure QW (X:Cx) (e:Expr) (f:FT):Prop where
 to:PW X e (tT X f)
structure QA (X:Cx) (e:List Expr) (f:FA):Prop where
 to:PA X e (tA X f)
theorem PE.weak {X:Cx}{e:Expr}{t u:TE}(h:PE X e t)(w:∀σ H Q,u σ H Q->t σ H Q):PE X e u:=fun pins s σ H Q I q=>h pins s σ H Q I (w σ H Q q)
theorem PT.weak {X:Cx}{e:Expr}{t u:TT}(h:PT X e t)(w:∀σ H Q,u σ H Q->t σ H Q):PT X e u:=fun pins s σ H Q I q=>h pins s σ H Q I (w σ H Q q)
theorem PW.weak {X:Cx}{e:Expr}{t u:TT}(h:PW X e t)(w:∀σ H Q,u σ H Q->t σ H Q):PW X e u:=fun wh pins s σ H Q I q=>h wh pins s σ H Q I (w σ H Q q)
theorem PA.weak {X:Cx}{e:List Expr}{t u:TA}(h:PA X e t)(w:∀σ H Q,u σ H Q->t σ H Q):PA X e u:=fun pos pins s σ H Q I q=>h pos pins s σ H Q I (w σ H Q q)
def dr (ρ:Ev):W->Option D
 | .v d=>some d
 | .r i=>match ρ[i]? with
  | some (some (.v d))=>some d
  | some (some w)=>w.own
  | _=>none
 | _=>none
def drs (ρ:Ev):List W->Option (List D)
 | []=>some []
 | w::ws=>(dr ρ w).bind fun d=>(drs ρ ws).map fun ds=>d::ds
section
variable {X:Cx}{P:List (D×V)}{O:Av}{L:List (Option Nat×Addr)}{ρ:Ev}{σ:L2.St}{H H1 H':Hp}{w:W}{d:D}{v:V}
theorem DenW.fz (r:Rep X P O L ρ σ H1)(s:Same H1 H')(h:DenW X.K (AvO O ρ σ) σ H1 H' w v):DenP X.K (AvO O ρ σ) σ H' w.fz v:=by
 cases w with
 | v d=>exact h
 | o d=>
  obtain⟨a,rfl,n,ob⟩:=h;exact T5 (w9 (w6 fun b z=>.inl z) rfl ob) (r.fresh n)
 | r i=>exact h
 | l d=>exact h.elim
theorem DenP.same (s:Same H H'){A:Av}(h:DenP X.K A σ H w v):DenP X.K A σ H' w v:=by
 cases w with
 | v d=>exact L5 s h
 | r i=>exact h
 | _=>exact h.elim
theorem hold (r:Rep X P O L ρ σ H)(h:DenP X.K (AvO O ρ σ) σ H w v):∃P',Rep X P' O L ρ σ H/\∀ρ2 H2,Rep X P' O L ρ2 σ H2->Rep X P O L ρ2 σ H2/\DenP X.K (AvO O ρ2 σ) σ H2 w v:=by
 cases w with
 | v d=>exact⟨(d,v)::P,r.more h,fun ρ2 H2 r2=>⟨r2.less,r2.head⟩⟩
 | r i=>exact⟨P,r,fun ρ2 H2 r2=>⟨r2,h⟩⟩
 | _=>exact h.elim
theorem C6 (r:Rep X P O L ρ σ H)(e:dr ρ w=some d)(h:DenP X.K (AvO O ρ σ) σ H w v):DenR X.K (AvO O ρ σ) H d v:=by
 cases w with
 | v c=>cases e;exact F4 h
 | r i=>
  rw[dr] at e;have h:σ[i]? =some (some v):=h;cases q:ρ[i]? with
  | none=>rw[q] at e;cases e
  | some o=>
   rw[q] at e;cases o with
   | none=>cases e
   | some w'=>
    cases w' with
    | v c=>
     cases e;obtain⟨u,h1,h2⟩:=r.slot i _ q;rw[h1] at h;cases h;exact F4 h2
    | _=>
     obtain⟨a,h1,h2⟩:=r.obj q e;rw[h1] at h;cases h;exact obj_r h2
 | _=>cases e
def DenRL (K:PySem.W.Frag) (A:Av) (H:Hp):List D->List V->Prop
 | [],vs=>vs=[]
 | d::ds,vs=>∃v r,vs=v::r/\DenR K A H d v/\DenRL K A H ds r
theorem a5p (r:Rep X P O L ρ σ H):∀{ws:List W} {ds:List D} {vs:List V},drs ρ ws=some ds->DenA X.K (AvO O ρ σ) σ H ws vs->DenRL X.K (AvO O ρ σ) H ds vs
 | [],ds,vs,e,h=>by cases e;exact h
 | w::ws,ds,vs,e,h=>by
  obtain⟨v,rs,rfl,h1,h2⟩:=h;rw[drs] at e;cases e1:dr ρ w with
  | none=>rw[e1] at e;cases e
  | some d=>
   cases e2:drs ρ ws with
   | none=>rw[e1,e2] at e;cases e
   | some dd=>
    rw[e1,e2] at e;cases e;exact⟨v,rs,rfl,C6 r e1 h1,a5p r e2 h2⟩
end
section
variable {K:PySem.W.Frag}{A:Av}{σ:L2.St}{H H':Hp}
theorem D3 {i:Int}:DenW K A σ H H' (.v (.int i)) (.int i):=by show Den _ _ _ _ _;rw[Den]
theorem t5 {i:Bool}:DenW K A σ H H' (.v (.bl i)) (.bl i):=by show Den _ _ _ _ _;rw[Den]
theorem a6E {i:Str}:DenW K A σ H H' (.v (.str i)) (.str i):=by show Den _ _ _ _ _;rw[Den]
theorem a3w:DenW K A σ H H' (.v .non) .non:=by show Den _ _ _ _ _;rw[Den]
end
def fVar (i:Nat):FX:=fun ρ=>match ρ[i]? with
 | some (some (.v d))=>some (.v d,ρ)
 | some (some (.r _))=>none
 | some (some _)=>some (.r i,ρ)
 | _=>none
def fC (d:D):FX:=fun ρ=>some (.v d,ρ)
section
variable {X:Cx}{a b e:Expr}{pos:Pos}{f g h:FX}{t u:FT}
theorem a8 (i:Nat){x:Str}(hN:X.N[i]? =some x:=by rfl)(hv:Vis X.env.scope x:=by first|exact Or.inl rfl|exact Or.inr (Or.inl rfl)|exact Or.inr (Or.inr rfl))(hd:(x==("__debug__":Str))=false:=by decide)(hcd:(x==("__classdict__":Str))=false:=by decide):QX X (.Name x pos) (fVar i):=by
 refine⟨PE.weak (a8G hN hv hd hcd) fun σ H Q h0=>tXe h0 fun P O L ρ w ρ' r e q=>?_⟩;unfold fVar at e;split at e
 ·rename_i d0 e0;cases e;obtain⟨v,h1,h2⟩:=r.slot i _ e0;exact⟨v,h1,q v H H r (Same.refl H) h2⟩
 ·cases e
 ·rename_i w' _ _ e0;cases e;obtain⟨v,h1,h2⟩:=r.slot i _ e0;exact⟨v,h1,q v H H r (Same.refl H) h1⟩
 ·cases e
theorem a3o {d:D}{v:V}(hd:∀A H,Den X.K A H d v):∀σ H Q,tX X (fC d) σ H Q->tC v σ H Q:=fun σ H Q h0=>tXe h0 fun P O L ρ w ρ' r e q=>by cases e;exact q v H H r (Same.refl H) (hd _ H)
theorem b8 {i:Int}{j:Nat}:QX X (.Constant (.int i) j pos) (fC (.int i)):=⟨PE.weak b1A (a3o fun A H=>D9.mpr rfl)⟩
theorem E3 {i:Bool}{j:Nat}:QX X (.Constant (.bool i) j pos) (fC (.bl i)):=⟨PE.weak pe_bl (a3o fun A H=>a0t.mpr rfl)⟩
theorem a6x {j:Nat}:QX X (.Constant .none j pos) (fC .non):=⟨PE.weak b1l (a3o fun A H=>a4x.mpr rfl)⟩
theorem a2a {i:Str}{j:Nat}:QX X (.Constant (.str i) j pos) (fC (.str i)):=⟨PE.weak b03 (a3o fun A H=>a0o.mpr rfl)⟩
def fBin (op:D->D->Option W) (f g:FX):FX:=fun ρ=>(f ρ).bind fun p=>(g p.2).bind fun q=>(dr q.2 p.1.fz).bind fun x=>(dr q.2 q.1.fz).bind fun y=>(op x y).map fun w=>(w,q.2)
def Pr2 (X:Cx) (op:D->D->Option W) (r:R2):Prop:=∀(A:Av) (x y:D) (w:W) (v u:V) (H:Hp) (Q:VK),(∀b,A b->∃o,H b=some o)->op x y=some w->DenR X.K A H x v->DenR X.K A H y u->(∀z H',Same H H'->DenW X.K A [] H H' w z->Q z H')->r v u H Q
theorem DenW.st {K:PySem.W.Frag}{A:Av}{σ:L2.St}{H1 H':Hp}{w:W}{v:V}(h:DenW K A [] H1 H' w v):DenW K A σ H1 H' w v:=by
 cases w with
 | r i=>exact absurd h (by simp[DenW])
 | _=>exact h
theorem V5 {r:R2}{op:D->D->Option W}(k:Pr2 X op r):∀σ H Q,tX X (fBin op f g) σ H Q->tOp r (tX X f) (tX X g) σ H Q:=fun σ H Q h0=>tXe h0 fun P O L ρ w ρ' r e q=>by
 unfold fBin at e;obtain⟨⟨w1,ρ1⟩,e1,e⟩:=obs e;dsimp only at e;refine⟨P,O,L,ρ,w1,ρ1,r,e1,fun v H1 H1' r1 s1 d1=>?_⟩;obtain⟨P',r1',k1⟩:=hold (r1.grow s1) (d1.fz r1 s1);obtain⟨⟨w2,ρ2⟩,e2,e⟩:=obs e;dsimp only at e;refine⟨P',O,L,ρ1,w2,ρ2,r1',e2,fun u H2 H2' r2 s2 d2=>?_⟩;have d2':=d2.fz r2 s2;obtain⟨r3,d1'⟩:=k1 ρ2 H2' (r2.grow s2);cases e3:dr ρ2 w1.fz with
 | none=>rw[e3] at e;cases e
 | some x=>
  cases e4:dr ρ2 w2.fz with
  | none=>rw[e3,e4] at e;cases e
  | some y=>
   rw[e3,e4] at e;simp only[bind_some] at e;cases e5:op x y with
   | none=>rw[e5] at e;cases e
   | some w'=>
    rw[e5] at e;cases e;exact k _ x y w v u H2' Q (fun b z=>r3.there z) e5 (C6 r3 e3 d1') (C6 r3 e4 d2') fun z H' s d=>q z H2' H' r3 s d.st
theorem Z3 {op:Operator}{r:R2}{o:D->D->Option W}(ho:OpR X (binaryOp op) r)(k:Pr2 X o r)(ha:QX X a f)(hb:QX X b g):QX X (.BinOp a op b pos) (fBin o f g):=⟨PE.weak (pe_op ho ha.to hb.to) (V5 k)⟩
theorem a7l {op:CmpOp}{r:R2}{o:D->D->Option W}(ho:OpR X (compareOp op) r)(k:Pr2 X o r)(ha:QX X a f)(hb:QX X b g)(hm:behindInMarks op b=false:=by first|exact nomark _|rfl):QX X (.Compare a [op] [b] pos) (fBin o f g):=⟨PE.weak (a9i ho ha.to hb.to hm) (V5 k)⟩
def fTest (f:FX):FT:=fun ρ=>(f ρ).bind fun p=>match p.1 with|.v (.bl k)=>some (k,p.2)|_=>none
theorem a0B {f:FX}{ρ ρ':Ev}{k:Bool}(e:fTest f ρ=some (k,ρ')):f ρ=some (.v (.bl k),ρ'):=by
 unfold fTest at e;cases q:f ρ with
 | none=>rw[q] at e;cases e
 | some p=>
  rw[q] at e;obtain⟨w,ρ1⟩:=p;simp only[bind_some] at e;split at e
  ·cases e;rfl
  ·cases e
theorem R6 {op:CmpOp}{r:R2}{o:D->D->Option W}(ho:OpR X (compareOp op) r)(k:Pr2 X o r)(ha:QX X a f)(hb:QX X b g)(hm:behindInMarks op b=false:=by first|exact nomark _|rfl):QT X (.Compare a [op] [b] pos) (fTest (fBin o f g)):=by
 refine⟨PT.weak (a9H ho ha.to hb.to hm) fun σ H Q h0=>tTe h0 fun P O L ρ t ρ' r e q=>?_⟩;refine V5 k σ H _ ⟨P,O,L,ρ,_,ρ',r,a0B e,fun v H1 H' r1 s1 d1=>⟨t,?_,q H' (r1.grow s1)⟩⟩;have d1':Den X.K (AvO O ρ' σ) H' (.bl t) v:=d1;exact a0t.mp d1'
def big:Nat:=2^8000
def mOk (i j:Int):Prop:=i.natAbs<2^64\/j.natAbs<2^64\/(i.natAbs<big/\j.natAbs<big)
instance (i j:Int):Decidable (mOk i j):=by unfold mOk;infer_instance
theorem mOk.ok {i j:Int}(m:mOk i j):IntMulOk i j:=by
 rcases m with m|m|⟨m,n⟩
 ·exact .of_left (KE_bits m)
 ·exact .of_right (KE_bits m)
 ·exact .of_bits (zX (KE_bits m) (by decide)) (zX (KE_bits n) (by decide))
where KE_bits {x:Int} {m:Nat} (h:x.natAbs<2^m):Builtin.Int.intBits x<=m:=intBits_le_iff.mpr h
theorem a9X:OpR X (binaryOp .Mult) (rI mOk fun i j=>.int (i*j)):=opI fun _ _ _ _ _ _ _ hc q=>mul_int q hc.ok
def dOk (j:Int):Prop:=0<j/\j.natAbs<big
instance (j:Int):Decidable (dOk j):=by unfold dOk;infer_instance
theorem a9t:OpR X (binaryOp .FloorDiv) (rI (fun _ j=>dOk j) fun i j=>.int (i/j)):=opI fun i j _ _ _ _ _ hc q=>by
 have e:i.fdiv j=i/j:=Int.fdiv_eq_ediv_of_nonneg i (Int.le_of_lt hc.1);refine floordiv_int (Int.ne_of_gt hc.1) (by rw[e];exact q) (.inl (PyProof.noPylong_of_log2 ?_))
 by_cases z:j.natAbs=0
 ·rw[z];decide
 ·exact zF ((Nat.log2_lt z).mpr (show j.natAbs<2^8000 from hc.2)) (by decide)
def oI (C:Int->Int->Prop) [∀i j,Decidable (C i j)] (g:Int->Int->D):D->D->Option W
 | .int i,.int j=>if C i j then some (.v (g i j)) else none
 | _,_=>none
def oI0 (g:Int->Int->D):D->D->Option W
 | .int i,.int j=>some (.v (g i j))
 | _,_=>none
theorem j9 {K:PySem.W.Frag}{A:Av}{H:Hp}{i:Int}{v:V}(h:DenR K A H (.int i) v):v= .int i:=by
 have h:Den K A H (.int i) v:=h;exact D9.mp h
theorem kI {C:Int->Int->Prop} [∀i j,Decidable (C i j)] {g:Int->Int->Int}:Pr2 X (oI C fun i j=>.int (g i j)) (rI C fun i j=>.int (g i j)):=by
 intro A x y w v u H Q _ e hx hy q;cases x<;>cases y<;>simp only[oI] at e<;>try cases e
 rename_i i j;split at e
 ·rename_i hc;cases e;exact⟨i,j,j9 hx,j9 hy,hc,q _ H (Same.refl H) D3⟩
 ·cases e
theorem kI0 {g:Int->Int->Int}:Pr2 X (oI0 fun i j=>.int (g i j)) (rI0 fun i j=>.int (g i j)):=by
 intro A x y w v u H Q _ e hx hy q;cases x<;>cases y<;>simp only[oI0] at e<;>cases e
 rename_i i j;exact⟨i,j,j9 hx,j9 hy,q _ H (Same.refl H) D3⟩
theorem kB0 {g:Int->Int->Bool}:Pr2 X (oI0 fun i j=>.bl (g i j)) (rI0 fun i j=>.bl (g i j)):=by
 intro A x y w v u H Q _ e hx hy q;cases x<;>cases y<;>simp only[oI0] at e<;>cases e
 rename_i i j;exact⟨i,j,j9 hx,j9 hy,q _ H (Same.refl H) t5⟩
abbrev fSub:=fBin (oI0 fun i j=>.int (i-j))
abbrev fMul:=fBin (oI mOk fun i j=>.int (i*j))
abbrev fDiv:=fBin (oI (fun _ j=>dOk j) fun i j=>.int (i/j))
abbrev fMod:=fBin (oI (fun _ j=>0<j) fun i j=>.int (i%j))
instance (i j:Int):Decidable (CPow i j):=by unfold CPow;infer_instance
abbrev fPow:=fBin (oI CPow fun i j=>.int (i^j.toNat))
theorem a4k (ha:QX X a f)(hb:QX X b g):QX X (.BinOp a .Sub b pos) (fSub f g):=Z3 b16 kI0 ha hb
theorem A8 (ha:QX X a f)(hb:QX X b g):QX X (.BinOp a .Mult b pos) (fMul f g):=Z3 a9X kI ha hb
theorem S6 (ha:QX X a f)(hb:QX X b g):QX X (.BinOp a .FloorDiv b pos) (fDiv f g):=Z3 a9t kI ha hb
theorem j8 (ha:QX X a f)(hb:QX X b g):QX X (.BinOp a .Mod b pos) (fMod f g):=Z3 b1Z kI ha hb
theorem a2c (ha:QX X a f)(hb:QX X b g):QX X (.BinOp a .Pow b pos) (fPow f g):=Z3 b1F kI ha hb
abbrev oLt:=oI0 fun i j=>.bl (decide (i<j))
abbrev oLe:=oI0 fun i j=>.bl (decide (i<=j))
abbrev oGt:=oI0 fun i j=>.bl (decide (j<i))
theorem qt_gt (ha:QX X a f)(hb:QX X b g):QT X (.Compare a [.Gt] [b] pos) (fTest (fBin oGt f g)):=R6 op_gt kB0 ha hb
def lim:Nat:=1000000
theorem v7:lim<=sizeLine:=by unfold lim;rw[qR];decide
theorem i0 {H:Hp}{p:Addr}(h:H p=none)(o:HO):Same H (upd H p o):=fun b u q=>by rw[c9 (o9 q h)];exact q
theorem G4 {K:PySem.W.Frag}{A:Av}{σ:L2.St}{H:Hp}{p:Addr}{xs:List D}{vs:List V}(hp:H p=none)(l:DenL K A H xs vs):DenW K A σ H (upd H p (.lst vs)) (.o (.lst xs)) (.ref p):=
 ⟨p,rfl,hp,vs,j3,t8 (M:=fun _=>False) ⟨fun b o q _=>i0 hp _ b o q,fun _ z=>z.elim,fun b z=>z.imp id fun z=>by rw[z];exact hp⟩ _ _ l⟩
theorem T4 {K:PySem.W.Frag}{A:Av}{σ:L2.St}{H H0:Hp}{p:Addr}{xs:List D}{vs:List V}(hp:H p=none)(l:DenL K A H xs vs):DenW K A σ H0 (upd H p (.tup vs)) (.v (.tup xs)) (.ref p):=by
 show Den _ _ _ _ _;rw[Den];exact⟨p,vs,rfl,.inl (.inl j3),a5Y (i0 hp _) l⟩
theorem a8Z:OpR X (binaryOp .Add) (fun x y H Q=>∃l b xs zs,x= .ref l/\y= .ref b/\SqL X.K H l xs/\SqL X.K H b zs/\xs.length+zs.length<=sizeLine/\∀p,H p=none->Q (.ref p) (upd H p (.lst (xs++zs)))):=by
 intro pins s σ H x y v u Q I rx ry h;obtain⟨l,b,xs,zs,rfl,rfl,hH,hB,hz,q⟩:=h;cases rx;cases ry;obtain⟨its,r,⟨⟨c1,d1,e1,s1⟩,n1,g1,k1,_,w1⟩,_⟩:=I.list hH;obtain⟨its2,r2,⟨⟨c2,d2,e2,s2⟩,n2,g2,k2,_,w2⟩,_⟩:=I.list hB;simp only at k1 w1 k2 w2;subst k1 w1 k2 w2;have l1:=r.length;have l2:=r2.length;refine concat_meets ⟨_,g1,rfl⟩ ⟨_,g2,rfl⟩ noFill_list_add seq_list_add PySem.F.slot_list_add PySem.F.entry_list_add (PySem.F.args_list_add_2 _ _) (list_addW l b its.toArray its2.toArray n1 n2 d1 d2 s1 s2 (by rw[qI,qI];walk_at "o")) ⟨g1,g2,?_⟩
 have ea:its.toArray++its2.toArray=(its++its2).toArray:=by simp
 rw[ea];exact⟨.ref _,_,I.lnew (t':=s.toks) (r.append r2) (by rw[qK];walk_at "o"),rfl,q _ I.fresh⟩
def oCat (xs ys:List D):Option W:=if xs.length+ys.length<=lim then some (.o (.lst (xs++ys))) else none
def oAdd:D->D->Option W
 | .int i,.int j=>some (.v (.int (i+j)))
 | .lst xs,.lst ys=>oCat xs ys
 | .tup xs,.tup ys=>if xs≠[]/\xs.length+ys.length<=lim then some (.v (.tup (xs++ys))) else none
 | _,_=>none
instance (xs:List D):Decidable (xs≠[]):=match xs with
 | []=>.isFalse fun h=>h rfl
 | _::_=>.isTrue nofun
theorem n6 (ha:QX X a f)(hb:QX X b g):QX X (.BinOp a .Add b pos) (fBin oAdd f g):=Z3 (b1n.or (a8Z.or a9D)) (by
 intro A x y w v u H Q _ e hx hy q;cases x<;>cases y<;>simp only[oAdd] at e<;>try cases e
 ·rename_i i j;exact .inl ⟨i,j,j9 hx,j9 hy,q _ H (Same.refl H) D3⟩
 ·rename_i xs ys;split at e
  ·rename_i hl;cases e;have hx:Den X.K A H (.tup xs) v:=hx;have hy:Den X.K A H (.tup ys) u:=hy;rw[Den] at hx hy;obtain⟨a,vs,ev,ha,la⟩:=hx;obtain⟨b,us,eu,hb,lb⟩:=hy;refine .inr (.inr ⟨a,b,vs,us,ev,eu,ha,hb,fun z=>?_,?_,fun z=>?_,fun _ p hp=>q _ _ (i0 hp _) (T4 hp (v4 la lb))⟩)
   rotate_left 2
   ·subst z;have z:ys=[]:=List.length_eq_zero_iff.mp (c6 lb);subst z;refine q _ H (Same.refl H) ?_;show Den _ _ _ _ _;rw[yT,Den];exact⟨a,vs,rfl,ha,la⟩
   ·subst z;exact hl.1 (List.length_eq_zero_iff.mp (c6 la))
   ·rw[<-c6 la,<-c6 lb];exact zX hl.2 v7
  ·cases e
 ·rename_i xs ys;unfold oCat at e;split at e
  ·rename_i hl;cases e;obtain⟨a,vs,ev,ha,la⟩:=hx;obtain⟨b,us,eu,hb,lb⟩:=hy;refine .inr (.inl ⟨a,b,vs,us,ev,eu,ha,hb,?_,fun p hp=>q _ _ (i0 hp _) (G4 hp (v4 la lb))⟩);rw[<-c6 la,<-c6 lb];exact zX hl v7
  ·cases e) ha hb
def fUn (op:D->Option W) (f:FX):FX:=fun ρ=>(f ρ).bind fun p=>(dr p.2 p.1.fz).bind fun x=>(op x).map fun w=>(w,p.2)
def Pr1 (X:Cx) (op:D->Option W) (r:V->Hp->VK->Prop):Prop:=∀(A:Av) (x:D) (w:W) (v:V) (H:Hp) (Q:VK),(∀b,A b->∃o,H b=some o)->op x=some w->DenR X.K A H x v->(∀z H',Same H H'->DenW X.K A [] H H' w z->Q z H')->r v H Q
theorem P7 {r:V->Hp->VK->Prop}{op:D->Option W}(k:Pr1 X op r):∀σ H Q,tX X (fUn op f) σ H Q->tUn r (tX X f) σ H Q:=fun σ H Q h0=>tXe h0 fun P O L ρ w ρ' r e q=>by
 unfold fUn at e;obtain⟨⟨w1,ρ1⟩,e1,e⟩:=obs e;dsimp only at e;refine⟨P,O,L,ρ,w1,ρ1,r,e1,fun v H1 H1' r1 s1 d1=>?_⟩;have r3:=r1.grow s1;cases e3:dr ρ1 w1.fz with
 | none=>rw[e3] at e;cases e
 | some x=>
  rw[e3] at e;simp only[bind_some] at e;cases e5:op x with
  | none=>rw[e5] at e;cases e
  | some w'=>
   rw[e5] at e;cases e;exact k _ x w v H1' Q (fun b z=>r3.there z) e5 (C6 r3 e3 (d1.fz r1 s1)) fun z H' s d=>q z H1' H' r3 s d.st
def oNeg:D->Option W
 | .int i=>some (.v (.int (-i)))
 | _=>none
theorem b1P (ha:QX X a f):QX X (.UnaryOp .USub a pos) (fUn oNeg f):=⟨PE.weak (pe_un b1V ha.to) (P7 fun A x w v H Q _ e hx q=>by
 cases x<;>simp only[oNeg] at e<;>cases e
 rename_i i
 exact⟨i,j9 hx,q _ H (Same.refl H) D3⟩)⟩
end
section
variable {X:Cx}{a b c e:Expr}{pos:Pos}{f g h:FX}{t u:FT}{fa:FA}{es rest:List Expr}
def truth:D->Option Bool
 | .non=>some false
 | .bl b=>some b
 | .int i=>some (!decide (i=0))
 | .tup xs=>some (!xs.isEmpty)
 | .lst xs=>some (!xs.isEmpty)
 | .dK ks _=>some (!ks.isEmpty)
 | _=>none
def fTru (f:FX):FT:=fun ρ=>(f ρ).bind fun p=>(dr p.2 p.1.fz).bind fun d=>(truth d).map fun k=>(k,p.2)
theorem a00 {K:PySem.W.Frag}{A:Av}{H:Hp}{xs:List D}{vs:List V}(l:DenL K A H xs vs):(!xs.isEmpty)= !vs.isEmpty:=by
 have:=c6 l
 cases xs<;>cases vs<;>simp_all
theorem a49 {K:PySem.W.Frag}{A:Av}{H:Hp}{d:D}{v:V}{k:Bool}(e:truth d=some k)(h:DenR K A H d v):TruV K v H k:=by
 cases d with
 | non=>cases e;have h:Den K A H .non v:=h;rw[Den] at h;subst h;rfl
 | bl b=>cases e;have h:Den K A H (.bl k) v:=h;rw[Den] at h;subst h;rfl
 | int i=>cases e;have h:Den K A H (.int i) v:=h;rw[Den] at h;subst h;rfl
 | tup xs=>cases e;have h:Den K A H (.tup xs) v:=h;rw[Den] at h;obtain⟨a,vs,rfl,hq,l⟩:=h;exact .inr (.inl ⟨vs,hq,a00 l⟩)
 | lst xs=>cases e;obtain⟨a,vs,rfl,hq,l⟩:=h;exact .inl ⟨vs,hq,a00 l⟩
 | dK ks xs=>
  cases e;obtain⟨a,vs,rfl,hq,hl,l⟩:=h;refine .inr (.inr ⟨_,hq,?_⟩)
  have:=c6 l
  cases ks<;>cases vs<;>cases xs<;>simp_all
 | _=>cases e
theorem A1 (ha:QX X a f)(he:∀whole,isTrue a X.env whole=(do let v <-whole;standAt a.pos;holding [v] (truthy v)):=by intro _;rfl):QT X a (fTru f):=⟨PT.weak (a62 ha.to he) fun σ H Q h0=>tTe h0 fun P O L ρ k ρ' r e q=>by
 unfold fTru at e;obtain⟨⟨w,ρ1⟩,e1,e⟩:=obs e;dsimp only at e;cases e2:dr ρ1 w.fz with
 | none=>rw[e2] at e;cases e
 | some d=>
  rw[e2] at e;simp only[bind_some] at e;cases e3:truth d with
  | none=>rw[e3] at e;cases e
  | some k'=>
   rw[e3] at e;cases e
   exact⟨P,O,L,ρ,w,_,r,e1,fun v H1 H' r1 s1 d1=>⟨k,a49 e3 (C6 (r1.grow s1) e2 (d1.fz r1 s1)),q H' (r1.grow s1)⟩⟩⟩
def fNot (t:FT):FT:=fun ρ=>(t ρ).map fun p=>(!p.1,p.2)
theorem A2 (ha:QT X a t):QT X (.UnaryOp .Not a pos) (fNot t):=⟨PT.weak (L2.b1B ha.to) fun σ H Q h0=>tTe h0 fun P O L ρ k ρ' r e q=>by
 unfold fNot at e;cases e1:t ρ with
 | none=>rw[e1] at e;cases e
 | some p=>rw[e1] at e;obtain⟨k1,ρ1⟩:=p;cases e;exact⟨P,O,L,ρ,k1,_,r,e1,q⟩⟩
def fAnd (t u:FT):FT:=fun ρ=>(t ρ).bind fun p=>if p.1=true then u p.2 else some (false,p.2)
def fOr (t u:FT):FT:=fun ρ=>(t ρ).bind fun p=>if p.1=true then some (true,p.2) else u p.2
theorem a5a (ha:QT X a t):QW X (.BoolOp .And [a] pos) t:=⟨pw_and1 ha.to⟩
theorem a0J (ha:QT X a t):QW X (.BoolOp .Or [a] pos) t:=⟨pw_or1 ha.to⟩
theorem a7t (ha:QT X a t)(hb:QW X (.BoolOp .And (b::rest) pos) u):QW X (.BoolOp .And (a::b::rest) pos) (fAnd t u):=⟨PW.weak (pw_and ha.to hb.to) fun σ H Q h0=>tTe h0 fun P O L ρ k ρ' r e q=>by
 unfold fAnd at e;obtain⟨⟨k1,ρ1⟩,e1,e⟩:=obs e;dsimp only at e;refine⟨P,O,L,ρ,k1,ρ1,r,e1,fun H' r'=>?_⟩;cases k1 with
 | true=>rw[if_pos rfl] at e ⊢;exact⟨P,O,L,ρ1,k,ρ',r',e,q⟩
 | false=>rw[if_neg zT] at e ⊢;cases e;exact q H' r'⟩
theorem Z7 (ha:QT X a t)(hb:QW X (.BoolOp .Or (b::rest) pos) u):QW X (.BoolOp .Or (a::b::rest) pos) (fOr t u):=⟨PW.weak (pw_or ha.to hb.to) fun σ H Q h0=>tTe h0 fun P O L ρ k ρ' r e q=>by
 unfold fOr at e;obtain⟨⟨k1,ρ1⟩,e1,e⟩:=obs e;dsimp only at e;refine⟨P,O,L,ρ,k1,ρ1,r,e1,fun H' r'=>?_⟩;cases k1 with
 | true=>rw[if_pos rfl] at e ⊢;cases e;exact q H' r'
 | false=>rw[if_neg zT] at e ⊢;exact⟨P,O,L,ρ1,k,ρ',r',e,q⟩⟩
theorem a0Z (ha:QW X a t):QT X a t:=⟨PW.pt ha.to⟩
theorem Y7 {op}(ha:QX X a f):QX X (.BoolOp op [a] pos) f:=⟨b1g ha.to⟩
def fAndV (f g:FX):FX:=fun ρ=>(fTest f ρ).bind fun p=>if p.1=true then g p.2 else some (.v (.bl false),p.2)
def fOrV (f g:FX):FX:=fun ρ=>(fTest f ρ).bind fun p=>if p.1=true then some (.v (.bl true),p.2) else g p.2
def fNotV (f:FX):FX:=fun ρ=>(fTest f ρ).map fun p=>(.v (.bl (!p.1)),p.2)
theorem S0 {K:PySem.W.Frag}{A:Av}{σ:L2.St}{H H':Hp}{k:Bool}{v:V}(h:DenW K A σ H H' (.v (.bl k)) v):v= .bl k:=by
 have h:Den K A H' (.bl k) v:=h;exact a0t.mp h
theorem X9 (ha:QX X a f)(hb:QX X (.BoolOp .And (b::rest) pos) g):QX X (.BoolOp .And (a::b::rest) pos) (fAndV f g):=⟨PE.weak (b1m ha.to hb.to) fun σ H Q h0=>tXe h0 fun P O L ρ w ρ' r e q=>by
 unfold fAndV at e;obtain⟨⟨k,ρ1⟩,e1,e⟩:=obs e;dsimp only at e;refine⟨P,O,L,ρ,_,ρ1,r,a0B e1,fun v H1 H' r1 s1 d1=>⟨k,S0 d1,?_⟩⟩;cases k with
 | true=>rw[if_pos rfl] at e ⊢;exact⟨P,O,L,ρ1,w,ρ',r1.grow s1,e,q⟩
 | false=>rw[if_neg zT] at e ⊢;cases e;exact q _ H' H' (r1.grow s1) (Same.refl _) t5⟩
def fIf (t:FT) (f g:FX):FX:=fun ρ=>(t ρ).bind fun p=>if p.1=true then f p.2 else g p.2
theorem qx_if (hc:QT X c t)(ha:QX X a f)(hb:QX X b g):QX X (.IfExp c a b pos) (fIf t f g):=⟨PE.weak (a7P hc.to ha.to hb.to) fun σ H Q h0=>tXe h0 fun P O L ρ w ρ' r e q=>by
 unfold fIf at e;obtain⟨⟨k,ρ1⟩,e1,e⟩:=obs e;dsimp only at e;refine⟨P,O,L,ρ,k,ρ1,r,e1,fun H' r'=>?_⟩;cases k with
 | true=>rw[if_pos rfl] at e ⊢;exact⟨P,O,L,ρ1,w,ρ',r',e,q⟩
 | false=>rw[if_neg zT] at e ⊢;exact⟨P,O,L,ρ1,w,ρ',r',e,q⟩⟩
def fNil:FA:=fun ρ=>some ([],ρ)
def fCons (f:FX) (fa:FA):FA:=fun ρ=>(f ρ).bind fun p=>(fa p.2).map fun q=>(p.1.fz::q.1,q.2)
theorem c7:QA X [] fNil:=⟨PA.weak N2 fun σ H Q h0=>tAe h0 fun P O L ρ ws ρ' r e q=>by cases e;exact q [] H r rfl⟩
theorem a9 (ha:QX X e f)(hr:QA X es fa)(hs:starEach (e::es) X.env=(false,eval e X.env)::starEach es X.env:=by rfl):QA X (e::es) (fCons f fa):=⟨PA.weak (w8 ha.to hr.to hs) fun σ H Q h0=>tAe h0 fun P O L ρ ws ρ' r e q=>by
 unfold fCons at e;obtain⟨⟨w,ρ1⟩,e1,e⟩:=obs e;dsimp only at e;obtain⟨⟨ws2,ρ2⟩,e2,e⟩:=oms e;cases e;refine⟨P,O,L,ρ,w,ρ1,r,e1,fun v H1 H' r1 s1 d1=>?_⟩;obtain⟨P',r1',k1⟩:=hold (r1.grow s1) (d1.fz r1 s1);refine⟨P',O,L,ρ1,ws2,_,r1',e2,fun vs H2 r2 l2=>?_⟩;obtain⟨r3,d3⟩:=k1 _ H2 r2
 exact q _ H2 r3 ⟨v,vs,rfl,d3,l2⟩⟩
def takeAll:Ev->List W->Option (List D×Ev)
 | ρ,[]=>some ([],ρ)
 | ρ,.v d::ws=>(takeAll ρ ws).map fun p=>(d::p.1,p.2)
 | ρ,.r i::ws=>(frzAt ρ i).bind fun ρ1=>match ρ1[i]? with
  | some (some (.v d))=>(takeAll ρ1 ws).map fun p=>(d::p.1,p.2)
  | _=>none
 | _,_=>none
theorem a3X {ρ ρ':Ev}{σ:L2.St}{O:Av}(h:∀(j:Nat) (w:W) (d:D),ρ'[j]? =some (some w)->w.own=some d->ρ[j]? =some (some w)):∀b,AvO O ρ' σ b->AvO O ρ σ b:=fun b z=>z.imp id fun⟨j,w,d,e1,e2,e3⟩=>⟨j,w,d,h j w d e1 e2,e2,e3⟩
theorem r0 {P:List (D×V)}{O:Av}{L:List (Option Nat×Addr)}{σ:L2.St}{H:Hp}:∀{ws:List W} {ds:List D} {vs:List V} {ρ ρ':Ev},Rep X P O L ρ σ H->takeAll ρ ws=some (ds,ρ')->DenA X.K (AvO O ρ σ) σ H ws vs->
  Rep X P O L ρ' σ H/\DenL X.K (AvO O ρ' σ) H ds vs/\∀(j:Nat) (w:W) (d:D),ρ'[j]? =some (some w)->w.own=some d->ρ[j]? =some (some w)
 | [],ds,vs,ρ,ρ',r,e,h=>by cases e;have h:vs=[]:=h;subst h;exact⟨r,j7,fun j w d e _=>e⟩
 | .v d::ws,ds,vs,ρ,ρ',r,e,h=>by
  obtain⟨v,rs,rfl,h1,h2⟩:=h;rw[takeAll] at e;obtain⟨⟨ds1,ρ1⟩,e1,e⟩:=oms e;cases e;obtain⟨r1,l1,k1⟩:=r0 r e1 h2;exact⟨r1,j6 (p7 (w6 (a3X k1)) _ _ h1) l1,k1⟩
 | .r i::ws,ds,vs,ρ,ρ',r,e,h=>by
  obtain⟨v,rs,rfl,h1,h2⟩:=h;have h1:σ[i]? =some (some v):=h1;rw[takeAll] at e;cases e0:frzAt ρ i with
  | none=>rw[e0] at e;cases e
  | some ρ1=>
   rw[e0] at e;simp only[bind_some] at e;obtain⟨r1,k1⟩:=r.frz e0;split at e
   ·rename_i d q;obtain⟨⟨ds1,ρ2⟩,e1,e⟩:=oms e;cases e;have go1:∀{ws:List W} {vs:List V},DenA X.K (AvO O ρ σ) σ H ws vs->DenA X.K (AvO O ρ1 σ) σ H ws vs:=fun{ws}=>by
     induction ws with
     | nil=>exact fun h=>h
     | cons w ws ih=>
      intro vs h;obtain⟨v,rs,rfl,h1,h2⟩:=h;refine⟨v,rs,rfl,?_,ih h2⟩;cases w with
      | v d=>exact p7 (w6 (a3X fun j w d e1 e2=>(k1 j w d e1 e2).1)) _ _ h1
      | _=>exact h1
    obtain⟨r2,l2,k2⟩:=r0 r1 e1 (go1 h2);obtain⟨u,q1,q2⟩:=r1.slot i _ q;rw[h1] at q1;cases q1;have q2:Den X.K (AvO O ρ1 σ) H d v:=q2;exact⟨r2,j6 (p7 (w6 (a3X k2)) _ _ q2) l2,fun j w d e1 e2=>(k1 j w d (k2 j w d e1 e2) e2).1⟩
   ·cases e
 | .o _::ws,ds,vs,ρ,ρ',r,e,h=>by rw[takeAll] at e<;>first|cases e|(intros;nofun)
 | .l _::ws,ds,vs,ρ,ρ',r,e,h=>by rw[takeAll] at e<;>first|cases e|(intros;nofun)
def fTup (fa:FA):FX:=fun ρ=>(fa ρ).bind fun p=>(takeAll p.2 p.1).bind fun q=>if q.1.length<=lim then some (.v (.tup q.1),q.2) else none
def fLst (fa:FA):FX:=fun ρ=>(fa ρ).bind fun p=>(takeAll p.2 p.1).bind fun q=>if q.1.length<=lim then some (.o (.lst q.1),q.2) else none
theorem a13 {mk:List D->W}{σ:L2.St}{H:Hp}{Q:VK}{R:List V->Hp->Prop}(hq:∀(A:Av) (ds:List D) (vs:List V) (H:Hp),(∀v H',Same H H'->DenW X.K A σ H H' (mk ds) v->Q v H')->vs.length<=sizeLine->DenL X.K A H ds vs->R vs H)
  (h:tX X (fun ρ=>(fa ρ).bind fun p=>(takeAll p.2 p.1).bind fun q=>if q.1.length<=lim then some (mk q.1,q.2) else none) σ H Q):tA X fa σ H R:=by
 obtain⟨P,O,L,ρ,w,ρ',r,e,q⟩:=h;dsimp only at e;obtain⟨⟨ws,ρ1⟩,e1,e⟩:=obs e;dsimp only at e;obtain⟨⟨ds,ρ2⟩,e2,e⟩:=obs e;dsimp only at e;split at e
 ·rename_i hl;cases e;refine⟨P,O,L,ρ,ws,ρ1,r,e1,fun vs H1 r1 l1=>?_⟩;obtain⟨r2,l2,_⟩:=r0 r1 e2 l1;exact hq _ ds vs H1 (fun v H' s d=>q v H1 H' r2 s d) (by rw[<-c6 l2];exact zX hl v7) l2
 ·cases e
theorem z0 {k:Nat}(ha:QA X es fa):QX X (.Tuple es k pos) (fTup fa):=⟨PE.weak (a4h ha.to) fun σ H Q h=>a13 (mk:=fun ds=>.v (.tup ds)) (fun A ds vs H q hl l=>⟨hl,fun p hp=>q _ _ (i0 hp _) (T4 hp l)⟩) h⟩
theorem W5 (ha:QA X es fa):QX X (.List es pos) (fLst fa):=⟨PE.weak (b18 ha.to) fun σ H Q h=>a13 (mk:=fun ds=>.o (.lst ds)) (fun A ds vs H q hl l=>⟨hl,fun p hp=>q _ _ (i0 hp _) (G4 hp l)⟩) h⟩
def items:D->Option (List D)
 | .tup xs=>some xs
 | .lst xs=>some xs
 | _=>none
theorem P3 {K:PySem.W.Frag}{A:Av}{H:Hp}{d:D}{xs:List D}{v:V}(e:items d=some xs)(h:DenR K A H d v):∃a vs,v= .ref a/\(SqL K H a vs\/SqT K H a vs)/\DenL K A H xs vs:=by
 cases d<;>simp only[items] at e<;>cases e
 ·have h:Den K A H (.tup xs) v:=h;rw[Den] at h;obtain⟨a,vs,e,hq,l⟩:=h;exact⟨a,vs,e,.inr hq,l⟩
 ·obtain⟨a,vs,e,hq,l⟩:=h;exact⟨a,vs,e,.inl hq,l⟩
def strAt (x:Str) (i:Int):Option W:=if x.length<=lim then(atI x.cps.toList i).map fun c=>.v (.str ⟨#[c]⟩) else none
def oIx (x y:D):Option W:=match x,y with
 | .str x,.int i=>strAt x i
 | x,.int i=>(items x).bind fun xs=>(atI xs i).map .v
 | _,_=>none
theorem a80 {K:PySem.W.Frag}{A:Av}{H:Hp}{xs:List D}{vs:List V}{i:Int}{d:D}(l:DenL K A H xs vs)(e:atI xs i=some d):∃v,atI vs i=some v/\Den K A H d v:=by
 unfold atI at e ⊢;rw[<-c6 l];cases q:ixN xs.length i with
 | none=>rw[q] at e;cases e
 | some j=>rw[q] at e;exact w5 l e
theorem k_ix:Pr2 X oIx (rIx X.K):=by
 intro A x y w v u H Q _ e hx hy q;unfold oIx at e;split at e
 ·rename_i z i;unfold strAt at e;split at e
  ·rename_i hl;obtain⟨ch,e1,e⟩:=oms e;cases e;have hx:Den X.K A H (.str z) v:=hx;exact .inr (.inr ⟨z,i,ch,a0o.mp hx,j9 hy,zX hl v7,e1,q _ H (Same.refl H) a6E⟩)
  ·cases e
 ·rename_i i _;cases e1:items x with
  | none=>rw[e1] at e;cases e
  | some xs=>
   rw[e1] at e;simp only[bind_some] at e;obtain⟨d,e2,e⟩:=oms e;cases e;obtain⟨a,vs,rfl,hq,l⟩:=P3 e1 hx;obtain⟨v',h1,h2⟩:=a80 l e2;rcases hq with hq|hq
   ·exact .inl ⟨a,vs,i,v',rfl,j9 hy,hq,h1,q _ H (Same.refl H) h2⟩
   ·exact .inr (.inl ⟨a,vs,i,v',rfl,j9 hy,hq,h1,q _ H (Same.refl H) h2⟩)
 ·cases e
def fCall (k:List D->Option W) (fa:FA):FX:=fun ρ=>(fa ρ).bind fun p=>(drs p.2 p.1).bind fun ds=>(k ds).map fun w=>(w,p.2)
def PrA (X:Cx) (k:List D->Option W) (r:List V->Hp->VK->Prop):Prop:=∀(A:Av) (ds:List D) (w:W) (vs:List V) (H:Hp) (Q:VK),(∀b,A b->∃o,H b=some o)->k ds=some w->DenRL X.K A H ds vs->(∀z H',Same H H'->DenW X.K A [] H H' w z->Q z H')->r vs H Q
theorem P0 {r:List V->Hp->VK->Prop}{k:List D->Option W}(hk:PrA X k r):∀σ H Q,tX X (fCall k fa) σ H Q->tCB r (tA X fa) σ H Q:=fun σ H Q h0=>tXe h0 fun P O L ρ w ρ' r e q=>by
 unfold fCall at e;obtain⟨⟨ws,ρ1⟩,e1,e⟩:=obs e;dsimp only at e;cases e2:drs ρ1 ws with
 | none=>rw[e2] at e;cases e
 | some ds=>
  rw[e2] at e;simp only[bind_some] at e;cases e3:k ds with
  | none=>rw[e3] at e;cases e
  | some w'=>
   rw[e3] at e;cases e;exact⟨P,O,L,ρ,ws,ρ',r,e1,fun vs H1 r1 l1=>hk _ ds w vs H1 Q (fun b z=>r1.there z) e3 (a5p r1 e2 l1) fun z H2 s2 d2=>q z H1 H2 r1 s2 d2.st⟩
theorem a3e {x:Str}{p:Pos}{id:String}{r:List V->Hp->VK->Prop}{k:List D->Option W}(hc:CallR X (.builtin id) r)(hk:PrA X k r)(hv:bootBuiltins x=some (.builtin id))(hm:X.mg x=none)(ha:QA X (e::es) fa)(hg:Gl X x)(hn:x≠"__name__")(hdb:(x==("__debug__":Str))=false)
  (he:starEach (e::es) X.env=(false,eval e X.env)::starEach es X.env) (hpl:(backTo pos (starEach es X.env)).any (·.1)=false):QX X (.Call (.Name x p) (e::es) [] pos) (fCall k fa):=⟨PE.weak (C8 hc hg hm hv ha.to hn hdb he hpl) (P0 hk)⟩
theorem a76 {x:Str}{p:Pos}{T:String}{r:List V->Hp->VK->Prop}{k:List D->Option W}(hc:CallR X (.type T) r)(hk:PrA X k r)(hv:bootBuiltins x=some (.type T))(hm:X.mg x=none)(ha:QA X (e::es) fa)(hg:Gl X x)(hn:x≠"__name__")(hdb:(x==("__debug__":Str))=false)
  (he:starEach (e::es) X.env=(false,eval e X.env)::starEach es X.env) (hpl:(backTo pos (starEach es X.env)).any (·.1)=false):QX X (.Call (.Name x p) (e::es) [] pos) (fCall k fa):=⟨PE.weak (Z0 hc hg hm hv ha.to hn hdb he hpl) (P0 hk)⟩
theorem denRL1 {K:PySem.W.Frag}{A:Av}{H:Hp}{d:D}{vs:List V}(l:DenRL K A H [d] vs):∃v,vs=[v]/\DenR K A H d v:=by
 obtain⟨v,r,rfl,h,l⟩:=l;have l:r=[]:=l;subst l;exact⟨v,rfl,h⟩
theorem denRL2 {K:PySem.W.Frag}{A:Av}{H:Hp}{d d':D}{vs:List V}(l:DenRL K A H [d,d'] vs):∃v v',vs=[v,v']/\DenR K A H d v/\DenR K A H d' v':=by
 obtain⟨v,r,rfl,h,l⟩:=l;obtain⟨v',rfl,h'⟩:=denRL1 l;exact⟨v,v',rfl,h,h'⟩
end
inductive R where
 | nx (ρ:Ev)|bk (ρ:Ev)|ct (ρ:Ev)|rt (w:W) (ρ:Ev)
abbrev FS:=Ev->Option R
abbrev A0 (O:Av) (L:List (Option Nat×Addr)):Av:=fun b=>O b\/∃i:Nat,(some i,b)∈L
def EndsOk (X:Cx) (P:List (D×V)) (O:Av) (L:List (Option Nat×Addr)) (E:Ends):R->Prop
 | .nx ρ=>∀σ H,Rep X P O L ρ σ H->E.nx σ H
 | .bk ρ=>∀σ H,Rep X P O L ρ σ H->E.bk σ H
 | .ct ρ=>∀σ H,Rep X P O L ρ σ H->E.ct σ H
 | .rt w ρ=>∀v H,(∀b o,X.H₀ b=some o->(∀i,(i,b)∉L)->H b=some o)->(∀(i:Nat) b,(some i,b)∈L->∃c,ownAt ρ i=some c/\Obj X.K (A0 O L) H b c)->DenW X.K (A0 O L) [] (hz X L) H w v->E.rt v H
def tS (X:Cx) (F:FS):TS:=fun E σ H=>∃P O L ρ r,Rep X P O L ρ σ H/\F ρ=some r/\EndsOk X P O L E r
theorem tSe {X:Cx}{F:FS}{E:Ends}{σ:L2.St}{H:Hp}{C:Prop}(h:tS X F E σ H)(k:∀P O L ρ r,Rep X P O L ρ σ H->F ρ=some r->EndsOk X P O L E r->C):C:=by
 obtain⟨P,O,L,ρ,r,rp,e,q⟩:=h;exact k P O L ρ r rp e q
structure QS (X:Cx) (st:Stmt) (F:FS):Prop where
 to:PS X st (tS X F)
structure QSs (X:Cx) (st:List Stmt) (F:FS):Prop where
 to:PSs X st (tS X F)
theorem PS.weak {X:Cx}{e:Stmt}{t u:TS}(h:PS X e t)(w:∀E σ H,u E σ H->t E σ H):PS X e u:=fun pins s σ H E I q=>h pins s σ H E I (w E σ H q)
theorem PSs.weak {X:Cx}{e:List Stmt}{t u:TS}(h:PSs X e t)(w:∀E σ H,u E σ H->t E σ H):PSs X e u:=fun pins s σ H E I q=>h pins s σ H E I (w E σ H q)
def fThen (F G:FS):FS:=fun ρ=>(F ρ).bind fun r=>match r with
 | .nx ρ'=>G ρ'
 | r=>some r
section
variable {X:Cx}{P:List (D×V)}{O:Av}{L:List (Option Nat×Addr)}{ρ ρ':Ev}{σ:L2.St}{H H1 H':Hp}{w:W}{d:D}{v:V}
theorem Rep.a0 (r:Rep X P O L ρ σ H){b:Addr}(z:A0 O L b):AvO O ρ σ b:=z.imp id fun⟨i,z⟩=>by
 obtain⟨d,h1,h2⟩:=r.lnd i b z;exact⟨i,_,d,h1,rfl,h2⟩
theorem Rep.lents (r:Rep X P O L ρ σ H):∀(i:Nat) b,(some i,b)∈L->∃c,ownAt ρ i=some c/\Obj X.K (A0 O L) H b c:=fun i b z=>by
 obtain⟨d,h1,h2⟩:=r.lnd i b z;obtain⟨a,h3,h4⟩:=r.obj h1 rfl;rw[h2] at h3;cases h3;exact⟨d,by unfold ownAt;rw[h1];rfl,w9 (w6 fun b z=>r.a0 z) rfl h4⟩
def bindW (ρ:Ev) (i:Nat):W->Option Ev
 | .v d=>if freeSlot ρ i=true then some (ρ.set i (some (.v d))) else none
 | .o d=>if freeSlot ρ i=true then some (ρ.set i (some (.o d))) else none
 | .r j=>(frzAt ρ j).bind fun ρ1=>match ρ1[j]? with
  | some (some (.v d))=>if freeSlot ρ1 i=true then some (ρ1.set i (some (.v d))) else none
  | _=>none
 | .l _=>none
theorem a9S {i:Nat}(r:Rep X P O L ρ σ H1)(s:Same H1 H')(h:DenW X.K (AvO O ρ σ) σ H1 H' w v)(e:bindW ρ i w=some ρ'):Rep X P O L ρ' (σ.set i (some v)) H':=by
 cases w with
 | v d=>
  rw[bindW] at e;split at e
  ·rename_i hf;cases e;exact(r.grow s).put hf h
  ·cases e
 | o d=>
  rw[bindW] at e;split at e
  ·rename_i hf;cases e;obtain⟨a,rfl,hn,ob⟩:=h;exact r.putO s hf hn ob
  ·cases e
 | r j=>
  rw[bindW] at e;cases e1:frzAt ρ j with
  | none=>rw[e1] at e;cases e
  | some ρ1=>
   rw[e1] at e;simp only[bind_some] at e;obtain⟨r1,_⟩:=(r.grow s).frz e1;split at e
   ·rename_i d q;split at e
    ·rename_i hf;cases e;obtain⟨u,q1,q2⟩:=r1.slot j _ q;have h:σ[j]? =some (some v):=h;rw[h] at q1;cases q1;exact r1.put hf q2
    ·cases e
   ·cases e
 | l d=>cases e
def retW (ρ:Ev):W->Option R
 | .v d=>some (.rt (.v d) ρ)
 | .o d=>some (.rt (.o d) ρ)
 | .r i=>match ρ[i]? with
  | some (some (.o d))=>some (.rt (.o d) ρ)
  | some (some (.v d))=>some (.rt (.v d) ρ)
  | _=>none
 | .l _=>none
theorem b14 {E:Ends}{q:R}(r:Rep X P O L ρ σ H1)(s:Same H1 H')(h:DenW X.K (AvO O ρ σ) σ H1 H' w v)(e:retW ρ w=some q)(hq:EndsOk X P O L E q):E.rt v H':=by
 have r':=r.grow s;cases w with
 | v d=>cases e;exact hq v H' r'.same r'.lents (p7 (w6 fun b z=>r.a0 z) _ _ h)
 | o d=>
  cases e;obtain⟨a,rfl,hn,ob⟩:=h;exact hq _ H' r'.same r'.lents ⟨a,rfl,r.fresh0 hn,w9 (w6 fun b z=>z.imp (fun z=>r.a0 z) id) rfl ob⟩
 | r i=>
  rw[retW] at e;have h:σ[i]? =some (some v):=h;split at e
  ·rename_i d q;cases e;obtain⟨a,h1,h2⟩:=r'.obj q rfl;rw[h] at h1;cases h1;refine hq _ H' r'.same r'.lents ⟨a,rfl,r'.new i d a q h,w9 (w6 fun b z=>?_) rfl h2⟩;rcases z with z|z
   ·exact r.a0 z
   ·rw[z];exact .inr ⟨i,_,d,q,rfl,h⟩
  ·rename_i d q;cases e;obtain⟨u,q1,q2⟩:=r'.slot i _ q;rw[h] at q1;cases q1;exact hq v H' r'.same r'.lents (p7 (w6 fun b z=>r.a0 z) _ _ q2)
  ·cases e
 | l d=>cases e
end
section
variable {X:Cx}{a c e:Expr}{st:Stmt}{rest bd els:List Stmt}{pos:Pos}{f g:FX}{t:FT}{fa:FA}{F G:FS}
theorem j5:QSs X [] (fun ρ=>some (.nx ρ)):=⟨PSs.weak a82 fun E σ H h0=>tSe h0 fun P O L ρ r rp e q=>by cases e;exact q σ H rp⟩
theorem c5 (h1:QS X st F)(h2:QSs X rest G):QSs X (st::rest) (fThen F G):=⟨PSs.weak (a7j h1.to h2.to) fun E σ H h0=>tSe h0 fun P O L ρ r rp e q=>by
 unfold fThen at e;obtain⟨r1,e1,e⟩:=obs e;refine⟨P,O,L,ρ,r1,rp,e1,?_⟩;cases r1 with
 | nx ρ'=>exact fun σ' H' rp'=>⟨P,O,L,ρ',r,rp',e,q⟩
 | bk ρ'=>cases e;exact q
 | ct ρ'=>cases e;exact q
 | rt d ρ'=>cases e;exact q⟩
theorem c8 (h1:QS X st F):QSs X [st] F:=⟨a9Y h1.to⟩
theorem a6K:QS X st (fun _=>none):=⟨PS.weak a8V fun E σ H h0=>tSe h0 fun P O L ρ r rp e q=>by cases e⟩
theorem a8l {e c:Option Expr}:QS X (.Raise e c pos) (fun _=>none):=a6K
def fRet (f:FX):FS:=fun ρ=>(f ρ).bind fun p=>retW p.2 p.1
theorem j1 (ha:QX X e f):QS X (.Return (some e) pos) (fRet f):=⟨PS.weak (b1W ha.to) fun E σ H h0=>tSe h0 fun P O L ρ r rp e q=>by
 unfold fRet at e;obtain⟨⟨w,ρ1⟩,e1,e⟩:=obs e
 exact⟨P,O,L,ρ,w,ρ1,rp,e1,fun v H1 H' r1 s1 d1=>b14 r1 s1 d1 e q⟩⟩
def fIfS (t:FT) (F G:FS):FS:=fun ρ=>(t ρ).bind fun p=>if p.1=true then F p.2 else G p.2
theorem t4 (hc:QT X c t)(ha:QSs X bd F)(hb:QSs X els G):QS X (.If c bd els pos) (fIfS t F G):=⟨PS.weak (ps_if hc.to ha.to hb.to) fun E σ H h0=>tSe h0 fun P O L ρ r rp e q=>by
 unfold fIfS at e;obtain⟨⟨k,ρ1⟩,e1,e⟩:=obs e;dsimp only at e;refine⟨P,O,L,ρ,k,ρ1,rp,e1,fun H1 r1=>?_⟩;cases k with
 | true=>rw[if_pos rfl] at e ⊢;exact⟨P,O,L,ρ1,r,r1,e,q⟩
 | false=>rw[if_neg zT] at e ⊢;exact⟨P,O,L,ρ1,r,r1,e,q⟩⟩
def fAsg (i:Nat) (f:FX):FS:=fun ρ=>(f ρ).bind fun p=>(bindW p.2 i p.1).map .nx
theorem k6 (i:Nat){x:Str}{pos':Pos}(hN:X.N.Nodup)(ha:QX X e f)(hi:X.N[i]? =some x:=by rfl)(hx:Loc X.env.scope x:=by first|exact Or.inl rfl|exact Or.inr rfl)(hs:swapsWith e (some (.Name x pos')) pos.line X.env=pure false:=by rfl)(hf:X.fn x=true\/X.env.scope.names.lookup x=some .local:=by first|exact .inl rfl|exact .inr rfl):
  QS X (.Assign [.Name x pos'] e pos) (fAsg i f):=⟨PS.weak (b05 hN hi hx ha.to hs hf) fun E σ H h0=>tSe h0 fun P O L ρ r rp e q=>by
 unfold fAsg at e;obtain⟨⟨w,ρ1⟩,e1,e⟩:=obs e;dsimp only at e;obtain⟨ρ2,e2,e⟩:=oms e;cases e
 exact⟨P,O,L,ρ,w,ρ1,rp,e1,fun v H1 H' r1 s1 d1=>q _ H' (a9S r1 s1 d1 e2)⟩⟩
abbrev FG:=D->Ev->Option Ev
def GOk (X:Cx) (g:TG) (gf:FG):Prop:=∀(P:List (D×V)) (O:Av) (L:List (Option Nat×Addr)) (d:D) (v:V) (ρ ρ':Ev) (σ:L2.St) (H:Hp) (Q:L2.St->Hp->Prop),Rep X P O L ρ σ H->Den X.K (AvO O ρ σ) H d v->gf d ρ=some ρ'->(∀σ' H',Rep X P O L ρ' σ' H'->Q σ' H')->g v σ H Q
structure QG (X:Cx) (tg:Expr) (gf:FG):Prop where
 to:∃g,PG X tg g/\GOk X g gf
abbrev FGs:=List D->Ev->Option Ev
structure QGs (X:Cx) (tgs:List Expr) (n:Nat) (gf:FGs):Prop where
 to:∃g,PGs X tgs g/\∀(P:List (D×V)) (O:Av) (L:List (Option Nat×Addr)) (ds:List D) (vs:List V) (ρ ρ':Ev) (σ:L2.St) (H:Hp) (Q:L2.St->Hp->Prop),Rep X P O L ρ σ H->DenL X.K (AvO O ρ σ) H ds vs->gf ds ρ=some ρ'->(∀σ' H',Rep X P O L ρ' σ' H'->Q σ' H')->g vs σ H Q
 len:∀ds ρ ρ',gf ds ρ=some ρ'->ds.length=n
def gfName (i:Nat):FG:=fun d ρ=>if freeSlot ρ i=true then some (ρ.set i (some (.v d))) else none
theorem g9 (i:Nat){x:Str}(hN:X.N.Nodup)(hi:X.N[i]? =some x:=by rfl)(hx:Loc X.env.scope x:=by first|exact Or.inl rfl|exact Or.inr rfl)(hf:X.fn x=true\/X.env.scope.names.lookup x=some .local:=by first|exact .inl rfl|exact .inr rfl):QG X (.Name x pos) (gfName i):=
 ⟨gName i,a85 hN hi hx hf,fun P O L d v ρ ρ' σ H Q r h e q=>by
  unfold gfName at e;split at e
  ·rename_i hf;cases e;exact q _ H (r.put hf h)
  ·cases e⟩
def gfNil:FGs:=fun ds ρ=>match ds with
 | []=>some ρ
 | _=>none
def gfCons (gf:FG) (gs:FGs):FGs:=fun ds ρ=>match ds with
 | d::ds=>(gf d ρ).bind (gs ds)
 | _=>none
def gfTup (gs:FGs):FG:=fun d ρ=>match d with
 | .tup ds=>gs ds ρ
 | _=>none
theorem B6:QGs X [] 0 gfNil:=⟨⟨gNil,a9P,fun P O L ds vs ρ ρ' σ H Q r l e q=>by
 cases ds with
 | nil=>cases e;rw[DenL] at l;exact⟨l,q σ H r⟩
 | cons d ds=>cases e⟩,fun ds ρ ρ' e=>by cases ds with|nil=>rfl|cons d ds=>cases e⟩
theorem holdL {P:List (D×V)}{O:Av}{L:List (Option Nat×Addr)}{σ:L2.St}:∀{ds:List D} {vs:List V} {ρ:Ev} {H:Hp},Rep X P O L ρ σ H->DenL X.K (AvO O ρ σ) H ds vs->∃P',Rep X P' O L ρ σ H/\∀ρ2 σ2 H2,Rep X P' O L ρ2 σ2 H2->Rep X P O L ρ2 σ2 H2/\DenL X.K (AvO O ρ2 σ2) H2 ds vs
 | [],vs,ρ,H,r,l=>⟨P,r,fun ρ2 σ2 H2 r2=>⟨r2,by rw[DenL] at l ⊢;exact l⟩⟩
 | d::ds,vs,ρ,H,r,l=>by
  rw[DenL] at l;obtain⟨v,rs,rfl,h,l⟩:=l;obtain⟨P',r1,k1⟩:=holdL r l
  exact⟨(d,v)::P',r1.more h,fun ρ2 σ2 H2 r2=>by
   obtain⟨r3,l3⟩:=k1 ρ2 σ2 H2 r2.less
   exact⟨r3,j6 r2.head l3⟩⟩
theorem j4 {n:Nat}{tgs:List Expr}{tg:Expr}{gf:FG}{gs:FGs}(h:QG X tg gf)(t:QGs X tgs n gs)(hs:(assignEach (tg::tgs) X.env).map (·.2)=assign tg X.env::(assignEach tgs X.env).map (·.2):=by rfl):QGs X (tg::tgs) (n+1) (gfCons gf gs):=by
 obtain⟨g,p,k⟩:=h.to;obtain⟨gg,pp,kk⟩:=t.to;refine⟨⟨gCons g gg,a8Q p pp hs,fun P O L ds vs ρ ρ' σ H Q r l e q=>?_⟩,fun ds ρ ρ' e=>?_⟩
 ·cases ds with
  | nil=>cases e
  | cons d ds=>
   rw[DenL] at l;obtain⟨v,rs,rfl,hd,l⟩:=l;simp only[gfCons] at e;obtain⟨ρ1,e1,e⟩:=obs e;obtain⟨P',r1,k1⟩:=holdL r l;refine⟨v,rs,rfl,k P' O L d v ρ ρ1 σ H _ r1 hd e1 fun σ' H' r2=>?_⟩;obtain⟨r3,l3⟩:=k1 _ _ _ r2;exact kk P O L ds rs ρ1 ρ' σ' H' Q r3 l3 e q
 ·cases ds with
  | nil=>cases e
  | cons d ds=>
   simp only[gfCons] at e;cases e1:gf d ρ with
   | none=>rw[e1] at e;cases e
   | some ρ1=>rw[e1] at e;rw[zV,t.len ds ρ1 ρ' e]
theorem F0 {tgs:List Expr}{n k:Nat}{gs:FGs}(hc:X.calm=true)(h:QGs X tgs n gs)(hn:(assignEach tgs X.env).length=n:=by rfl)(hst:(assignEach tgs X.env).findIdx? (·.1)=none:=by rfl):QG X (.Tuple tgs k pos) (gfTup gs):=by
 obtain⟨gg,pp,kk⟩:=h.to;refine⟨gTup X.K n gg,b1M hc pp hn hst,fun P O L d v ρ ρ' σ H Q r hd e q=>?_⟩;cases d with
 | tup ds=>
  rw[Den] at hd;obtain⟨a,vs,ev,hq,l⟩:=hd;exact⟨a,vs,ev,hq,by rw[<-c6 l];exact h.len ds ρ ρ' e,kk P O L ds vs ρ ρ' σ H Q r l e q⟩
 | _=>cases e
def gfSub (f g:FX):FG:=fun d ρ=>(f ρ).bind fun p=>match p.1 with
 | .r j=>(g p.2).bind fun q=>(dr q.2 q.1.fz).bind fun k=>match k,ownAt q.2 j with
  | .int k,some (.lst xs)=>(ixN xs.length k).map fun n=>setOwn q.2 j (.lst (xs.set n d))
  | _,_=>none
 | _=>none
def fAsgG (f:FX) (gf:FG):FS:=fun ρ=>(f ρ).bind fun p=>(takeAll p.2 [p.1.fz]).bind fun q=>match q.1 with
 | [d]=>(gf d q.2).map .nx
 | _=>none
theorem R1 {tg:Expr}{gf:FG}(ha:QX X e f)(hg:QG X tg gf)(hs:swapsWithSole [tg] e pos.line X.env=pure false:=by rfl)(hw:swappedStores [tg] e X.env=pure none:=by rfl)(h1:(assignEach [tg] X.env).map (·.2)=[assign tg X.env]:=by rfl):QS X (.Assign [tg] e pos) (fAsgG f gf):=by
 obtain⟨g,p,k⟩:=hg.to;refine⟨PS.weak (b1v ha.to p hs hw h1) fun E σ H h0=>tSe h0 fun P O L ρ r rp e q=>?_⟩;unfold fAsgG at e;obtain⟨⟨w,ρ1⟩,e1,e⟩:=obs e;dsimp only at e;obtain⟨⟨ds,ρ2⟩,e2,e⟩:=obs e;dsimp only at e;split at e
 ·rename_i d;obtain⟨ρ3,e3,e⟩:=oms e;cases e;refine⟨P,O,L,ρ,w,ρ1,rp,e1,fun v H1 H' r1 s1 d1=>?_⟩;obtain⟨r2,l2,_⟩:=r0 (vs:=[v]) (r1.grow s1) e2 ⟨v,[],rfl,d1.fz r1 s1,rfl⟩;obtain⟨v',ev,h'⟩:=denL1 l2;cases ev;exact k P O L d v ρ2 ρ3 σ H' _ r2 h' e3 fun σ' H' r'=>q σ' H' r'
 ·cases e
def fDrop (f:FX):FS:=fun ρ=>(f ρ).map fun p=>.nx p.2
theorem a0l (ha:QX X e f)(hs:swapsWith e none pos.line X.env=pure false:=by rfl):QS X (.Expr e pos) (fDrop f):=⟨PS.weak (a9G ha.to hs) fun E σ H h0=>tSe h0 fun P O L ρ r rp e q=>by
 unfold fDrop at e;obtain⟨p,e1,e⟩:=oms e;cases e
 exact⟨P,O,L,ρ,p.1,p.2,rp,e1,fun v H1 H' r1 s1 d1=>q σ H' (r1.grow s1)⟩⟩
def fPar (i j:Nat) (fa:FA):FS:=fun ρ=>(fa ρ).bind fun p=>(takeAll p.2 p.1).bind fun q=>match q.1 with
 | [d,d']=>if freeSlot q.2 i=true/\freeSlot (q.2.set i (some (.v d))) j=true then some (.nx ((q.2.set i (some (.v d))).set j (some (.v d')))) else none
 | _=>none
end
def whileF (c:FT) (b:FS):Nat->Ev->Option R
 | 0,_=>none
 | n+1,ρ=>(c ρ).bind fun k=>if k.1=true then(b k.2).bind (fun r=>match r with
   | .nx ρ'=>whileF c b n ρ'
   | .ct ρ'=>whileF c b n ρ'
   | .bk ρ'=>some (.nx ρ')
   | .rt d ρ'=>some (.rt d ρ')) else some (.nx k.2)
theorem K5 {c:FT}{b:FS}:∀{n:Nat} {ρ:Ev} {r:R},whileF c b n ρ=some r->whileF c b (n+1) ρ=some r
 | 0,ρ,r,h=>by cases h
 | n+1,ρ,r,h=>by
  rw[whileF] at h ⊢;cases e:c ρ with
  | none=>rw[e] at h;cases h
  | some k=>
   rw[e] at h;obtain⟨k,ρ1⟩:=k;cases k with
   | false=>exact h
   | true=>
    simp only[bind_some,qW] at h ⊢;cases e2:b ρ1 with
    | none=>rw[e2] at h;cases h
    | some r2=>
     rw[e2] at h;cases r2 with
     | nx ρ'=>exact K5 (n:=n) h
     | ct ρ'=>exact K5 (n:=n) h
     | bk ρ'=>exact h
     | rt d ρ'=>exact h
theorem a1S {c:FT}{b:FS}{n m:Nat}{ρ:Ev}{r:R}(h:whileF c b n ρ=some r)(hm:n<=m):whileF c b m ρ=some r:=by
 induction hm with
 | refl=>exact h
 | step _ ih=>exact K5 ih
open Classical in
def whileV (c:FT) (b:FS):FS:=fun ρ=>if h:∃r,∃n,whileF c b n ρ=some r then some h.choose else none
theorem a6h {c:FT}{b:FS}{n:Nat}{ρ:Ev}{r:R}(h:whileF c b n ρ=some r):whileV c b ρ=some r:=by
 have z:∃r,∃n,whileF c b n ρ=some r:=⟨r,n,h⟩;unfold whileV;rw[dif_pos z];obtain⟨m,hm⟩:=z.choose_spec;have h1:=a1S h (Nat.le_max_left n m);have h2:=a1S hm (Nat.le_max_right n m);rw[h1] at h2;exact h2.symm
theorem a6k {c:FT}{b:FS}{ρ:Ev}{r:R}(h:whileV c b ρ=some r):∃n,whileF c b n ρ=some r:=by
 unfold whileV at h;split at h
 ·rename_i z;cases h;exact z.choose_spec
 ·cases h
section
variable {X:Cx}{a b c e:Expr}{body:List Stmt}{pos:Pos}{f g:FX}{t:FT}{fa:FA}{F:FS}
theorem a6X (hp:PassesOwn (model X.prog X.w) X.A X.env X.xe)(hc:QT X c t)(hb:QSs X body F):QS X (.While c body [] pos) (whileV t F):=⟨PS.weak (a7s hp hc.to hb.to) fun E σ H h0=>tSe h0 fun P O L ρ r rp e q=>by
 obtain⟨n,e⟩:=a6k e;refine⟨fun m σ H=>∃ρ,Rep X P O L ρ σ H/\whileF t F m ρ=some r,⟨n,ρ,rp,e⟩,fun m σ H ⟨ρ,rp,e⟩=>?_⟩;cases m with
 | zero=>cases e
 | succ m=>
  rw[whileF] at e;obtain⟨⟨k,ρ1⟩,e1,e⟩:=obs e;refine⟨P,O,L,ρ,k,ρ1,rp,e1,fun H1 r1=>?_⟩;cases k with
  | false=>
   rw[if_neg zT];cases e;exact q σ H1 r1
  | true=>
   rw[if_pos rfl];simp only[bind_some,qW] at e;obtain⟨r2,e2,e⟩:=obs e;refine⟨fun σ' H'=>∃ρ,Rep X P O L ρ σ' H'/\whileF t F m ρ=some r,fun σ' H' h=>⟨m,xA m,h⟩,P,O,L,ρ1,r2,r1,e2,?_⟩;cases r2 with
   | nx ρ'=>exact fun σ' H' rp'=>⟨ρ',rp',e⟩
   | ct ρ'=>exact fun σ' H' rp'=>⟨ρ',rp',e⟩
   | bk ρ'=>cases e;exact fun σ' H' rp'=>q σ' H' rp'
   | rt d ρ'=>cases e;exact q⟩
abbrev FI:=Ev->Option (List D×Ev)
def Wks (K:PySem.W.Frag) (P:List (D×V)) (xs:List D) (J:It):Prop:=∀(Y:Cx) (O:Av) (L:List (Option Nat×Addr)) (ρ:Ev) (σ:L2.St) (H:Hp),Y.K=K->Rep Y P O L ρ σ H->
 (∀(i:Nat) (x:D),xs[i]? =some x->J.go i H/\∀v H',J.yld i H v H'->Same H H'/\Den K (AvO O ρ σ) H' x v)/\J.stop xs.length H
def Holds (P P':List (D×V)):Prop:=∀p∈P',p∈P
theorem Rep.holds {P P':List (D×V)}{O:Av}{L:List (Option Nat×Addr)}{ρ:Ev}{σ:L2.St}{H:Hp}(r:Rep X P O L ρ σ H)(h:Holds P P'):Rep X P' O L ρ σ H:=⟨r.same,r.amb,r.len,r.slot,r.inj,r.new,r.lnt,r.lnd,fun p hp=>r.prot p (h p hp),r.gvl⟩
def tI (X:Cx) (fi:FI):TI:=fun σ H R=>∃P O L ρ xs ρ',Rep X P O L ρ σ H/\fi ρ=some (xs,ρ')/\∀J H1 P',Rep X P' O L ρ' σ H1->Holds P' P->Wks X.K P' xs J->R J H1
theorem tIe {X:Cx}{fi:FI}{σ:L2.St}{H:Hp}{R:It->Hp->Prop}{C:Prop}(h:tI X fi σ H R)(k:∀P O L ρ xs ρ',Rep X P O L ρ σ H->fi ρ=some (xs,ρ')->(∀J H1 P',Rep X P' O L ρ' σ H1->Holds P' P->Wks X.K P' xs J->R J H1)->C):C:=by
 obtain⟨P,O,L,ρ,w,ρ',r,e,q⟩:=h;exact k P O L ρ w ρ' r e q
structure QI (X:Cx) (tg iter:Expr) (fi:FI):Prop where
 to:PI X tg iter (tI X fi)
theorem PI.weak {tg e:Expr}{t u:TI}(h:PI X tg e t)(w:∀σ H Q,u σ H Q->t σ H Q):PI X tg e u:=fun pins s σ H Q I q=>h pins s σ H Q I (w σ H Q q)
def iSeq (K:PySem.W.Frag) (tl:TE):TI:=fun σ H R=>tl σ H fun x H1=>(∃a,x= .ref a/\(∃xs,SqL K H1 a xs)/\R (Itl K a) H1)\/∃a,x= .ref a/\(∃xs,SqT K H1 a xs)/\R (Itt K a) H1
theorem a6G {tg l:Expr}{tl:TE}(hl:PE X l tl):PI X tg l (iSeq X.K tl):=by
 intro pins s σ H R I h;refine thn (hl pins s σ H _ I h) fun v s1 ⟨x,H1,I1,r1,q1⟩=>?_;rcases q1 with ⟨a,e,⟨xs,hq⟩,q⟩|⟨a,e,⟨xs,hq⟩,q⟩
 ·subst e;cases r1;obtain⟨its,rv,p,hz⟩:=I1.list hq;refine vC p.isList ?_;refine⟨s1.heap.objs.size,[s1.heap.objs.size],_,_,H1,rfl,I1.kept (t':=s1.toks) fun b o e=>zD _ e,a5G a _,⟨_,zK _ rfl,rfl,rfl⟩,fun b hb=>?_,q⟩;have e:b=s1.heap.objs.size:=by simpa using hb
  subst e;exact I1.fpOk (zE _) (I1.hok.fresh (zE _))
 ·subst e;cases r1;obtain⟨its,rv,p,hz⟩:=I1.tuple hq;refine wpAny_pyIter_tuple (show s1.heap.IsTuple a its.toArray from p) ?_;refine⟨s1.heap.objs.size,[s1.heap.objs.size],_,_,H1,rfl,I1.kept (t':=s1.toks) fun b o e=>zD _ e,a3O a _,⟨_,zK _ rfl,rfl,rfl⟩,fun b hb=>?_,q⟩;have e:b=s1.heap.objs.size:=by simpa using hb
  subst e;exact I1.fpOk (zE _) (I1.hok.fresh (zE _))
def fiSeq (f:FX):FI:=fun ρ=>(f ρ).bind fun p=>(takeAll p.2 [p.1.fz]).bind fun q=>match q.1 with
 | [d]=>(items d).map fun xs=>(xs,q.2)
 | _=>none
theorem W8 {tg l:Expr}(hl:QX X l f):QI X tg l (fiSeq f):=⟨PI.weak (a6G hl.to) fun σ H R h0=>tIe h0 fun P O L ρ xs ρ' r e q=>by
 unfold fiSeq at e;obtain⟨⟨w,ρ1⟩,e1,e⟩:=obs e;dsimp only at e;obtain⟨⟨ds,ρ2⟩,e2,e⟩:=obs e;dsimp only at e;split at e
 ·rename_i d;obtain⟨ys,e3,e⟩:=oms e;cases e;refine⟨P,O,L,ρ,w,ρ1,r,e1,fun v H1 H' r1 s1 d1=>?_⟩;obtain⟨r2,l2,_⟩:=r0 (vs:=[v]) (r1.grow s1) e2 ⟨v,[],rfl,d1.fz r1 s1,rfl⟩;obtain⟨v',ev,h'⟩:=denL1 l2;cases ev;have r3:=r2.more (p:=(d,v)) h';have hh:Holds ((d,v)::P) P:=fun p hp=>zL _ hp;cases d with
  | tup zs=>
   cases e3;have z:=h';rw[Den] at z;obtain⟨a,vs,rfl,hq,l⟩:=z;refine .inr ⟨a,rfl,⟨vs,hq⟩,q _ H' _ r3 hh fun Y O' L' ρ' σ' Hh hY rr=>?_⟩;have z:=rr.head;rw[hY] at z;rw[Den] at z;obtain⟨a',vs,ea,hq,l⟩:=z;cases ea;refine⟨fun i x ex=>?_,vs,hq,by rw[<-c6 l];exact zE _⟩
   obtain⟨v0,hv,dv⟩:=w5 l ex;exact⟨⟨vs,v0,hq,hv⟩,fun w H' ⟨y1,y2⟩=>by subst y1;have:=y2 vs hq;rw[hv] at this;cases this;exact⟨Same.refl _,dv⟩⟩
  | lst zs=>
   cases e3;obtain⟨a,vs,rfl,hq,l⟩:=F4 h';refine .inl ⟨a,rfl,⟨vs,hq⟩,q _ H' _ r3 hh fun Y O' L' ρ' σ' Hh hY rr=>?_⟩;have z:=rr.head;rw[hY] at z;obtain⟨a',vs,ea,hq,l⟩:=F4 z;cases ea;refine⟨fun i x ex=>?_,vs,hq,by rw[<-c6 l];exact zE _⟩
   obtain⟨v0,hv,dv⟩:=w5 l ex;exact⟨⟨vs,v0,hq,hv⟩,fun w H' ⟨y1,y2⟩=>by subst y1;have:=y2 vs hq;rw[hv] at this;cases this;exact⟨Same.refl _,dv⟩⟩
  | _=>cases e3
 ·cases e⟩
def rngD (lo:Int) (n:Nat):List D:=(List.range n).map fun(i:Nat)=>D.int (lo+i)
theorem a51 {K:PySem.W.Frag}{P:List (D×V)}(lo:Int)(n:Nat):Wks K P (rngD lo n) (Itr lo n):=fun Y O L ρ σ H _ _=>by
 unfold rngD;refine⟨fun i x ex=>?_,by show(List.length _)≥n;simp⟩
 rw[qH] at ex
 by_cases hi:i<n
 ·rw[getElem?_range hi] at ex;cases ex;exact⟨hi,fun v H' ⟨y1,y2⟩=>by subst y1;exact⟨Same.refl _,D9.mpr y2⟩⟩
 ·rw[jR (by simpa using hi)] at ex;cases ex
def fiR1 (fa:FA):FI:=fun ρ=>(fa ρ).bind fun p=>match p.1 with
 | [.v (.int n)]=>if -(2^62)<=n/\n<2^62 then some (rngD 0 n.toNat,p.2) else none
 | _=>none
theorem a11 {tg:Expr}{p:Pos}(hm:X.mg "range"=none)(ha:QA X [a] fa)(hg:Gl X "range":=by rfl)(hs:starEach [a] X.env=[(false,eval a X.env)]:=by rfl):QI X tg (.Call (.Name "range" p) [a] [] pos) (fiR1 fa):=⟨PI.weak (a6l hg hm ha.to hs) fun σ H R h0=>tIe h0 fun P O L ρ xs ρ' r e q=>by
 unfold fiR1 at e;obtain⟨⟨ws,ρ1⟩,e1,e⟩:=obs e;dsimp only at e;split at e
 ·rename_i n;split at e
  ·rename_i hn;cases e;refine⟨P,O,L,ρ,_,_,r,e1,fun vs H1 r1 l1=>?_⟩;obtain⟨v,rs,rfl,h1,l1⟩:=l1;have l1:rs=[]:=l1;have h1:Den X.K (AvO O ρ' σ) H1 (.int n) v:=h1;subst l1;exact⟨n,by rw[D9.mp h1],hn.1,hn.2,q _ H1 P r1 (fun p hp=>hp) (a51 0 _)⟩
  ·cases e
 ·cases e⟩
def fiR2 (fa:FA):FI:=fun ρ=>(fa ρ).bind fun p=>match p.1 with
 | [.v (.int m),.v (.int n)]=>if(-(2^62)<=m/\m<2^62)/\-(2^62)<=n/\n<2^62 then some (rngD m (n-m).toNat,p.2) else none
 | _=>none
def loopF (b:D->FS):List D->Ev->Option R
 | [],ρ=>some (.nx ρ)
 | x::xs,ρ=>(b x ρ).bind fun r=>match r with
  | .nx ρ'=>loopF b xs ρ'
  | .ct ρ'=>loopF b xs ρ'
  | .bk ρ'=>some (.nx ρ')
  | .rt d ρ'=>some (.rt d ρ')
def turnF (gf:FG) (b:FS):D->FS:=fun x ρ=>(gf x ρ).bind b
def fFor (fi:FI) (gf:FG) (b:FS):FS:=fun ρ=>(fi ρ).bind fun p=>loopF (turnF gf b) p.1 p.2
theorem S7 {tg iter:Expr}{fi:FI}{gf:FG}(hp:PassesOwn (model X.prog X.w) X.A X.env X.xe)(hc:X.calm=true)(hi:QI X tg iter fi)(hg:QG X tg gf)(hb:QSs X body F)(hs:∀x,foldedSetIterable iter X.env x=pure x:=by intro _;rfl):
  QS X (.For tg iter body [] pos) (fFor fi gf F):=by
 obtain⟨g,pg,kg⟩:=hg.to;refine⟨PS.weak (b1G hp hc hi.to pg hb.to hs) fun E σ H h0=>tSe h0 fun P O L ρ r rp e q=>?_⟩;unfold fFor at e;obtain⟨⟨xs,ρ1⟩,e1,e⟩:=obs e;dsimp only at e;refine⟨P,O,L,ρ,xs,ρ1,rp,e1,fun J H1 P' r1 hh wk=>?_⟩;refine⟨fun i m σ H=>m=xs.length-i/\i<=xs.length/\∃ρ,Rep X P' O L ρ σ H/\loopF (turnF gf F) (xs.drop i) ρ=some r,⟨xs.length,by simp,jG _,ρ1,r1,by simpa using e⟩,?_⟩
 rintro i m σ H ⟨rfl,hi,ρ,rp,e⟩;obtain⟨wi,ws⟩:=wk X O L ρ σ H rfl rp
 by_cases hlt:i<xs.length
 ·obtain⟨go,yl⟩:=wi i xs[i] (by simp[hlt])
  refine .inr ⟨go,fun σ' H'=>∃ρ,Rep X P' O L ρ σ' H'/\loopF (turnF gf F) (xs.drop (i+1)) ρ=some r,fun σ' H' h=>⟨xs.length-(i+1),by omega,rfl,hlt,h⟩,fun v H' y=>?_⟩
  obtain⟨sm,dv⟩:=yl v H' y;rw[yE hlt,loopF] at e;cases e1:turnF gf F xs[i] ρ with
  | none=>rw[e1] at e;cases e
  | some r1=>
   rw[e1] at e;simp only[bind_some] at e;unfold turnF at e1;obtain⟨ρ1,e2,e1⟩:=obs e1;refine kg P' O L xs[i] v ρ ρ1 σ _ _ (rp.grow sm) dv e2 fun σ' H2 rp'=>⟨P',O,L,ρ1,r1,rp',e1,?_⟩;cases r1 with
   | nx ρ2=>exact fun σ2 H2 rp2=>⟨ρ2,rp2,e⟩
   | ct ρ2=>exact fun σ2 H2 rp2=>⟨ρ2,rp2,e⟩
   | bk ρ2=>cases e;exact fun σ2 H2 rp2=>q σ2 H2 (rp2.holds hh)
   | rt d ρ2=>cases e;exact q
 ·have ei:i=xs.length:=by omega
  subst ei;rw[List.drop_length,loopF] at e;cases e;exact .inl ⟨ws,q σ H (rp.holds hh)⟩
end
def spF (K:PySem.W.Frag) (g:List D->Option W):Sp:=fun vs H Q _=>∃(A:Av) (ds:List D) (w:W),(∀b,A b->∃o,H b=some o)/\DenL K A H ds vs/\g ds=some w/\∀v H',Same H H'->DenW K A [] H H' w v->Q v H'
structure FnS (P:Program) (w:World) (K:PySem.W.Frag) (mg:Str->Option Value) (base:Heap) (x:Str) (k:Nat) (sp:Sp):Prop where
 ex:∃(f:Addr) (fd:FuncData) (ps:List Str),FnOk P w K mg base CX0 k f fd ps sp/\Binds K fd ps []/\PySem.W.keepIn K (.ref f)=true/\mg x=some (.ref f)
abbrev Fn (P:Program) (w:World) (K:PySem.W.Frag) (mg:Str->Option Value) (base:Heap) (x:Str) (k:Nat) (g:List D->Option W):Prop:=FnS P w K mg base x k (spF K g)
section
variable {P:Program}{w:World}{K:PySem.W.Frag}{mg:Str->Option Value}{base:Heap}{x:Str}{j k:Nat}
theorem FnS.mono {sp:Sp}(F:FnS P w K mg base x j sp)(h:j<=k):FnS P w K mg base x k sp:=by
 obtain⟨f,fd,ps,a,b,c,d⟩:=F.ex;exact⟨f,fd,ps,a.mono h,b,c,d⟩
end
def lfC:D->Bool
 | .lst xs=>lfL xs
 | .dT _ xs=>lfL xs
 | .dK _ xs=>lfL xs
 | _=>false
def lfW:W->Bool
 | .v d=>lf d
 | .o d=>lfC d
 | _=>false
def frzL:List W->Ev->Option Ev
 | [],ρ=>some ρ
 | .r i::ws,ρ=>(frzAt ρ i).bind (frzL ws)
 | _::ws,ρ=>frzL ws ρ
def fDef (g:List D->Option W) (fa:FA):FX:=fun ρ=>(fa ρ).bind fun p=>(drs p.2 p.1).bind fun ds=>(g ds).bind fun w=>if lfW w=true then some (w,p.2) else(frzL p.1 p.2).map fun ρ2=>(w,ρ2)
def noR (i:Nat):List W->Bool
 | []=>true
 | .r j::ws=>i != j&&noR i ws
 | _::ws=>noR i ws
def fDefL (g:D->List D->Option (W×D)) (fa:FA):FX:=fun ρ=>(fa ρ).bind fun p=>match p.1 with
 | .r i::ws=>(ownAt p.2 i).bind fun c=>(drs p.2 ws).bind fun ds=>(g c ds).bind fun z=>if noR i ws=true/\lfC z.2=true then(if lfW z.1=true then some (z.1,setOwn p.2 i z.2) else(frzL ws (setOwn p.2 i z.2)).map fun ρ2=>(z.1,ρ2)) else none
 | _=>none
section
variable {K:PySem.W.Frag}{A A':Av}{H H':Hp}
theorem a2i (g:∀b o,H b=some o->¬Mu o->H' b=some o){a:Addr}{d:D}(f:lfC d=true)(hk:H' a=H a)(h:Obj K A H a d):Obj K A' H' a d:=by
 cases d with
 | lst xs=>obtain⟨vs,e,l⟩:=h;exact⟨vs,hk.trans e,T0 g _ _ f l⟩
 | dT ks xs=>obtain⟨vs,e,hl,l⟩:=h;exact⟨vs,hk.trans e,hl,T0 g _ _ f l⟩
 | dK ks xs=>obtain⟨vs,e,hl,l⟩:=h;exact⟨vs,hk.trans e,hl,T0 g _ _ f l⟩
 | _=>exact h.elim
end
section
variable {X:Cx}{P:List (D×V)}{O:Av}{L:List (Option Nat×Addr)}{ρ ρ':Ev}{σ:L2.St}{H:Hp}
theorem Q0:∀{ws:List W} {ρ ρ':Ev},Rep X P O L ρ σ H->frzL ws ρ=some ρ'->Rep X P O L ρ' σ H/\∀(j:Nat) (w:W) (d:D),ρ'[j]? =some (some w)->w.own=some d->ρ[j]? =some (some w)/\W.r j∉ws
 | [],ρ,ρ',r,e=>by cases e;exact⟨r,fun j w d e1 _=>⟨e1,by simp⟩⟩
 | .r i::ws,ρ,ρ',r,e=>by
  rw[frzL] at e;obtain⟨ρ1,e1,e⟩:=obs e;obtain⟨r1,k1⟩:=r.frz e1;obtain⟨r2,k2⟩:=Q0 r1 e;refine⟨r2,fun j w d e1 e2=>?_⟩;obtain⟨a1,a2⟩:=k2 j w d e1 e2;obtain⟨b1,b2⟩:=k1 j w d a1 e2;exact⟨b1,fun z=>(zN.mp z).elim (fun z=>by cases z;exact b2 rfl) a2⟩
 | .v _::ws,ρ,ρ',r,e=>by
  obtain⟨r2,k2⟩:=Q0 (ws:=ws) r e;exact⟨r2,fun j w d e1 e2=>⟨(k2 j w d e1 e2).1,fun z=>(zN.mp z).elim (fun z=>by cases z) (k2 j w d e1 e2).2⟩⟩
 | .o _::ws,ρ,ρ',r,e=>by
  obtain⟨r2,k2⟩:=Q0 (ws:=ws) r e;exact⟨r2,fun j w d e1 e2=>⟨(k2 j w d e1 e2).1,fun z=>(zN.mp z).elim (fun z=>by cases z) (k2 j w d e1 e2).2⟩⟩
 | .l _::ws,ρ,ρ',r,e=>by
  obtain⟨r2,k2⟩:=Q0 (ws:=ws) r e;exact⟨r2,fun j w d e1 e2=>⟨(k2 j w d e1 e2).1,fun z=>(zN.mp z).elim (fun z=>by cases z) (k2 j w d e1 e2).2⟩⟩
def Handed (ρ:Ev) (σ:L2.St) (ws:List W) (b:Addr):Prop:=∃(i:Nat) (w:W) (d:D),W.r i∈ws/\ρ[i]? =some (some w)/\w.own=some d/\σ[i]? =some (some (V.ref b))
theorem Y5 {B:Av}(r:Rep X P O L ρ σ H)(hB:∀b,B b->AvO O ρ σ b):∀{ws:List W} {ds:List D} {vs:List V},(∀b,B b->¬Handed ρ σ ws b)->drs ρ ws=some ds->DenA X.K (AvO O ρ σ) σ H ws vs->DenL X.K B H ds vs
 | [],ds,vs,n,e,h=>by cases e;have h:vs=[]:=h;subst h;exact j7
 | w::ws,ds,vs,n,e,h=>by
  obtain⟨v,rs,rfl,h1,h2⟩:=h;rw[drs] at e;cases e1:dr ρ w with
  | none=>rw[e1] at e;cases e
  | some d=>
   cases e2:drs ρ ws with
   | none=>rw[e1,e2] at e;cases e
   | some dd=>
    rw[e1,e2] at e;cases e;refine j6 ?_ (Y5 r hB (fun b z y=>n b z (let ⟨i,w,d,m,q⟩:=y;⟨i,w,d,zL _ m,q⟩)) e2 h2);cases w with
    | v c=>cases e1;exact p7 (w6 hB) _ _ h1
    | r i=>
     have h1:σ[i]? =some (some v):=h1;rw[dr] at e1;cases q:ρ[i]? with
     | none=>rw[q] at e1;cases e1
     | some o=>
      rw[q] at e1;cases o with
      | none=>cases e1
      | some w'=>
       cases w' with
       | v c=>
        cases e1;obtain⟨u,q1,q2⟩:=r.slot i _ q;rw[h1] at q1;cases q1;exact p7 (w6 hB) _ _ q2
       | _=>
        obtain⟨a,q1,q2⟩:=r.obj q e1;rw[h1] at q1;cases q1;exact T5 (w9 (w6 hB) rfl q2) fun z=>n a z ⟨i,_,d,zJ,q,e1,h1⟩
    | _=>cases e1
theorem a0y {ws:List W}(r:Rep X P O L ρ σ H)(k:∀(j:Nat) (w:W) (d:D),ρ'[j]? =some (some w)->w.own=some d->ρ[j]? =some (some w)/\W.r j∉ws){b:Addr}(z:AvO O ρ' σ b):AvO O ρ σ b/\¬Handed ρ σ ws b:=by
 refine⟨z.imp id fun⟨j,w,d,e1,e2,e3⟩=>⟨j,w,d,(k j w d e1 e2).1,e2,e3⟩,fun⟨i,w,d,m,q1,q2,q3⟩=>?_⟩;rcases z with z|⟨j,w',d',e1,e2,e3⟩
 ·exact r.ambN z ⟨i,w,d,q1,q2,q3⟩
 ·obtain⟨a1,a2⟩:=k j w' d' e1 e2
  have:=r.inj i j w w' d d' b q1 q2 q3 a1 e2 e3
  subst this;exact a2 m
end
section
variable {X:Cx}{e:Expr}{es:List Expr}{pos p:Pos}{fa:FA}{x:Str}{k:Nat}
theorem a8z {g:List D->Option W}:∀σ H Q,tX X (fDef g fa) σ H Q->tCall (spF X.K g) [] E0 (tA X fa) σ H Q:=fun σ H Q h0=>tXe h0 fun P O L ρ w ρ' r e q=>by
 unfold fDef at e;obtain⟨⟨ws,ρ1⟩,e1,e⟩:=obs e;dsimp only at e;cases e2:drs ρ1 ws with
 | none=>rw[e2] at e;cases e
 | some ds=>
  rw[e2] at e;simp only[bind_some] at e;cases e3:g ds with
  | none=>rw[e3] at e;cases e
  | some w1=>
   rw[e3] at e;simp only[bind_some] at e;refine⟨P,O,L,ρ,ws,ρ1,r,e1,fun vs H1 r1 l1=>?_⟩;refine⟨fun b=>AvO O ρ1 σ b/\¬Handed ρ1 σ ws b,ds,w1,fun b z=>r1.there z.1,by rw[yT];exact Y5 r1 (fun b z=>z.1) (fun b z=>z.2) e2 l1,e3,fun v H2 s2 d2=>?_⟩
   split at e
   ·rename_i hl;cases e;refine q v H1 H2 r1 s2 ?_;cases w with
    | v d=>exact a8K (fun _ _ e _=>e) _ _ hl d2
    | o d=>obtain⟨a,ev,hn,ob⟩:=d2;exact⟨a,ev,hn,a2i (fun _ _ e _=>e) hl rfl ob⟩
    | _=>cases hl
   ·obtain⟨ρ2,e4,e⟩:=oms e;cases e;obtain⟨r2,k2⟩:=Q0 r1 e4;refine q v H1 H2 r2 s2 ?_;have sub:=fun b (z:AvO O ρ' σ b)=>a0y r1 k2 z;cases w with
    | v d=>exact p7 (w6 sub) _ _ d2
    | o d=>obtain⟨a,ev,hn,ob⟩:=d2;exact⟨a,ev,hn,w9 (w6 fun b z=>z.imp (sub b) id) rfl ob⟩
    | r i=>exact absurd d2 (by simp[DenW])
    | l d=>exact d2.elim
theorem l5 {g:List D->Option W}(F:Fn X.prog X.w X.K X.mg X.base x k g)(hr:Room k X.A)(ha:QA X (e::es) fa)(hg:Gl X x:=by rfl)(hdb:(x==("__debug__":Str))=false:=by decide)
  (he:starEach (e::es) X.env=(false,eval e X.env)::starEach es X.env:=by rfl) (hpl:(backTo pos (starEach es X.env)).any (·.1)=false:=by rfl):QX X (.Call (.Name x p) (e::es) [] pos) (fDef g fa):=by
 obtain⟨f,fd,ps,F,b,kp,hm⟩:=F.ex;exact⟨PE.weak (a9M F hr hg hm kp b .nil pass0 ha.to hdb he hpl) a8z⟩
end
def start0 (n:Nat) (ds:List D):Ev:=ds.map (fun d=>some (.v d))++List.replicate (n-ds.length) none
def runD (np n:Nat) (G:FS):List D->Option W:=fun ds=>if ds.length=np then match G (start0 n ds) with
 | some (.rt w _)=>some w
 | some (.nx _)=>some (.v .non)
 | _=>none else none
def runL (np n:Nat) (G:FS):D->List D->Option (W×D):=fun c ds=>if ds.length+1=np then match G (some (.l c)::start0 (n-1) ds) with
 | some (.rt w ρ)=>(ownAt ρ 0).map fun c'=>(w,c')
 | some (.nx ρ)=>(ownAt ρ 0).map fun c'=>(.v .non,c')
 | _=>none else none
section
variable {P:Program}{w:World}{K:PySem.W.Frag}{mg:Str->Option Value}{base:Heap}
theorem D0 {n i:Nat}{ds:List D}{w:W}(e:(start0 n ds)[i]? =some (some w)):∃d,ds[i]? =some d/\w= .v d:=by
 unfold start0 at e
 by_cases hi:i<ds.length
 ·rw[qB (by simpa using hi),qH] at e
  cases q:ds[i]? with
  | none=>rw[q] at e;cases e
  | some d0=>rw[q] at e;cases e;exact⟨d0,rfl,rfl⟩
 ·rw[qP (by simpa using hi),List.getElem?_replicate] at e
  split at e<;>cases e
theorem W7 {X:Cx}{ds:List D}{vs:List V}{n:Nat}{N:List Str}{H:Hp}{A:Av}(hH:X.H₀=H)(hN:N.length=n)(hA:∀b,A b->∃o,H b=some o)(l:DenL X.K A H ds vs):Rep X [] A [] (start0 n ds) (start N vs) H where
 same:=fun b o e _=>by rw[<-hH];exact e
 amb:=fun b z=>by rw[hH];exact⟨hA b z,fun i=>by simp⟩
 len:=by unfold start0 L2.start;simp[c6 l,hN]
 slot:=fun i w e=>by
  obtain⟨d,q,rfl⟩:=D0 e;obtain⟨v,h1,h2⟩:=w5 l q;refine⟨v,?_,p7 (w6 fun b z=>?_) _ _ h2⟩
  ·unfold L2.start;rw[qB (by have:=(zQ.mp h1).1;simpa using this),qH,h1];rfl
  ·rcases z with z|⟨j,w,c,e1,e2,e3⟩
   ·exact z
   ·obtain⟨d',q',rfl⟩:=D0 e1;cases e2
 inj:=fun i j w w' d d' b e1 e2=>by obtain⟨_,_,rfl⟩:=D0 e1;cases e2
 new:=fun i d b e=>by obtain⟨_,_,z⟩:=D0 e;cases z
 lnt:=fun i d e=>by obtain⟨_,_,z⟩:=D0 e;cases z
 lnd:=fun i b e=>by simp at e
 prot:=fun p hp=>by cases hp
 gvl:=fun b e=>by simp at e
theorem B8 {x:Str}{st:Stmt}{f:Addr}{fd:FuncData}{N ps:List Str}{k np n:Nat}{G:FS}(F:Fun K x x st f fd)(S:FnScope N ps (defScope st))(B:Binds K fd ps [])(hm:mg x=some (.ref f))(hp:ps.length=np)(hn:N.length=n)
  (body:∀(cdv:Value) (A:Around) (outer:List Env) (s:Shared) (H:Hp) (E:XK),Room k (A.deeper (envOfC x (defScope st) s.heap.objs.size f cdv))->
   QSs (cxOf CX0 P w K mg base N x (defScope st) f cdv A outer s H E).nox (defBody st) G):Fn P w K mg base x (k+1) (runD np n G):=by
 refine⟨f,fd,ps,F.ok S (fun vs H Q E h0=>?_) (fun cdv A outer s H vs Q E hr h0=>⟨_,(body cdv A outer s H E hr).to,?_⟩),B,F.kp,hm⟩
 ·obtain⟨A,ds,d,hA,l,e,q⟩:=h0;unfold runD at e;split at e
  ·rename_i hl;rw[<-c6 l,hl,hp]
  ·cases e
 ·obtain⟨A',ds,d,hA,l,e,q⟩:=h0;unfold runD at e;split at e
  ·rename_i hl;cases e1:G (start0 n ds) with
   | none=>rw[e1] at e;cases e
   | some r=>
    rw[e1] at e;refine⟨[],A',[],_,r,W7 rfl hn hA l,e1,?_⟩;have hz:∀{w:W} {v:V} {H':Hp},DenW K (A0 A' []) [] H H' w v->DenW K A' [] H H' w v:=fun{w v H'} h=>by
     have e0:A0 A' []=A':=funext fun b=>propext ⟨fun z=>z.elim id fun⟨i,z⟩=>by simp at z,.inl⟩
     rw[e0] at h;exact h
    cases r with
    | rt w ρ'=>cases e;exact fun v H' s' _ d1=>q v H' (fun b o eb=>s' b o eb fun i=>by simp) (hz d1)
    | nx ρ'=>cases e;exact fun σ' H' rp'=>q .non H' (fun b o eb=>rp'.same b o eb fun i=>by simp) a3w
    | bk ρ'=>cases e
    | ct ρ'=>cases e
  ·cases e
end
@[elab_as_elim] theorem us1 {α:Type} {C:List α->Prop} {us:List α} (h:us.length=1) (k:∀a,C [a]):C us:=by
 match us,h with
 | [a],_=>exact k a
@[elab_as_elim] theorem us2 {α:Type} {C:List α->Prop} {us:List α} (h:us.length=2) (k:∀a b,C [a,b]):C us:=by
 match us,h with
 | [a,b],_=>exact k a b
@[elab_as_elim] theorem us3 {α:Type} {C:List α->Prop} {us:List α} (h:us.length=3) (k:∀a b c,C [a,b,c]):C us:=by
 match us,h with
 | [a,b,c],_=>exact k a b c
@[elab_as_elim] theorem us4 {α:Type} {C:List α->Prop} {us:List α} (h:us.length=4) (k:∀a b c d,C [a,b,c,d]):C us:=by
 match us,h with
 | [a,b,c,d],_=>exact k a b c d
section
variable {X:Cx}{a b e:Expr}{es:List Expr}{pos:Pos}{f g h:FX}{t u:FT}
theorem a2K {K:PySem.W.Frag}{A:Av}{H:Hp}{i:Bool}{v:V}(h:DenR K A H (.bl i) v):v= .bl i:=by
 have h:Den K A H (.bl i) v:=h;exact a0t.mp h
theorem a0A {K:PySem.W.Frag}{A:Av}{H:Hp}{i:Str}{v:V}(h:DenR K A H (.str i) v):v= .str i:=by
 have h:Den K A H (.str i) v:=h;exact a0o.mp h
theorem a1b {K:PySem.W.Frag}{A:Av}{H:Hp}{v:V}(h:DenR K A H .non v):v= .non:=by
 have h:Den K A H .non v:=h;exact a4x.mp h
def tyD:D->String
 | .non=>"NoneType"
 | .bl _=>"bool"
 | .int _=>"int"
 | .str _=>"str"
 | .tup _=>"tuple"
 | .dT _ _=>"dict"
 | .dK _ _=>"dict"
 | _=>"list"
def isX:D->Bool
 | .exn _=>true
 | .fn _=>true
 | _=>false
def isiB (T:String) (d:D):Bool:=tyD d==T||(tyD d == "bool" && T == "int")
def Kit (K:PySem.W.Frag) (T:String):Prop:=∀d:D,PySem.W.kitOne K (.type (tyD d)) (.type T)=some (isiB T d)
theorem Y9 {K:PySem.W.Frag}{T:String}(h:T="int"\/T="bool"\/T="str"\/T="tuple"\/T="list"):Kit K T:=by
 rcases h with h|h|h|h|h<;>subst h<;>intro d<;>cases d<;>rfl
theorem a6I {T:String}(hk:Kit X.K T):CallR X (.builtin "isinstance") (fun xs H Q=>∃x A d,xs=[x,.ty T]/\isX d=false/\DenR X.K A H d x/\Q (.bl (isiB T d)) H):=by
 intro pins s σ H xs us Q I r h;obtain⟨x,A,d,rfl,nx,hd,q⟩:=h;obtain⟨u,w,rfl,ru,rw'⟩:=vals2 r;cases(show w=Value.type T from rw');have e:=hk d;have fin:∀tk,EP X pins σ Q (.bool (isiB T d)) {s with toks:=tk}:=fun tk=>⟨.bl _,H,I.tok _,rfl,q⟩
 cases d with
 | non=>have hd:=a1b hd;subst hd;cases(show u=Value.none from ru);exact jW PySem.W.kitx_none I.kIn True.intro e (fun z=>nomatch z) fin
 | bl y=>have hd:=a2K hd;subst hd;cases(show u=Value.bool y from ru);exact jW PySem.W.kitx_bool I.kIn True.intro e (fun z=>nomatch z) fin
 | int i=>have hd:=j9 hd;subst hd;obtain⟨t,z⟩:=(show ∃t,u=Value.int i t from ru);cases z;exact jW PySem.W.kitx_int I.kIn True.intro e (fun z=>nomatch z) fin
 | str y=>have hd:=a0A hd;subst hd;obtain⟨t,z⟩:=(show ∃t,u=Value.str y t from ru);cases z;exact jW PySem.W.kitx_str I.kIn True.intro e (fun z=>nomatch z) fin
 | tup ys=>
  have hd:Den X.K A H (.tup ys) x:=hd;rw[Den] at hd;obtain⟨a,vs,rfl,hq,_⟩:=hd;cases(show u=Value.ref a from ru);obtain⟨its,_,p,_⟩:=I.tuple hq;obtain⟨o,h1,h2,_⟩:=p;exact jW PySem.W.kitx_tuple I.kIn ⟨o,h1,h2⟩ e (fun z=>nomatch z) fin
 | lst ys=>
  obtain⟨a,vs,rfl,hq,_⟩:=hd;cases(show u=Value.ref a from ru);obtain⟨its,_,p,_⟩:=I.list hq;obtain⟨o,n,h1,h2,_⟩:=p;exact jW PySem.W.kitx_list I.kIn ⟨o,h1,h2⟩ e (fun z=>nomatch z) fin
 | dK ks ys=>
  obtain⟨a,vs,rfl,hq,_⟩:=hd;cases(show u=Value.ref a from ru);obtain⟨_,_,vs,_,p⟩:=(show ObjOk X.K X.prog X.w H s.heap a (.dK _) from I.hok a _ hq);obtain⟨o,es,h1,h2,_⟩:=p;exact jW PySem.W.kitx_dict I.kIn ⟨o,h1,h2.1⟩ e (fun z=>nomatch z) fin
 | dT ks ys=>
  obtain⟨a,vs,rfl,hq,_⟩:=hd;cases(show u=Value.ref a from ru);obtain⟨_,_,xs,_,o,es,h1,h2,_⟩:=(show ObjOk X.K X.prog X.w H s.heap a (.dT _) from I.hok a _ hq);exact jW PySem.W.kitx_dict I.kIn ⟨o,h1,h2.1⟩ e (fun z=>nomatch z) fin
 | exn C=>cases nx
 | fn f=>cases nx
def oIsi (T:String) (d:D):Option W:=if isX d=true then none else some (.v (.bl (isiB T d)))
theorem X4 {T:String}{x:Str}{p p2:Pos}(hk:Kit X.K T)(hm:X.mg "isinstance"=none)(hmT:X.mg x=none)(ha:QX X e f)(hT:bootBuiltins x=some (.type T):=by rfl)(hb:bootBuiltins "isinstance"=some (.builtin "isinstance"):=by rfl)(hg:Gl X "isinstance":=by rfl)(hgT:Gl X x:=by rfl)(hn:x≠"__name__":=by decide)(hdb:(x==("__debug__":Str))=false:=by decide)
  (he:starEach [e,.Name x p2] X.env=(false,eval e X.env)::starEach [.Name x p2] X.env:=by rfl) (hpl:(backTo pos (starEach [.Name x p2] X.env)).any (·.1)=false:=by rfl) (hs:starEach [.Name x p2] X.env=(false,eval (.Name x p2) X.env)::starEach [] X.env:=by rfl):QX X (.Call (.Name "isinstance" p) [e,.Name x p2] [] pos) (fUn (oIsi T) f):=
 ⟨PE.weak (C8 (a6I hk) hg hm hb (w8 ha.to (w8 (a41 (v:=.ty T) hgT hmT hT rfl hn hdb) N2 hs) he) (by decide) (by decide) he hpl) fun σ H Q h=>
  P7 (r:=fun v H Q=>∃x A d,[v,V.ty T]=[x,.ty T]/\isX d=false/\DenR X.K A H d x/\Q (.bl (isiB T d)) H) (fun A x w v H Q _ e hx q=>by
   unfold oIsi at e;split at e
   ·cases e
   ·rename_i nx;cases e;exact⟨v,A,x,rfl,by simpa using nx,hx,q _ H (Same.refl H) t5⟩) σ H Q h⟩
def isD:D->D->Option Bool
 | .non,.non=>some true
 | d,.non=>some false
 | .bl a,.bl b=>some (a==b)
 | _,.bl _=>some false
 | _,_=>none
theorem a8D {M:Model}{A:Around}{E:Value->Shared->Prop}{s:Shared}{x y:Value}{k:Bool}{Q:Value->Shared->Prop}(h:isSame x y=pure k)(q:Q (.bool (!k)) s):wpAny M A (compareOp .IsNot x y) Q E s:=by
 show wpAny M A (isSame x y >>=fun b=>pure (Value.bool (!b))) Q E s;rw[h];exact zC q
theorem a60 {K:PySem.W.Frag}{A:Av}{H:Hp}{x:D}{v:V}{vv:Value}(hx:DenR K A H x v)(rx:RelV v vv):(x= .non/\vv= .none)\/(∃b,x= .bl b/\vv= .bool b)\/(∃i t,x= .int i/\vv= .int i t)\/(∃y t,x= .str y/\vv= .str y t)\/((∀b,x≠.bl b)/\x≠.non/\∃a,v= .ref a/\vv= .ref a):=by
 cases x with
 | non=>have h:=a1b hx;subst h;exact .inl ⟨rfl,rx⟩
 | bl b=>have h:=a2K hx;subst h;exact .inr (.inl ⟨b,rfl,rx⟩)
 | int i=>have h:=j9 hx;subst h;obtain⟨t,e⟩:=(show ∃t,vv=Value.int i t from rx);exact .inr (.inr (.inl ⟨i,t,rfl,e⟩))
 | str i=>have h:=a0A hx;subst h;obtain⟨t,e⟩:=(show ∃t,vv=Value.str i t from rx);exact .inr (.inr (.inr (.inl ⟨i,t,rfl,e⟩)))
 | tup xs=>
  have hx:Den K A H (.tup xs) v:=hx;rw[Den] at hx;obtain⟨a,vs,rfl,_⟩:=hx;exact .inr (.inr (.inr (.inr ⟨nofun,nofun,a,rfl,rx⟩)))
 | lst xs=>obtain⟨a,vs,rfl,_⟩:=hx;exact .inr (.inr (.inr (.inr ⟨nofun,nofun,a,rfl,rx⟩)))
 | dT ks xs=>obtain⟨a,vs,rfl,_⟩:=hx;exact .inr (.inr (.inr (.inr ⟨nofun,nofun,a,rfl,rx⟩)))
 | dK ks xs=>obtain⟨a,vs,rfl,_⟩:=hx;exact .inr (.inr (.inr (.inr ⟨nofun,nofun,a,rfl,rx⟩)))
 | exn C=>
  have hx:Den K A H (.exn C) v:=hx;rw[Den] at hx;obtain⟨a,rfl,_⟩:=hx;exact .inr (.inr (.inr (.inr ⟨nofun,nofun,a,rfl,rx⟩)))
 | fn f=>
  have hx:Den K A H (.fn f) v:=hx;rw[Den] at hx;subst hx;exact .inr (.inr (.inr (.inr ⟨nofun,nofun,f,rfl,rx⟩)))
theorem a9U {K:PySem.W.Frag}{A:Av}{H:Hp}{x y:D}{v u:V}{vv uu:Value}{k:Bool}(e:isD x y=some k)(hx:DenR K A H x v)(hy:DenR K A H y u)(rx:RelV v vv)(ry:RelV u uu):isSame vv uu=pure k:=by
 cases y with
 | non=>
  have hy:=a1b hy;subst hy;cases(show uu=Value.none from ry);rw[PySem.isSame_none];rcases a60 hx rx with ⟨rfl,rfl⟩|⟨b,rfl,rfl⟩|⟨i,t,rfl,rfl⟩|⟨i,t,rfl,rfl⟩|⟨n1,n2,a,rfl,rfl⟩
  ·cases e;rfl
  ·cases e;rfl
  ·cases e;rfl
  ·cases e;rfl
  ·cases x<;>simp only[isD] at e<;>first|(cases e;rfl)|exact absurd rfl n2
 | bl q=>
  have hy:=a2K hy;subst hy;cases(show uu=Value.bool q from ry);rcases a60 hx rx with ⟨rfl,rfl⟩|⟨b,rfl,rfl⟩|⟨i,t,rfl,rfl⟩|⟨i,t,rfl,rfl⟩|⟨n1,n2,a,rfl,rfl⟩
  ·cases e;rfl
  ·cases e;cases b<;>cases q<;>rfl
  ·cases e;rfl
  ·cases e;rfl
  ·cases x<;>simp only[isD] at e<;>first|(cases e;rfl)|exact absurd rfl (n1 _)
 | _=>cases x<;>simp only[isD] at e<;>cases e
def rD2 (K:PySem.W.Frag) (t:D->D->Option Bool) (neg:Bool):R2:=fun v u H Q=>∃A x y k,t x y=some k/\DenR K A H x v/\DenR K A H y u/\Q (.bl (if neg then !k else k)) H
def oD2 (t:D->D->Option Bool) (neg:Bool) (x y:D):Option W:=(t x y).map fun k=>.v (.bl (if neg then !k else k))
theorem kD2 {t:D->D->Option Bool}{neg:Bool}:Pr2 X (oD2 t neg) (rD2 X.K t neg):=by
 intro A x y w v u H Q _ e hx hy q;unfold oD2 at e;cases e1:t x y with
 | none=>rw[e1] at e;cases e
 | some k=>rw[e1] at e;cases e;exact⟨A,x,y,k,e1,hx,hy,q _ H (Same.refl H) t5⟩
theorem a6b:OpR X (compareOp .IsNot) (rD2 X.K isD true):=by
 intro pins s σ H x y v u Q I rx ry ⟨A,dx,dy,k,e,hx,hy,q⟩;exact a8D (a9U e hx hy rx ry) ⟨.bl (!k),H,I,rfl,q⟩
theorem a6U (ha:QX X a f)(hb:QX X b g):QT X (.Compare a [.IsNot] [b] pos) (fTest (fBin (oD2 isD true) f g)):=R6 a6b kD2 ha hb
def flatE:D->D->Option Bool
 | .non,.non=>some true
 | .non,.int _=>some false
 | .int _,.non=>some false
 | .bl a,.bl b=>some (a==b)
 | .bl a,.int b=>some ((if a then 1 else 0)==b)
 | .int a,.bl b=>some (a==(if b then 1 else 0))
 | .int a,.int b=>some (a==b)
 | .str a,.str b=>some (a==b)
 | _,_=>none
def deqL (eq:D->D->Option Bool):List D->List D->Option Bool
 | [],[]=>some true
 | [],_::_=>some false
 | _::_,[]=>some false
 | x::xs,y::ys=>(eq x y).bind fun p=>(deqL eq xs ys).map fun q=>p&&q
def deq:Nat->D->D->Option Bool
 | 0,x,y=>flatE x y
 | n+1,.tup xs,.tup ys=>deqL (deq n) xs ys
 | n+1,.lst xs,.lst ys=>deqL (deq n) xs ys
 | _+1,x,y=>flatE x y
theorem a5t {K:PySem.W.Frag}{A:Av}{H:Hp}{x y:D}{v u:V}{k:Bool}(e:flatE x y=some k)(hx:DenR K A H x v)(hy:DenR K A H y u):Den K A H x v/\Den K A H y u:=by
 cases x<;>cases y<;>simp only[flatE] at e<;>cases e<;>exact⟨hx,hy⟩
theorem a1Y {K:PySem.W.Frag}{O:Av}{H:Hp}{A:Around}{s:Shared}{x y:D}{v u:V}{vv uu:Value}{k:Bool}(e:flatE x y=some k)(hx:DenR K O H x v)(hy:DenR K O H y u)(rx:RelV v vv)(ry:RelV u uu):SeqAt.EqAt A s vv uu k/\SeqAt.RcAt A s vv uu k/\SeqAt.RcNeAt A s vv uu (!k):=by
 obtain⟨hx,hy⟩:=a5t e hx hy;cases x<;>cases y<;>simp only[flatE] at e<;>cases e<;>rw[Den] at hx<;>rw[Den] at hy<;>subst hx<;>subst hy
 ·cases(show vv=Value.none from rx);cases(show uu=Value.none from ry);exact⟨.same _,.none_none,.none_none⟩
 ·cases(show vv=Value.none from rx);obtain⟨t,z⟩:=(show ∃t,uu=Value.int _ t from ry);cases z;exact⟨.none_int _ _,.none_int _ _,.none_int _ _⟩
 ·cases(show vv=Value.bool _ from rx);cases(show uu=Value.bool _ from ry);exact⟨.bool_bool _ _,.bool_bool _ _,.bool_bool _ _⟩
 ·cases(show vv=Value.bool _ from rx);obtain⟨t,z⟩:=(show ∃t,uu=Value.int _ t from ry);cases z;exact⟨.bool_int _ _ _,.bool_int _ _ _,.bool_int _ _ _⟩
 ·cases(show uu=Value.none from ry);obtain⟨t,z⟩:=(show ∃t,vv=Value.int _ t from rx);cases z;exact⟨.int_none _ _,.int_none _ _,.int_none _ _⟩
 ·cases(show uu=Value.bool _ from ry);obtain⟨t,z⟩:=(show ∃t,vv=Value.int _ t from rx);cases z;exact⟨.int_bool _ _ _,.int_bool _ _ _,.int_bool _ _ _⟩
 ·obtain⟨t,z⟩:=(show ∃t,vv=Value.int _ t from rx);cases z;obtain⟨t,z⟩:=(show ∃t,uu=Value.int _ t from ry);cases z;exact⟨.int_int _ _ _ _,.int_int _ _ _ _,.int_int _ _ _ _⟩
 ·obtain⟨t,z⟩:=(show ∃t,vv=Value.str _ t from rx);cases z;obtain⟨t,z⟩:=(show ∃t,uu=Value.str _ t from ry);cases z;exact⟨.str_str _ _ _ _,.str_str _ _ _ _,.str_str _ _ _ _⟩
theorem a1t {K:PySem.W.Frag}{O:Av}{H:Hp}{x y:D}{v:V}{k:Bool}(e:flatE x y=some k)(hx:DenR K O H x v)(hy:DenR K O H y v):k=true:=by
 obtain⟨hx,hy⟩:=a5t e hx hy;cases x<;>cases y<;>simp only[flatE] at e<;>cases e<;>rw[Den] at hx<;>rw[Den] at hy
 all_goals first
  | rfl
  | (rw[hx] at hy;cases hy;simp)
  | (rw[hx] at hy;cases hy)
theorem a2m {K:PySem.W.Frag}{O:Av}{H:Hp}{A:Around}{s:Shared}{eq:D->D->Option Bool}(hq:∀x y v u vv uu k,eq x y=some k->Den K O H x v->Den K O H y u->RelV v vv->RelV u uu->SeqAt.EqAt A s vv uu k):
  ∀{xs ys:List D} {vs us:List V} {its jts:List Value} {k:Bool},deqL eq xs ys=some k->DenL K O H xs vs->DenL K O H ys us->Vals vs its->Vals us jts->
   ∃e:Nat->Bool,(∀j (h1:j<its.toArray.size) (h2:j<jts.toArray.size),SeqAt.EqAt A s its.toArray[j] jts.toArray[j] (e j))/\k=((List.range (min its.toArray.size jts.toArray.size)).all e&&its.toArray.size==jts.toArray.size)
 | [],[],vs,us,its,jts,k,e,hx,hy,rx,ry=>by
  rw[DenL] at hx hy;subst hx;subst hy;cases rx;cases ry;cases e;exact⟨fun _=>true,fun j h1 h2=>absurd h1 (by simp),rfl⟩
 | [],y::ys,vs,us,its,jts,k,e,hx,hy,rx,ry=>by
  rw[DenL] at hx;rw[DenL] at hy;subst hx;obtain⟨u,r,rfl,_,_⟩:=hy;cases rx;cases ry;cases e;exact⟨fun _=>true,fun j h1 h2=>absurd h1 (by simp),by simp⟩
 | x::xs,[],vs,us,its,jts,k,e,hx,hy,rx,ry=>by
  rw[DenL] at hx;rw[DenL] at hy;subst hy;obtain⟨u,r,rfl,_,_⟩:=hx;cases rx;cases ry;cases e;exact⟨fun _=>true,fun j h1 h2=>absurd h2 (by simp),by simp⟩
 | x::xs,y::ys,vs,us,its,jts,k,e,hx,hy,rx,ry=>by
  rw[DenL] at hx hy;obtain⟨v,r,rfl,dx,lx⟩:=hx;obtain⟨u,q,rfl,dy,ly⟩:=hy;cases rx with
  | cons r1 rs1=>
   cases ry with
   | cons r2 rs2=>
    rw[deqL] at e;cases e1:eq x y with
    | none=>rw[e1] at e;cases e
    | some p=>
     cases e2:deqL eq xs ys with
     | none=>rw[e1,e2] at e;cases e
     | some q2=>
      rw[e1,e2] at e;cases e;obtain⟨w,h1,h2⟩:=a2m hq e2 lx ly rs1 rs2;refine⟨fun j=>if j=0 then p else w (j-1),fun j g1 g2=>?_,?_⟩
      ·cases j with
       | zero=>simpa using hq x y v u _ _ p e1 dx dy r1 r2
       | succ j=>
        have z:=h1 j (by simpa using g1) (by simpa using g2)
        simp only[List.getElem_toArray] at z ⊢;simpa using z
      ·rw[h2];simp only[qI,zV];rw[show min (_+1) (_+1)=min _ _+1 from Nat.succ_min_succ _ _,List.range_succ_eq_map,all_cons,List.all_map];simp[Function.comp_def,Bool.and_assoc]
theorem X0 {K:PySem.W.Frag}{O:Av}{H:Hp}{eq:D->D->Option Bool}(hq:∀x y v k,eq x y=some k->Den K O H x v->Den K O H y v->k=true):
  ∀{xs ys:List D} {vs:List V} {k:Bool},deqL eq xs ys=some k->DenL K O H xs vs->DenL K O H ys vs->k=true
 | [],[],vs,k,e,hx,hy=>by cases e;rfl
 | [],y::ys,vs,k,e,hx,hy=>by have:=c6 hx;have:=c6 hy;simp at *;walk_at "o"
 | x::xs,[],vs,k,e,hx,hy=>by have:=c6 hx;have:=c6 hy;simp at *;walk_at "o"
 | x::xs,y::ys,vs,k,e,hx,hy=>by
  rw[DenL] at hx hy;obtain⟨v,r,rfl,dx,lx⟩:=hx;obtain⟨u,q,e0,dy,ly⟩:=hy;cases e0;rw[deqL] at e;cases e1:eq x y with
  | none=>rw[e1] at e;cases e
  | some p=>
   cases e2:deqL eq xs ys with
   | none=>rw[e1,e2] at e;cases e
   | some q2=>
    rw[e1,e2] at e;cases e;rw[hq x y v p e1 dx dy,X0 hq e2 lx ly];rfl
theorem a1O {n:Nat}{x y:D}{k:Bool}(e:deq (n+1) x y=some k):flatE x y=some k\/(∃xs ys,x= .tup xs/\y= .tup ys/\deqL (deq n) xs ys=some k)\/∃xs ys,x= .lst xs/\y= .lst ys/\deqL (deq n) xs ys=some k:=by
 cases x<;>cases y<;>first
  | exact .inl e
  | exact .inr (.inl ⟨_,_,rfl,rfl,e⟩)
  | exact .inr (.inr ⟨_,_,rfl,rfl,e⟩)
theorem A3 {K:PySem.W.Frag}{O:Av}{H:Hp}{xs:List D}{v:V}(h:DenR K O H (.tup xs) v):∃a vs,v= .ref a/\SqT K H a vs/\DenL K O H xs vs:=by
 have h:Den K O H (.tup xs) v:=h;rw[Den] at h;exact h
theorem a26 {O:Av}{pins:List (Addr×PySem.Obj)}{σ:L2.St}{H:Hp}{s:Shared}(I:Inv X pins σ H s):∀(n:Nat) (x y:D) (v:V) (k:Bool),deq n x y=some k->DenR X.K O H x v->DenR X.K O H y v->k=true
 | 0,x,y,v,k,e,hx,hy=>a1t e hx hy
 | n+1,x,y,v,k,e,hx,hy=>by
  have hs:∀x y v k,deq n x y=some k->Den X.K O H x v->Den X.K O H y v->k=true:=fun x y v k e hx hy=>a26 I n x y v k e (F4 hx) (F4 hy);rcases a1O e with e|⟨xs,ys,rfl,rfl,e⟩|⟨xs,ys,rfl,rfl,e⟩
  ·exact a1t e hx hy
  ·obtain⟨a,vs,rfl,q1,l1⟩:=A3 hx;obtain⟨b,us,z,q2,l2⟩:=A3 hy;cases z;rw[I.tuple_inj q2 q1] at l2;exact X0 hs e l1 l2
  ·obtain⟨a,vs,rfl,q1,l1⟩:=hx;obtain⟨b,us,z,q2,l2⟩:=hy;cases z;rw[I.list_inj q2 q1] at l2;exact X0 hs e l1 l2
theorem a2w {O:Av}{pins:List (Addr×PySem.Obj)}{σ:L2.St}{H:Hp}{s:Shared}(I:Inv X pins σ H s):∀(n:Nat) (A:Around),A.units+n+1<cLine->∀(x y:D) (v u:V) (vv uu:Value) (k:Bool),deq n x y=some k->DenR X.K O H x v->DenR X.K O H y u->RelV v vv->RelV u uu->
  SeqAt.EqAt A s vv uu k/\SeqAt.RcAt A s vv uu k/\SeqAt.RcNeAt A s vv uu (!k)
 | 0,A,hA,x,y,v,u,vv,uu,k,e,hx,hy,rx,ry=>a1Y e hx hy rx ry
 | n+1,A,hA,x,y,v,u,vv,uu,k,e,hx,hy,rx,ry=>by
  have hin:∀x y v u vv uu k,deq n x y=some k->Den X.K O H x v->Den X.K O H y u->RelV v vv->RelV u uu->SeqAt.EqAt A.in1 s vv uu k:=fun x y v u vv uu k e hx hy rx ry=>(a2w I n A.in1 (by show A.units+1+n+1<_;walk_at "o") x y v u vv uu k e (F4 hx) (F4 hy) rx ry).1
  have hu:A.units<cLine:=by walk_at "o"
  have done:∀(p q:Addr),v= .ref p->u= .ref q->SeqAt.RcAt A s (.ref p) (.ref q) k->SeqAt.RcNeAt A s (.ref p) (.ref q) (!k)->SeqAt.EqAt A s vv uu k/\SeqAt.RcAt A s vv uu k/\SeqAt.RcNeAt A s vv uu (!k):=fun p q ev eu rc rn=>by
   subst ev;subst eu;cases(show vv=Value.ref p from rx);cases(show uu=Value.ref q from ry);refine⟨?_,rc,rn⟩
   by_cases pq:p=q
   ·subst pq;rw[a26 I (n+1) x y _ k e hx hy];exact .same _
   ·exact .of_refs pq rc
  rcases a1O e with e|⟨xs,ys,rfl,rfl,e⟩|⟨xs,ys,rfl,rfl,e⟩
  ·exact a1Y e hx hy rx ry
  ·obtain⟨p,vs,ev,q1,l1⟩:=A3 hx;obtain⟨q,us,eu,q2,l2⟩:=A3 hy;obtain⟨its,r1,t1,_⟩:=I.tuple q1;obtain⟨jts,r2,t2,_⟩:=I.tuple q2;obtain⟨w,h1,h2⟩:=a2m hin e l1 l2 r1 r2;refine done p q ev eu ?_ ?_
   ·rw[h2];exact SeqAt.RcAt.tuples t1 t2 hu h1
   ·rw[h2];exact SeqAt.RcNeAt.tuples t1 t2 hu h1
  ·obtain⟨p,vs,ev,q1,l1⟩:=id hx;obtain⟨q,us,eu,q2,l2⟩:=id hy;obtain⟨its,r1,t1,_⟩:=I.list q1;obtain⟨jts,r2,t2,_⟩:=I.list q2;obtain⟨w,h1,h2⟩:=a2m hin e l1 l2 r1 r2
   by_cases sz:its.toArray.size=jts.toArray.size
   ·have r1:=SeqAt.RcAt.lists t1.isList t2.isList sz hu h1;have r2:=SeqAt.RcNeAt.lists t1.isList t2.isList sz hu h1;rw[sz,Nat.min_self,show(jts.toArray.size==jts.toArray.size)=true by simp,Bool.and_true] at h2
    rw[sz,<-h2] at r1 r2;exact done p q ev eu r1 r2
   ·have r1:=SeqAt.RcAt.lists_lengths (A:=A) t1.isList t2.isList (by simpa using sz) hu
    have r2:=SeqAt.RcNeAt.lists_lengths (A:=A) t1.isList t2.isList (by simpa using sz) hu
    rw[show(its.toArray.size==jts.toArray.size)=false by simpa using sz,Bool.and_false] at h2
    subst h2;exact done p q ev eu r1 r2
theorem a6D {k:Nat}(hr:Room k X.A):OpR X (compareOp .Eq) (rD2 X.K (deq 20) false):=by
 intro pins s σ H x y v u Q I rx ry ⟨A,dx,dy,k,e,hx,hy,q⟩
 have:=(a2w I 20 X.A (by have:=hr.units;walk_at "o") dx dy x y v u k e hx hy rx ry).2.1
 exact this X.prog X.w X.xe _ ⟨.bl k,H,I,rfl,q⟩
theorem b1R {k:Nat}(hr:Room k X.A):OpR X (compareOp .NotEq) (rD2 X.K (deq 20) true):=by
 intro pins s σ H x y v u Q I rx ry ⟨A,dx,dy,k,e,hx,hy,q⟩
 have:=(a2w I 20 X.A (by have:=hr.units;walk_at "o") dx dy x y v u k e hx hy rx ry).2.2
 exact this X.prog X.w X.xe _ ⟨.bl (!k),H,I,rfl,q⟩
theorem qx_eq {k:Nat}(hr:Room k X.A)(ha:QX X a f)(hb:QX X b g):QX X (.Compare a [.Eq] [b] pos) (fBin (oD2 (deq 20) false) f g):=a7l (a6D hr) kD2 ha hb
theorem C9 {k:Nat}(hr:Room k X.A)(ha:QX X a f)(hb:QX X b g):QT X (.Compare a [.Eq] [b] pos) (fTest (fBin (oD2 (deq 20) false) f g)):=R6 (a6D hr) kD2 ha hb
theorem a4M {k:Nat}(hr:Room k X.A)(ha:QX X a f)(hb:QX X b g):QT X (.Compare a [.NotEq] [b] pos) (fTest (fBin (oD2 (deq 20) true) f g)):=R6 (b1R hr) kD2 ha hb
end
section
variable {prog:Program}{w:World}{A:Around}{R:Result->Shared->Prop}{s:Shared}
abbrev Fa:Value->Shared->Prop:=fun _ _=>False
theorem a1x {elt tg iter:Expr}{ifs:List Expr}{scope:Scope}{pos:Pos}{it acc:Value}{env:Env}(I:Nat->Shared->Prop)
  (turn:∀n s,I n s->wpAny (model prog w) A (pyNext it) (fun r s1=>match r with
   | none=>R (.ok .next) s1
   | some v=>wpAny (model prog w) A (letOwnedTupleGo tg it v) (fun _ s2=>wpAny (model prog w) A (assign tg env v) (fun _ s3=>
     wpAny (model prog w) A (forIn ifs true fun c r=>if r=true then do let ok <-isTrue c env (eval c env);pure (ForInStep.yield ok) else pure (ForInStep.yield r)) (fun ok s4=>
      if ok=true then wpAny (model prog w) A (eval elt env) (fun x s5=>wpAny (model prog w) A (call (.builtin "list.append") [acc,x]) (fun _ s6=>∃m,m<n/\I m s6) Fa s5) Fa s4
      else ∃m,m<n/\I m s4) Fa s3) Fa s2) Fa s1) Fa s)
  (n:Nat) (h:I n s):codeAny (model prog w) A (.compLoop (.ListComp elt [⟨tg,iter,ifs,0⟩] scope pos) 0 it acc env) R s:=by
 refine codeAny_loop rfl I (fun n s hI=>?_) n h;show wpAny _ A ((compTurn (.ListComp elt [⟨tg,iter,ifs,0⟩] scope pos) 0 it acc env).onRaise (fun x=>do noteFrame x env;theTreesLotGoes x)) _ _ s
 refine wpAny_noted ?_;rw[compTurn_list];refine zA (wpAny_standAt (zA (zR (turn n s hI) (fun r s1 h1=>?_) fun _ _ z=>z.elim)));cases r with
 | none=>exact zC h1
 | some v=>
  refine zA (zR h1 (fun _ s2 h2=>zA (zR h2 (fun _ s3 h3=>zA (zR h3 (fun ok s4 h4=>?_) fun _ _ z=>z.elim)) fun _ _ z=>z.elim)) fun _ _ z=>z.elim);cases ok with
  | true=>
   rw[if_pos rfl] at h4 ⊢;exact zA (zA (zR h4 (fun x s5 h5=>zA (zR h5 (fun _ s6 h6=>zC (zC ⟨rfl,h6⟩)) fun _ _ z=>z.elim)) fun _ _ z=>z.elim))
  | false=>
   rw[if_neg zT] at h4 ⊢;exact zA (zC (zC ⟨rfl,h4⟩))
end
def blk (X:Cx) (scope:Scope) (cl:List (Str×Addr)) (s2:Shared) (H2:Hp) (fp:List Addr) (C:Addr) (N:List Str):Cx where
 prog:=X.prog
 w:=X.w
 K:=X.K
 mg:=X.mg
 base:=X.base
 A:=X.A
 N:=N
 s₀:=s2
 H₀:=H2
 env:=compEnvC scope cl C X.env
 outer:=X.stack
 stack:=X.stack
 ex:=fp
 fn:=fun _=>false
 calm:=X.calm
 pn:=[]
 xe:=fun _ _=>False
abbrev accN:Str:=" acc"
inductive Cap (X:Cx) (sc:Scope) (cl:List (Str×Addr)):List Str->List (Option Nat)->Prop where
 | nil:Cap X sc cl [] []
 | own {n:Str} {N:List Str} {js:List (Option Nat)} (t:Cap X sc cl N js):Cap X sc cl (n::N) (none::js)
 | cap {n:Str} {N:List Str} {j:Nat} {js:List (Option Nat)} (hj:X.N[j]? =some n) (hk:X.env.scope.names.lookup n=some .cell) (hl:sc.names.lookup n=some .cell) (hc:cl.lookup n=X.env.cells.lookup n) (t:Cap X sc cl N js):Cap X sc cl (n::N) (some j::js)
theorem Cap.len {X:Cx}{sc:Scope}{cl:List (Str×Addr)}{N:List Str}{js:List (Option Nat)}(h:Cap X sc cl N js):js.length=N.length:=by
 induction h with
 | nil=>rfl
 | own t ih=>simp[ih]
 | cap _ _ _ _ t ih=>simp[ih]
theorem Cap.get {X:Cx}{sc:Scope}{cl:List (Str×Addr)}{N:List Str}{js:List (Option Nat)}(h:Cap X sc cl N js):∀{i j:Nat} {n:Str},N[i]? =some n->js[i]? =some (some j)->X.N[j]? =some n/\X.env.scope.names.lookup n=some .cell/\sc.names.lookup n=some .cell/\cl.lookup n=X.env.cells.lookup n:=by
 induction h with
 | nil=>intro i j n e1 _;simp at e1
 | own t ih=>
  intro i j n e1 e2;cases i with
  | zero=>simp at e2
  | succ i=>exact ih (by simpa using e1) (by simpa using e2)
 | cap hj hk hl hc t ih=>
  intro i j n e1 e2;cases i with
  | zero=>simp at e1 e2;subst e1;subst e2;exact⟨hj,hk,hl,hc⟩
  | succ i=>exact ih (by simpa using e1) (by simpa using e2)
def capS (js:List (Option Nat)) (σ:L2.St):L2.St:=js.map fun o=>o.bind fun j=>(σ[j]?).join
structure Blk (X:Cx) (scope:Scope) (cl:List (Str×Addr)) (N:List Str) (js:List (Option Nat)):Prop where
 clos:closureFor scope X.env=pure cl
 kind:scope.kind= .function
 cell:∀y∈scope.names,y.2≠.cell
 nms:∀y∈scope.names,y.2= .local->scope.names.lookup y.1=some .local
 cap:Cap X (relabel scope X.env) cl N js
 sub:∀y c,cl.lookup y=some c->X.env.cells.lookup y=some c
 has:∀y,((relabel scope X.env).names.lookup y=some .cell\/(relabel scope X.env).names.lookup y=some .free)->∃c,cl.lookup y=some c
 acc:∀k,(relabel scope X.env).names.lookup accN≠some k
section
variable {X:Cx}{pins:List (Addr×PySem.Obj)}{σ:L2.St}{H2:Hp}{s2 s4:Shared}{scope:Scope}{cl:List (Str×Addr)}{N:List Str}{js:List (Option Nat)}{fp:List Addr}{Dd C:Addr}{m:Str->Option Value}
theorem b1t (I:Inv X pins σ H2 s2)(b:Blk X scope cl N js)(f2:∀y∈fp,FpOk X pins H2 y)(fl:∀y∈fp,y<s2.heap.objs.size)(hC:s2.heap.objs.size<=C):(blk X scope cl s2 H2 fp C (N++[accN])).Ok where
 mod:=I.ok.mod
 kind:=b.kind
 glob:=I.ok.glob
 blt:=I.ok.blt
 above:=hC
 inj:=fun x y c e1 e2=>I.ok.inj x y c (b.sub x c e1) (b.sub y c e2)
 has:=fun x h=>b.has x h
 cab:=fun x c h=>nomatch h
 hd:=I.ok.hd
 frames:=I.ok.frames
 stk:=.inl rfl
 exf:=fun y hy=>⟨zG (zF (fl y hy) hC),fun x c e=>(f2 y hy).2.2.2.2.1 x c (b.sub x c e)⟩
 bs:=I.bs
 bsz:=zX I.ok.bsz I.sz
 noex:=fun y o e hy=>by
  rcases(f2 y hy).2.2.2.1 with z|z
  ·exact I.ok.noex y o e z
  ·exact absurd (zF (zO e) (zX I.ok.bsz z)) (jE _)
 exfs:=fun y hy z=>(zN.mp (I.stkSub y z)).elim (f2 y hy).2.1 (f2 y hy).2.2.1
 funs:=I.stack
 frf:=I.stkFree
theorem a9n {o0:HO}(I:Inv X pins σ H2 s2)(b:Blk X scope cl N js)(f2:∀y∈fp,FpOk X pins H2 y)(fl:∀y∈fp,y<s2.heap.objs.size)(hC:s2.heap.objs.size<=C)(hD:s2.heap.objs.size<=Dd)(ne:Dd≠C)
  (ho:s4.os=s2.os) (hg:AllBare s4.gens) (kp:∀y o,s2.heap.get? y=some o->s4.heap.get? y=some o) (hn:s4.heap.Ns C m) (hk:HOk X.K X.prog X.w (upd H2 Dd o0) s4.heap):
  Inv (blk X scope cl s2 H2 fp C (N++[accN])) [] (capS js σ++[some (.ref Dd)]) (upd H2 Dd o0) s4:=by
 have nD:∀y o,s2.heap.get? y=some o->y≠Dd:=fun y o e=>zG (zF (zO e) hD);have nH:∀y u,H2 y=some u->y≠Dd:=fun y u e=>zG (zF (I.hok.lt e) hD);have cD:∀x c,X.env.cells.lookup x=some c->c≠Dd:=fun x c e=>by
  obtain⟨v,o,e1,_⟩:=I.cell x c e;exact nD c o e1
 refine⟨b1t I b f2 fl hC,ho,hg,⟨fun y o e _ _ _=>kp y o e,fun y o e _ _ _=>⟨o.slots,kp y o e⟩,fun y o e n _=>?_,fun y o e _=>⟨o,kp y o e⟩,fun y xs e=>?_,fun y o u e=>?_,fun y ps e=>?_⟩,⟨m,hn,fun i x v e1 e2 e3=>?_⟩,fun x c e=>?_,?_,fun x c e=>?_,fun p hp=>absurd (show p∈([]:List (Addr×PySem.Obj)) from hp) (by simp),hk,?_⟩
 ·rw[c9 (nD y o e)];exact n
 ·rw[c9 (nH _ _ e)];exact e
 ·rw[c9 (nH _ _ e)];exact e
 ·have e':H2 y=some (.tbl ps):=e;exact⟨#[],by rw[c9 (nH _ _ e'),e'];simp⟩
 ·have hl:js.length=N.length:=b.cap.len
  by_cases hi:i<N.length
  ·have e1':N[i]? =some x:=by
    have z:(N++[accN])[i]? =some x:=e1;rw[qB hi] at z;exact z
   rw[qB (by unfold capS;simp;walk_at "o")] at e2
   unfold capS at e2;rw[qH] at e2;cases ej:js[i]? with
   | none=>rw[ej] at e2;cases e2
   | some o=>
    rw[ej] at e2;cases o with
    | none=>cases e2
    | some j=>
     obtain⟨c1,c2,c3,c4⟩:=b.cap.get e1' ej;simp only[jZ,bind_some] at e2;have e2':σ[j]? =some (some v):=by
      cases q:σ[j]? with
      | none=>rw[q] at e2;cases e2
      | some o=>rw[q] at e2;simp at e2;rw[e2]
     obtain⟨m2,_,hl2⟩:=I.loc;obtain⟨u,r,lk⟩:=hl2 j x v c1 e2' (.inr (.inl c2));refine⟨u,r,.inr ⟨.inl c3,?_⟩⟩;rcases lk with ⟨k,_⟩|⟨_,c,e,z⟩
     ·have k':X.env.scope.names.lookup x=some .local:=k;rw[c2] at k';cases k'
     ·exact⟨c,c4.trans e,z.keeps kp⟩
  ·have hx:x=accN:=by
    have z:(N++[accN])[i]? =some x:=e1;rw[qP (by walk_at "o")] at z
    cases q:i-N.length with
    | zero=>rw[q] at z;simp at z;exact z.symm
    | succ k=>rw[q] at z;simp at z
   subst hx;rcases e3 with z|z|z
   ·exact absurd z (b.acc _)
   ·exact absurd z (b.acc _)
   ·exact absurd z (b.acc _)
 ·obtain⟨v,z⟩:=I.cell x c (b.sub x c e);exact⟨v,z.keeps kp⟩
 ·show upd H2 Dd o0 C=none;rw[c9 (qM ne)];exact I.hok.fresh hC
 ·rw[c9 (cD x c (b.sub x c e))];exact I.freeC x c (b.sub x c e)
 ·show(capS js σ++[some (V.ref Dd)]).length=(N++[accN]).length;unfold capS;simp[b.cap.len]
end
def AllC (X:Cx):List (Str×Addr)->Prop
 | []=>True
 | p::r=>X.env.cells.lookup p.1=some p.2/\AllC X r
theorem AllC.sub {X:Cx}:∀{cl:List (Str×Addr)},AllC X cl->∀y c,cl.lookup y=some c->X.env.cells.lookup y=some c
 | [],_,y,c,e=>by simp at e
 | (n,c0)::r,h,y,c,e=>by
  rw[yX] at e;cases q:y==n with
  | true=>
   rw[q] at e;cases e
   have:y=n:=by simpa using q
   rw[this];exact h.1
  | false=>rw[q] at e;exact AllC.sub h.2 y c e
theorem G6 {α:Type}:∀{l:List (Str×α)} {y:Str} {k:α},l.lookup y=some k->(y,k)∈l
 | [],y,k,e=>by simp at e
 | (n,a)::r,y,k,e=>by
  rw[yX] at e;cases q:y==n with
  | true=>
   rw[q] at e;cases e
   have:y=n:=by simpa using q
   rw[this];exact zJ
  | false=>rw[q] at e;exact zL _ (G6 e)
section
variable {X:Cx}{scope:Scope}{cl:List (Str×Addr)}{N:List Str}{js:List (Option Nat)}
theorem E5 (cap:Cap X (relabel scope X.env) cl N js)(clos:closureFor scope X.env=pure cl)(sub:AllC X cl)(has:(relabel scope X.env).names.all (fun p=>(p.2 != .cell&&p.2 != .free)||(cl.lookup p.1).isSome)=true)(kind:scope.kind= .function:=by rfl)(cell:scope.names.all (fun y=>y.2 != .cell)=true:=by decide +kernel)
  (nms:scope.names.all (fun y=>y.2 != .local||scope.names.lookup y.1==some .local)=true:=by decide +kernel) (acc:(relabel scope X.env).names.lookup accN=none:=by rfl):Blk X scope cl N js where
 clos:=clos
 kind:=kind
 cell:=fun y hy=>by have:=yI.mp cell y hy;simpa using this
 nms:=fun y hy hl=>by have:=yI.mp nms y hy;rw[hl] at this;simpa using this
 cap:=cap
 sub:=sub.sub
 has:=fun y h=>by
  have key:∀k,(relabel scope X.env).names.lookup y=some k->k= .cell\/k= .free->∃c,cl.lookup y=some c:=fun k e hk=>by
   have:=yI.mp has (y,k) (G6 e)
   rcases hk with rfl|rfl<;>simpa [isSome_iff_exists] using this
  rcases h with h|h
  ·exact key _ h (.inl rfl)
  ·exact key _ h (.inr rfl)
 acc:=fun k e=>by rw[acc] at e;cases e
end
def capW (k:Bool):W->Option W
 | .v d=>some (.v d)
 | .o d=>some (if k then .l d else .v d)
 | .l d=>some (if k then .l d else .v d)
 | .r _=>none
def capE (lj:Option Nat) (js:List (Option Nat)) (ρ:Ev):Ev:=js.map fun o=>o.bind fun j=>((ρ[j]?).join).bind (capW (lj==some j))
def Capd (ρ:Ev) (σ:L2.St) (js:List (Option Nat)) (b:Addr):Prop:=∃(j:Nat) (w:W) (d:D),some j∈js/\ρ[j]? =some (some w)/\w.own=some d/\σ[j]? =some (some (V.ref b))
def lentL (li:Option (Nat×Nat)) (σ:L2.St):List (Option Nat×Addr):=match li with
 | some (i,j)=>match σ[j]? with
  | some (some (.ref a))=>[(some i,a)]
  | _=>[]
 | none=>[]
structure LiOk (li:Option (Nat×Nat)) (js:List (Option Nat)) (ρ:Ev):Prop where
 own:∀i j,li=some (i,j)->∃c,ownAt ρ j=some c
 at':∀i j,li=some (i,j)->js[i]? =some (some j)
 one:∀i j k,li=some (i,j)->js[k]? =some (some j)->k=i
section
variable {X:Cx}{P:List (D×V)}{O:Av}{L:List (Option Nat×Addr)}{ρ:Ev}{σ:L2.St}{H2:Hp}{s2:Shared}{scope:Scope}{cl:List (Str×Addr)}{N:List Str}{js:List (Option Nat)}{fp:List Addr}{Dd C:Addr}{li:Option (Nat×Nat)}
theorem T3 {lj:Option Nat}{i:Nat}{w:W}(e:(capE lj js ρ)[i]? =some (some w)):∃j w0,js[i]? =some (some j)/\ρ[j]? =some (some w0)/\capW (lj==some j) w0=some w:=by
 unfold capE at e;rw[qH] at e;cases ej:js[i]? with
 | none=>rw[ej] at e;cases e
 | some o=>
  rw[ej] at e;cases o with
  | none=>cases e
  | some j=>
   simp only[jZ,bind_some] at e;cases q:ρ[j]? with
   | none=>rw[q] at e;cases e
   | some o=>
    rw[q] at e;cases o with
    | none=>cases e
    | some w0=>exact⟨j,w0,rfl,q,jC e⟩
theorem U4 {i j:Nat}{v:V}(ej:js[i]? =some (some j))(e:σ[j]? =some (some v)):(capS js σ)[i]? =some (some v):=by
 unfold capS;rw[qH,ej];simp only[jZ,bind_some];rw[e];rfl
theorem a0K {b:Addr}:(none,b)∉lentL li σ:=by
 unfold lentL
 split
 ·split
  ·simp
  ·simp
 ·simp
theorem G0 {i:Nat}{b:Addr}:(some i,b)∈lentL li σ↔∃j,li=some (i,j)/\σ[j]? =some (some (.ref b)):=by
 unfold lentL;cases li with
 | none=>simp
 | some p=>
  obtain⟨i',j'⟩:=p;dsimp only;constructor
  ·intro h;split at h
   ·rename_i a q;rw[zS] at h;cases h;exact⟨j',rfl,q⟩
   ·cases h
  ·rintro⟨j,e,q⟩;cases e;rw[q];exact zS.mpr rfl
theorem G9 {d0:D}(r:Rep X P O L ρ σ H2)(hl:LiOk li js ρ){i:Nat}{w:W}{d:D}{v:V}(e1:(capE (li.map (·.2)) js ρ++[some (.l d0)])[i]? =some (some w))(e2:w.own=some d)(e3:(capS js σ++[some (.ref Dd)])[i]? =some (some v)):
  (i=js.length/\w= .l d0/\v= .ref Dd)\/∃j a w0,li=some (i,j)/\i<js.length/\w= .l d/\js[i]? =some (some j)/\ρ[j]? =some (some w0)/\w0.own=some d/\σ[j]? =some (some (.ref a))/\v= .ref a:=by
 have hcl:(capE (li.map (·.2)) js ρ).length=js.length:=by unfold capE;simp
 have hsl:(capS js σ).length=js.length:=by unfold capS;simp
 by_cases hi:i<js.length
 ·rw[qB (by walk_at "o")] at e1 e3
  obtain⟨j,w0,ej,q,ew⟩:=T3 e1;have own0:w0.own≠none/\li.map (·.2)=some j/\w= .l d/\w0.own=some d:=by
   cases w0 with
   | v c=>cases ew;cases e2
   | r c=>cases ew
   | o c=>
    simp only[capW] at ew;split at ew
    ·rename_i hk;cases ew;cases e2;exact⟨nofun,by simpa using hk,rfl,rfl⟩
    ·cases ew;cases e2
   | l c=>
    simp only[capW] at ew;split at ew
    ·rename_i hk;cases ew;cases e2;exact⟨nofun,by simpa using hk,rfl,rfl⟩
    ·cases ew;cases e2
  obtain⟨_,hlj,rfl,ow⟩:=own0;obtain⟨a,h1,h2⟩:=r.obj q ow;rw[U4 ej h1] at e3;cases e3;cases li with
  | none=>cases hlj
  | some p=>
   obtain⟨i',j'⟩:=p;cases hlj
   have:=hl.one i' _ i rfl ej
   subst this;exact .inr ⟨_,a,w0,rfl,hi,rfl,ej,q,ow,h1,rfl⟩
 ·have hi':i=js.length:=by
   have:=(zQ.mp e1).1
   rw[qK,hcl] at this;simp at this;walk_at "o"
  subst hi';rw[qP (by walk_at "o"),hcl,xI] at e1
  rw[qP (by walk_at "o"),hsl,xI] at e3
  simp only[yN,Option.some.injEq] at e1 e3;exact .inl ⟨rfl,e1.symm,e3.symm⟩
theorem a4R {d0:D}{o0:HO}(hob:∀A H,H Dd=some o0->Obj X.K A H Dd d0)(r:Rep X P O L ρ σ H2)(hl:LiOk li js ρ)(hn:H2 Dd=none):
  Rep (blk X scope cl s2 H2 fp C (N++[accN])) P (fun b=>AvO O ρ σ b/\¬Capd ρ σ js b) ((some js.length,Dd)::lentL li σ) (capE (li.map (·.2)) js ρ++[some (.l d0)]) (capS js σ++[some (.ref Dd)]) (upd H2 Dd o0):=by
 have hcl:(capE (li.map (·.2)) js ρ).length=js.length:=by unfold capE;simp
 have hsl:(capS js σ).length=js.length:=by unfold capS;simp
 have acc1:(capE (li.map (·.2)) js ρ++[some (.l d0)])[js.length]? =some (some (.l d0)):=by rw[qP (by walk_at "o"),hcl,xI];rfl
 have acc2:(capS js σ++[some (V.ref Dd)])[js.length]? =some (some (.ref Dd)):=by rw[qP (by walk_at "o"),hsl,xI];rfl
 have lnt2:∀{i j:Nat} {a:Addr},li=some (i,j)->σ[j]? =some (some (.ref a))->∃w0 d,ρ[j]? =some (some w0)/\w0.own=some d/\(capE (li.map (·.2)) js ρ++[some (.l d0)])[i]? =some (some (.l d))/\(capS js σ++[some (V.ref Dd)])[i]? =some (some (.ref a)):=fun{i j a} e1 e2=>by
  obtain⟨c,ec⟩:=hl.own i j e1;obtain⟨w0,q,ow⟩:=u7 ec;have ej:=hl.at' i j e1;have hi:i<js.length:=(zQ.mp ej).1;refine⟨w0,c,q,ow,?_,by rw[qB (by walk_at "o")];exact U4 ej e2⟩
  rw[qB (by walk_at "o")]
  unfold capE;rw[qH,ej];simp only[jZ,bind_some,q,Option.join_some,e1,beq_self_eq_true];cases w0 with
  | o x=>cases ow;rfl
  | l x=>cases ow;rfl
  | _=>cases ow
 have av:∀b,AvO (fun b=>AvO O ρ σ b/\¬Capd ρ σ js b) (capE (li.map (·.2)) js ρ++[some (.l d0)]) (capS js σ++[some (V.ref Dd)]) b->AvO O ρ σ b\/H2 b=none:=fun b z=>by
  rcases z with z|⟨i,w,d,e1,e2,e3⟩
  ·exact .inl z.1
  ·rcases G9 r hl e1 e2 e3 with ⟨_,_,e⟩|⟨j,a,w0,_,_,_,_,q,ow,qs,e⟩
   ·cases e;exact .inr hn
   ·cases e;exact .inl (.inr ⟨j,w0,d,q,ow,qs⟩)
 have g:Go (AvO O ρ σ) (AvO (fun b=>AvO O ρ σ b/\¬Capd ρ σ js b) (capE (li.map (·.2)) js ρ++[some (.l d0)]) (capS js σ++[some (V.ref Dd)])) (fun _=>False) H2 (upd H2 Dd o0):=⟨fun b o e _=>i0 hn _ b o e,fun _ z=>z.elim,av⟩;refine⟨fun b o e _=>i0 hn _ b o e,fun b z=>⟨r.there z.1,fun i m=>?_⟩,by simp[hcl,hsl],fun i w e=>?_,fun i i' w w' d d' b e1 e2 e3 e4 e5 e6=>?_,fun i d b e=>?_,fun i d e=>?_,fun i b e=>?_,fun p hp=>p7 g _ _ (r.prot p hp),fun b m=>⟨js.length,Dd,zJ⟩⟩
 ·rcases zN.mp m with m|m
  ·cases m;exact r.fresh hn z.1
  ·cases i with
   | none=>exact a0K m
   | some i=>
    obtain⟨j,e1,e2⟩:=G0.mp m;obtain⟨w0,d,q,ow,_⟩:=lnt2 e1 e2;exact z.2 ⟨j,w0,d,qQ (hl.at' i j e1),q,ow,e2⟩
 ·by_cases hi:i<js.length
  ·have e':=e;rw[qB (by walk_at "o")] at e'
   obtain⟨j,w0,ej,q,ew⟩:=T3 e';obtain⟨v,h1,h2⟩:=r.slot j w0 q;refine⟨v,by rw[qB (by walk_at "o")];exact U4 ej h1,?_⟩
   cases w0 with
   | v c=>cases ew;exact p7 g _ _ h2
   | r c=>cases ew
   | o c=>
    simp only[capW] at ew;obtain⟨a,rfl,ob⟩:=h2;have hk:upd H2 Dd o0 a=H2 a:=c9 fun z=>by obtain⟨u,eu,_⟩:=J0 ob;rw[z,hn] at eu;cases eu
    split at ew
    ·cases ew;exact⟨a,rfl,w9 g hk ob⟩
    ·rename_i nk;cases ew;refine T5 (w9 g hk ob) fun z=>?_;rcases z with z|⟨i2,w2,d2,e1,e2,e3⟩
     ·exact z.2 ⟨j,_,c,qQ ej,q,rfl,h1⟩
     ·rcases G9 r hl e1 e2 e3 with ⟨_,_,e⟩|⟨j2,a2,w0,l2,_,_,ej2,q2,ow2,qs2,e⟩
      ·cases e;obtain⟨u,eu,_⟩:=J0 ob;rw[hn] at eu;cases eu
      ·cases e
       have:=r.inj j j2 _ w0 c d2 a q rfl h1 q2 ow2 qs2
       subst this;rw[l2] at nk;simp at nk
   | l c=>
    simp only[capW] at ew;obtain⟨a,rfl,ob⟩:=h2;have hk:upd H2 Dd o0 a=H2 a:=c9 fun z=>by obtain⟨u,eu,_⟩:=J0 ob;rw[z,hn] at eu;cases eu
    split at ew
    ·cases ew;exact⟨a,rfl,w9 g hk ob⟩
    ·rename_i nk;cases ew;refine T5 (w9 g hk ob) fun z=>?_;rcases z with z|⟨i2,w2,d2,e1,e2,e3⟩
     ·exact z.2 ⟨j,_,c,qQ ej,q,rfl,h1⟩
     ·rcases G9 r hl e1 e2 e3 with ⟨_,_,e⟩|⟨j2,a2,w0,l2,_,_,ej2,q2,ow2,qs2,e⟩
      ·cases e;obtain⟨u,eu,_⟩:=J0 ob;rw[hn] at eu;cases eu
      ·cases e
       have:=r.inj j j2 _ w0 c d2 a q rfl h1 q2 ow2 qs2
       subst this;rw[l2] at nk;simp at nk
  ·have hi':i=js.length:=by
    have:=(zQ.mp e).1
    rw[qK,hcl] at this;simp at this;walk_at "o"
   subst hi';rw[acc1] at e;cases e;exact⟨.ref Dd,acc2,Dd,rfl,hob _ _ j3⟩
 ·rcases G9 r hl e1 e2 e3 with ⟨rfl,_,e⟩|⟨j,a,w0,l1,_,_,_,q,ow,qs,e⟩
  ·cases e;rcases G9 r hl e4 e5 e6 with ⟨rfl,_,_⟩|⟨j,a,w0,l1,_,_,_,q,ow,qs,e⟩
   ·rfl
   ·cases e;obtain⟨u,eu,_⟩:=r.owMu ⟨j,w0,d',q,ow,qs⟩;rw[hn] at eu;cases eu
  ·cases e;rcases G9 r hl e4 e5 e6 with ⟨rfl,_,e⟩|⟨j',a',w0',l1',_,_,_,q',ow',qs',e⟩
   ·cases e;obtain⟨u,eu,_⟩:=r.owMu ⟨j,w0,d,q,ow,qs⟩;rw[hn] at eu;cases eu
   ·rw[l1] at l1';cases l1';rfl
 ·by_cases hi:i<js.length
  ·rw[qB (by walk_at "o")] at e
   obtain⟨j,w0,ej,q,ew⟩:=T3 e;cases w0<;>simp only[capW] at ew<;>first|cases ew|(split at ew<;>cases ew)
  ·rw[qP (by walk_at "o")] at e
   cases q:i-(capE (li.map (·.2)) js ρ).length with
   | zero=>rw[q] at e;cases e
   | succ n=>rw[q] at e;simp at e
 ·by_cases hi:i<js.length
  ·have e':=e;rw[qB (by walk_at "o")] at e'
   obtain⟨j,w0,ej,q,ew⟩:=T3 e';obtain⟨v,h1,h2⟩:=r.slot j w0 q;have e3:(capS js σ++[some (V.ref Dd)])[i]? =some (some v):=by rw[qB (by walk_at "o")];exact U4 ej h1
   rcases G9 r hl e rfl e3 with ⟨rfl,_⟩|⟨j,a,w0,l1,_,_,_,q,ow,qs,rfl⟩
   ·walk_at "o"
   ·exact⟨a,e3,zL _ (G0.mpr ⟨j,l1,qs⟩)⟩
  ·have hi':i=js.length:=by
    have:=(zQ.mp e).1
    rw[qK,hcl] at this;simp at this;walk_at "o"
   subst hi';exact⟨Dd,acc2,zJ⟩
 ·rcases zN.mp e with e|e
  ·cases e;exact⟨_,acc1,acc2⟩
  ·obtain⟨j,e1,e2⟩:=G0.mp e;obtain⟨w0,d,_,_,q1,q2⟩:=lnt2 e1 e2;exact⟨d,q1,q2⟩
end
structure Tst (Y:Cx) (ifs:List Expr) (t:FT):Prop where
 to:∀(pins:List (Addr×PySem.Obj)) (s:Shared) (σ:L2.St) (H:Hp) (P:List (D×V)) (O:Av) (L:List (Option Nat×Addr)) (ρ ρ':Ev) (k:Bool) (Q:Bool->Hp->Prop),Inv Y pins σ H s->Rep Y P O L ρ σ H->t ρ=some (k,ρ')->(∀H',Rep Y P O L ρ' σ H'->Q k H')->
  wpAny (model Y.prog Y.w) Y.A (forIn ifs true fun c r=>if r=true then do let ok <-isTrue c Y.env (eval c Y.env);pure (ForInStep.yield ok) else pure (ForInStep.yield r)) (TP Y pins σ Q) Fa s
theorem E2 {Y:Cx}:Tst Y [] (fun ρ=>some (true,ρ)):=⟨fun pins s σ H P O L ρ ρ' k Q I r e q=>by cases e;exact wpAny_tests_nil ⟨H,I,q H r⟩⟩
theorem a2k {Y:Cx}{c:Expr}{t:FT}(hx:Y.xe=Fa)(h:QT Y c t):Tst Y [c] t:=⟨fun pins s σ H P O L ρ ρ' k Q I r e q=>by
 have z:=h.to pins s σ H Q I ⟨P,O,L,ρ,k,ρ',r,e,q⟩;rw[hx] at z
 exact wpAny_tests_one z⟩
def WksB (li:Option (Nat×Nat)) (K:PySem.W.Frag) (P:List (D×V)) (O:Av) (ρ:Ev) (σ:L2.St) (H:Hp) (xs:List D) (J:It):Prop:=∀(Y:Cx) (O':Av) (L:List (Option Nat×Addr)) (ρ':Ev) (σ':L2.St) (H':Hp),Y.K=K->Y.H₀=H->Rep Y P O' L ρ' σ' H'->(∀b,O' b->AvO O ρ σ b)->(li=none->∀i b,(i,b)∈L->H b=none)->
 (∀(i:Nat) (x:D),xs[i]? =some x->J.go i H'/\∀v H'',J.yld i H' v H''->Same H' H''/\Den K (AvO O' ρ' σ') H'' x v)/\J.stop xs.length H'
def tIB (X:Cx) (li:Option (Nat×Nat)) (fi:FI):TI:=fun σ H R=>∃P O L ρ xs ρ',Rep X P O L ρ σ H/\fi ρ=some (xs,ρ')/\∀J H1 P',Rep X P' O L ρ' σ H1->Holds P' P->WksB li X.K P' O ρ' σ H1 xs J->R J H1
theorem tIBe {X:Cx}{li:Option (Nat×Nat)}{fi:FI}{σ:L2.St}{H:Hp}{R:It->Hp->Prop}{C:Prop}(h:tIB X li fi σ H R)(k:∀P O L ρ xs ρ',Rep X P O L ρ σ H->fi ρ=some (xs,ρ')->(∀J H1 P',Rep X P' O L ρ' σ H1->Holds P' P->WksB li X.K P' O ρ' σ H1 xs J->R J H1)->C):C:=by
 obtain⟨P,O,L,ρ,w,ρ',r,e,q⟩:=h;exact k P O L ρ w ρ' r e q
structure QIB (X:Cx) (li:Option (Nat×Nat)) (tg iter:Expr) (fi:FI):Prop where
 to:PI X tg iter (tIB X li fi)
theorem Wks.b {li:Option (Nat×Nat)}{K:PySem.W.Frag}{P:List (D×V)}{O:Av}{ρ:Ev}{σ:L2.St}{H:Hp}{xs:List D}{J:It}(w:Wks K P xs J):WksB li K P O ρ σ H xs J:=fun Y O' L ρ' σ' H' hY _ r _ _=>w Y O' L ρ' σ' H' hY r
theorem Y1 {X:Cx}{li:Option (Nat×Nat)}{tg iter:Expr}{fi:FI}(h:QI X tg iter fi):QIB X li tg iter fi:=⟨PI.weak h.to fun σ H R h0=>tIBe h0 fun P O L ρ xs ρ' r e q=>⟨P,O,L,ρ,xs,ρ',r,e,fun J H1 P' r1 hh w=>q J H1 P' r1 hh w.b⟩⟩
def fiName (i:Nat):FI:=fun ρ=>match ρ[i]? with
 | some (some (.v d))=>(items d).map fun xs=>(xs,ρ)
 | some (some (.r _))=>none
 | some (some w)=>match w.own with
  | some (.lst xs)=>some (xs,ρ)
  | _=>none
 | _=>none
theorem b1E {Y:Cx}{P:List (D×V)}{O O':Av}{L:List (Option Nat×Addr)}{ρ ρ':Ev}{σ σ':L2.St}{H H':Hp}(hH:Y.H₀=H)(r:Rep Y P O' L ρ' σ' H')(ho:∀b,O' b->AvO O ρ σ b)(hn:∀i b,(i,b)∈L->H b=none):Go (AvO O ρ σ) (AvO O' ρ' σ') (fun _=>False) H H' where
 k:=fun b o e _=>r.same b o (by rw[hH];exact e) fun i m=>by rw[hn i b m] at e;cases e
 m:=fun _ z=>z.elim
 n:=fun b z=>by
  rcases z with z|⟨i,w,d,e1,e2,e3⟩
  ·exact .inl (ho b z)
  ·cases w with
   | o c=>
    have z:=r.new i c b e1 e3;unfold hz at z;split at z
    ·rename_i m;exact .inr (hn none b m)
    ·exact .inr (by rw[<-hH];exact z)
   | l c=>obtain⟨b',q1,q2⟩:=r.lnt i c e1;rw[e3] at q1;cases q1;exact .inr (hn (some i) b q2)
   | _=>cases e2
theorem N5 {X:Cx}{tg:Expr}{pos:Pos}(i:Nat){x:Str}(hN:X.N[i]? =some x:=by rfl)(hv:Vis X.env.scope x:=by first|exact Or.inl rfl|exact Or.inr (Or.inl rfl)|exact Or.inr (Or.inr rfl))(hd:(x==("__debug__":Str))=false:=by decide)(hcd:(x==("__classdict__":Str))=false:=by decide):QIB X none tg (.Name x pos) (fiName i):=⟨PI.weak (a6G (a8G hN hv hd hcd)) fun σ H R h0=>tIBe h0 fun P O L ρ xs ρ' r e q=>by
 unfold fiName at e;split at e
 ·rename_i d0 e0;obtain⟨v,h1,h2⟩:=r.slot i _ e0;have h2:Den X.K (AvO O ρ σ) H d0 v:=h2;obtain⟨ys,e3,e⟩:=oms e;cases e;have r3:=r.more (p:=(d0,v)) h2;have hh:Holds ((d0,v)::P) P:=fun p hp=>zL _ hp;refine⟨v,h1,?_⟩;cases d0 with
  | tup zs=>
   cases e3;have z:=h2;rw[Den] at z;obtain⟨a,vs,rfl,hq,l⟩:=z;refine .inr ⟨a,rfl,⟨vs,hq⟩,q _ H _ r3 hh (Wks.b fun Y O' L' ρ' σ' Hh hY rr=>?_)⟩;have z:=rr.head;rw[hY] at z;rw[Den] at z;obtain⟨a',vs,ea,hq,l⟩:=z;cases ea;refine⟨fun i x ex=>?_,vs,hq,by rw[<-c6 l];exact zE _⟩
   obtain⟨v0,hv,dv⟩:=w5 l ex;exact⟨⟨vs,v0,hq,hv⟩,fun w H' ⟨y1,y2⟩=>by subst y1;have:=y2 vs hq;rw[hv] at this;cases this;exact⟨Same.refl _,dv⟩⟩
  | lst zs=>
   cases e3;obtain⟨a,vs,rfl,hq,l⟩:=F4 h2;refine .inl ⟨a,rfl,⟨vs,hq⟩,q _ H _ r3 hh (Wks.b fun Y O' L' ρ' σ' Hh hY rr=>?_)⟩;have z:=rr.head;rw[hY] at z;obtain⟨a',vs,ea,hq,l⟩:=F4 z;cases ea;refine⟨fun i x ex=>?_,vs,hq,by rw[<-c6 l];exact zE _⟩
   obtain⟨v0,hv,dv⟩:=w5 l ex;exact⟨⟨vs,v0,hq,hv⟩,fun w H' ⟨y1,y2⟩=>by subst y1;have:=y2 vs hq;rw[hv] at this;cases this;exact⟨Same.refl _,dv⟩⟩
  | _=>cases e3
 ·cases e
 ·rename_i w0 _ _ e0;cases ew:w0.own with
  | none=>rw[ew] at e;cases e
  | some c=>
   rw[ew] at e;cases c with
   | lst zs=>
    cases e;obtain⟨a,h1,h2⟩:=r.obj e0 ew;refine⟨.ref a,h1,?_⟩;obtain⟨vs,h4,lz⟩:=h2;refine .inl ⟨a,rfl,⟨vs,.inl (.inl h4)⟩,q _ H P r (fun p hp=>hp) fun Y O' L' ρ2 σ2 Hh hY hH rr ho hn=>?_⟩;have g:=b1E hH rr ho (hn rfl);have l2:=t8 g _ _ lz;have h5:Hh a=some (.lst vs):=g.k a _ h4 id;have hq:SqL X.K Hh a vs:=.inl (.inl h5);refine⟨fun i x ex=>?_,vs,hq,by rw[<-c6 lz];exact zE _⟩
    obtain⟨v0,hv,dv⟩:=w5 l2 ex;exact⟨⟨vs,v0,hq,hv⟩,fun w H' ⟨y1,y2⟩=>by subst y1;have:=y2 vs hq;rw[hv] at this;cases this;exact⟨Same.refl _,dv⟩⟩
   | _=>cases e
 ·cases e⟩
def appTo (k:Nat) (p:W×Ev):Option Ev:=(takeAll p.2 [p.1.fz]).bind fun q=>match q.1,ownAt q.2 k with
 | [d],some (.lst zs)=>if zs.length<lim then some (setOwn q.2 k (.lst (zs++[d]))) else none
 | _,_=>none
def turnC (k:Nat) (gf:FG) (t:FT) (fe:FX):D->Ev->Option Ev:=fun x ρ=>(gf x ρ).bind fun ρ1=>(t ρ1).bind fun p=>if p.1=true then(fe p.2).bind (appTo k) else some p.2
def loopC (st:D->Ev->Option Ev):List D->Ev->Option Ev
 | [],ρ=>some ρ
 | x::xs,ρ=>(st x ρ).bind (loopC st xs)
section
variable {X:Cx}{pins:List (Addr×PySem.Obj)}{σ:L2.St}{H2:Hp}{s2:Shared}{scope:Scope}{cl:List (Str×Addr)}{N:List Str}{js:List (Option Nat)}{fp:List Addr}{it:Addr}{tn:Nat->Heap->Prop}{J:It}{elt tg iter:Expr}{ifs:List Expr}{pos:Pos}{P:List (D×V)}{O:Av}{L:List (Option Nat×Addr)}{ρ ρe:Ev}{xs:List D}{gf:FG}{t:FT}{fe:FX}{Qq:Value->Shared->Prop}{use:Option (Value->Sem Unit)}{li:Option (Nat×Nat)}
def turnG (gf:FG) (t:FT) (stp:Ev->Option Ev):D->Ev->Option Ev:=fun x ρ=>(gf x ρ).bind fun ρ1=>(t ρ1).bind fun p=>if p.1=true then stp p.2 else some p.2
theorem a6r {new:Sem Value}{ce:Expr}{ob0:PySem.Obj}{o0:HO}{d0:D}{stp:Ev->Option Ev}{el:Env->Addr->Shared->(Shared->Prop)->Prop}
  (hnew:∀{Q:Value->Shared->Prop},Q (.ref s2.heap.objs.size) {s2 with heap:=s2.heap.push ob0}->wpAny (model X.prog X.w) X.A new Q X.xe s2) (hob:∀A H a,H a=some o0->Obj X.K A H a d0) (hok:HOk X.K X.prog X.w (upd H2 s2.heap.objs.size o0) (s2.heap.push ob0))
  (hloop:∀{Dd:Addr} {env:Env} {R:Result->Shared->Prop} {s:Shared} (I:Nat->Shared->Prop),(∀n s,I n s->wpAny (model X.prog X.w) X.A (pyNext (.ref it)) (fun r s1=>match r with
   | none=>R (.ok .next) s1
   | some v=>wpAny (model X.prog X.w) X.A (letOwnedTupleGo tg (.ref it) v) (fun _ s2=>wpAny (model X.prog X.w) X.A (assign tg env v) (fun _ s3=>
     wpAny (model X.prog X.w) X.A (forIn ifs true fun c r=>if r=true then do let ok <-isTrue c env (eval c env);pure (ForInStep.yield ok) else pure (ForInStep.yield r)) (fun ok s4=>
      if ok=true then el env Dd s4 (fun s6=>∃m,m<n/\I m s6) else ∃m,m<n/\I m s4) Fa s3) Fa s2) Fa s1) Fa s)->∀n,I n s->codeAny (model X.prog X.w) X.A (.compLoop ce 0 (.ref it) (.ref Dd) env) R s)
  (hstart:∀{acc:Value} {env:Env} {R:Result->Shared->Prop} {s:Shared},codeAny (model X.prog X.w) X.A (.compLoop ce 0 (.ref it) acc env) R s->wpAny (model X.prog X.w) X.A (pyIter (.ref it)) (fun it' s'=>codeAny (model X.prog X.w) X.A (.compLoop ce 0 it' acc env) R s') (notedBy (model X.prog X.w) X.A env fun x s'=>R (.error x) s') s->codeAny (model X.prog X.w) X.A (.compStart ce 0 (.ref it) acc env) R s)
  (hE:∀{C Dd:Addr} {qs:List (Addr×PySem.Obj)} {σ6:L2.St} {H7:Hp} {s7:Shared} {O':Av} {L':List (Option Nat×Addr)} {ρ2 ρt:Ev} {K:Shared->Prop},(some js.length,Dd)∈L'->Inv (blk X scope cl s2 H2 fp C (N++[accN])) qs σ6 H7 s7->Rep (blk X scope cl s2 H2 fp C (N++[accN])) P O' L' ρ2 σ6 H7->stp ρ2=some ρt->(∀{s8 H8},Inv (blk X scope cl s2 H2 fp C (N++[accN])) qs σ6 H8 s8->Rep (blk X scope cl s2 H2 fp C (N++[accN])) P O' L' ρt σ6 H8->K s8)->el (compEnvC scope cl C X.env) Dd s7 K)
  (hcalm:X.calm=true) (I2:Inv X pins σ H2 s2) (T:Turn X.prog X.w X.K tg J fp it tn) (st2:tn 0 s2.heap) (f2:∀y∈fp,FpOk X pins H2 y) (b:Blk X scope cl N js) (r:Rep X P O L ρ σ H2) (hl:LiOk li js ρ) (wk:WksB li X.K P O ρ σ H2 xs J)
  (hg:∀C,QG (blk X scope cl s2 H2 fp C (N++[accN])) tg gf) (ht:∀C,Tst (blk X scope cl s2 H2 fp C (N++[accN])) ifs t)
  (e:loopC (turnG gf t stp) xs (capE (li.map (·.2)) js ρ++[some (.l d0)])=some ρe)
  (fin:∀(Dd C:Addr) (σe:L2.St) (He:Hp) (s1:Shared),H2 Dd=none->s2.heap.objs.size<=C->Inv (blk X scope cl s2 H2 fp C (N++[accN])) [] σe He s1->Rep (blk X scope cl s2 H2 fp C (N++[accN])) P (fun b=>AvO O ρ σ b/\¬Capd ρ σ js b) ((some js.length,Dd)::lentL li σ) ρe σe He->
   compPost (model X.prog X.w) X.A X.xe use Qq (.ref Dd) C (.ok .next) s1):
  wpAny (model X.prog X.w) X.A new (fun acc s3=>wpAny (model X.prog X.w) X.A (newFunctionEnv scope X.env.globals cl [] X.env.qual none .none (some X.env)) (fun cenv s4=>
   codeAny (model X.prog X.w) X.A (.compStart ce 0 (.ref it) acc {cenv with scope:=relabel scope X.env}) (compPost (model X.prog X.w) X.A X.xe use Qq acc cenv.locals) s4) X.xe s3) X.xe s2:=by
 have fl:∀y∈fp,y<s2.heap.objs.size:=fun y hy=>by obtain⟨o,eo,_⟩:=T.obj _ _ st2 y hy;exact zO eo
 refine hnew (wpAny_newFunctionEnv b.cell (by intro y hy;simp at hy) (fun h' hns hsb=>?_) b.kind)
 dsimp only at hns hsb ⊢;generalize hH:s2.heap.push ob0=H3 at hok hns hsb ⊢;have hC:H3.objs.size=s2.heap.objs.size+1:=by rw[<-hH,jI]
 have ne:s2.heap.objs.size≠H3.objs.size:=by rw[hC];exact zG (xA _)
 have leC:s2.heap.objs.size<=H3.objs.size:=by rw[hC];exact Nat.le_succ _
 have kp3:∀y o,s2.heap.get? y=some o->H3.get? y=some o:=fun y o e=>hH▸zD _ e;have kp4:∀y o,H3.get? y=some o->h'.get? y=some o:=fun y o e=>hsb.extBut y o (zG (zO e)) (zD _ e);have hDn:H2 s2.heap.objs.size=none:=I2.hok.fresh (zE _);have I4:=a9n (s4:={s2 with heap:=h',toks:=s2.toks+([]:List (Str×Value)).length}) (Dd:=s2.heap.objs.size) (C:=H3.objs.size) I2 b f2 fl leC (zE _) ne rfl I2.bare (fun y o e=>kp4 y o (kp3 y o e)) hns (hok.kept kp4)
 have R4:=a4R (d0:=d0) (o0:=o0) (fun A H=>hob A H _) (scope:=scope) (cl:=cl) (N:=N) (s2:=s2) (fp:=fp) (C:=H3.objs.size) (Dd:=s2.heap.objs.size) r hl hDn;have hfree:∀{H':Hp},(∀y∈fp,H' y=none)->∀y∈fp,FpOk (blk X scope cl s2 H2 fp H3.objs.size (N++[accN])) [] H' y:=fun hn y hy=>
  ⟨hn y hy,zG (zF (fl y hy) leC),fun z=>(zN.mp (I2.stkSub y z)).elim (f2 y hy).2.1 (f2 y hy).2.2.1,.inl hy,fun x c ec=>(f2 y hy).2.2.2.2.1 x c (b.sub x c ec),fun p hp=>absurd (show p∈([]:List (Addr×PySem.Obj)) from hp) (by simp)⟩
 obtain⟨gg,pg,kg⟩:=(hg H3.objs.size).to;have loop:∀s5:Shared,s5={s2 with heap:=h',toks:=s2.toks+([]:List (Str×Value)).length}->
   codeAny (model X.prog X.w) X.A (.compLoop ce 0 (.ref it) (.ref s2.heap.objs.size) (compEnvC scope cl H3.objs.size X.env))
    (compPost (model X.prog X.w) X.A X.xe use Qq (.ref s2.heap.objs.size) H3.objs.size) s5:=by
  rintro s5 rfl
  let Y:=blk X scope cl s2 H2 fp H3.objs.size (N++[accN])
  let O':Av:=fun b=>AvO O ρ σ b/\¬Capd ρ σ js b
  let L':=(some js.length,s2.heap.objs.size)::lentL li σ
  refine hloop (fun n s=>∃i σ' H' ρ',n=xs.length-i/\i<=xs.length/\Inv Y [] σ' H' s/\tn i s.heap/\(∀y∈fp,H' y=none)/\Rep Y P O' L' ρ' σ' H'/\loopC (turnG gf t stp) (xs.drop i) ρ'=some ρe) ?_ xs.length
   ⟨0,_,_,_,by simp,jG _,I4,T.keep 0 _ _ st2 fun y hy o eo=>kp4 y o (kp3 y o eo),fun y hy=>by rw[c9 (zG (fl y hy))];exact(f2 y hy).1,R4,by simpa using e⟩
  rintro n s ⟨i,σ',H',ρ',rfl,hi,I,st,fr,rp,el⟩;obtain⟨wi,ws⟩:=wk Y O' L' ρ' σ' H' rfl rfl rp (fun b z=>z.1) (fun z i b m=>by subst z;exact(zN.mp m).elim (fun m=>by cases m;exact hDn) (fun m=>by cases m))
  by_cases hlt:i<xs.length
  ·obtain⟨go,yl⟩:=wi i xs[i] (by simp[hlt])
   refine zR (T.item Y rfl rfl rfl hcalm i [] s σ' H' Fa I (hfree fr) st go) (fun r s1 ⟨u,hr,h1⟩=>?_) fun _ _ z=>z;subst hr;refine zR h1 (fun _ s3 ⟨x,H5,I5,r5,y5,st5,fr5⟩=>?_) fun _ _ z=>z;obtain⟨sm5,dx⟩:=yl x H5 y5
   replace rp:=rp.grow sm5
   rw[yE hlt,loopC] at el;cases e1:turnG gf t stp xs[i] ρ' with
   | none=>rw[e1] at el;cases el
   | some ρt=>
    rw[e1] at el;simp only[bind_some] at el;unfold turnG at e1;cases e2:gf xs[i] ρ' with
    | none=>rw[e2] at e1;cases e1
    | some ρ1=>
     rw[e2] at e1;simp only[bind_some] at e1;obtain⟨⟨k,ρ2⟩,e3,e1⟩:=obs e1;dsimp only at e1;have I5':=I5.pinned (hfree fr5) (T.obj _ _ st5);have gq:=kg P O' L' xs[i] x ρ' ρ1 σ' H5 (fun σ2 Hh=>Rep Y P O' L' ρ1 σ2 Hh) rp dx e2 (fun σ2 H2' rp2=>rp2);refine zR (pg _ s3 σ' H5 x u _ I5' r5 gq) (fun _ s6 ⟨σ6,H6,I6,rp6⟩=>?_) fun _ _ z=>z;have back:∀{s7:Shared} {H7:Hp} {ρ7:Ev},Inv Y ([]++pinsAt fp s3.heap) σ6 H7 s7->Rep Y P O' L' ρ7 σ6 H7->loopC (turnG gf t stp) (xs.drop (i+1)) ρ7=some ρe->
       ∃m,m<xs.length-i/\∃i σ' H' ρ',m=xs.length-i/\i<=xs.length/\Inv Y [] σ' H' s7/\tn i s7.heap/\(∀y∈fp,H' y=none)/\Rep Y P O' L' ρ' σ' H'/\loopC (turnG gf t stp) (xs.drop i) ρ'=some ρe:=fun{s7 H7 ρ7} I7 rp7 e7=>by
      refine⟨xs.length-(i+1),by walk_at "o",i+1,σ6,H7,ρ7,rfl,hlt,I7.unpinned,T.keep _ _ _ st5 fun y hy o eo=>(I7.pin (y,o) (qN _ (qN _ (A6 hy eo)))).1,fun y hy=>?_,rp7,e7⟩
      obtain⟨o,eo,_⟩:=T.obj _ _ st5 y hy;exact(I7.pin (y,o) (qN _ (qN _ (A6 hy eo)))).2.1
     refine zR ((ht H3.objs.size).to _ s6 σ6 H6 P O' L' ρ1 ρ2 k (fun k' Hh=>k'=k/\Rep Y P O' L' ρ2 σ6 Hh) I6 rp6 e3 (fun H' rr=>⟨rfl,rr⟩)) (fun ok s7 ⟨H7,I7,hk,rp7⟩=>?_) fun _ _ z=>z;subst hk;cases ok with
     | false=>
      rw[if_neg zT] at e1 ⊢;cases e1;exact back I7 rp7 el
     | true=>
      rw[if_pos rfl] at e1 ⊢;exact hE zJ I7 rp7 e1 fun I8 rp8=>back I8 rp8 el
  ·have hie:i=xs.length:=by walk_at "o"
   subst hie;refine zR (T.done Y rfl rfl rfl hcalm _ [] s σ' H' Fa I (hfree fr) st ws) (fun r s1 ⟨hr,I1⟩=>?_) fun _ _ z=>z;subst hr;rw[List.drop_eq_nil_of_le (zE _),loopC] at el;cases el;exact fin _ _ σ' H' s1 hDn leC I1 rp
 exact hstart (loop _ rfl) (T.self _ 0 _ _ _ (T.keep 0 _ _ st2 fun y hy o eo=>kp4 y o (kp3 y o eo)) (loop _ rfl))
theorem a6v (hcalm:X.calm=true)(I2:Inv X pins σ H2 s2)(T:Turn X.prog X.w X.K tg J fp it tn)(st2:tn 0 s2.heap)(f2:∀y∈fp,FpOk X pins H2 y)(b:Blk X scope cl N js)(r:Rep X P O L ρ σ H2)(hl:LiOk li js ρ)(wk:WksB li X.K P O ρ σ H2 xs J)
  (hg:∀C,QG (blk X scope cl s2 H2 fp C (N++[accN])) tg gf) (ht:∀C,Tst (blk X scope cl s2 H2 fp C (N++[accN])) ifs t) (he:∀C,QX (blk X scope cl s2 H2 fp C (N++[accN])) elt fe)
  (e:loopC (turnC js.length gf t fe) xs (capE (li.map (·.2)) js ρ++[some (.l (.lst []))])=some ρe)
  (fin:∀(Dd C:Addr) (σe:L2.St) (He:Hp) (s1:Shared),H2 Dd=none->s2.heap.objs.size<=C->Inv (blk X scope cl s2 H2 fp C (N++[accN])) [] σe He s1->Rep (blk X scope cl s2 H2 fp C (N++[accN])) P (fun b=>AvO O ρ σ b/\¬Capd ρ σ js b) ((some js.length,Dd)::lentL li σ) ρe σe He->
   compPost (model X.prog X.w) X.A X.xe use Qq (.ref Dd) C (.ok .next) s1):
  wpAny (model X.prog X.w) X.A (newList []) (fun acc s3=>wpAny (model X.prog X.w) X.A (newFunctionEnv scope X.env.globals cl [] X.env.qual none .none (some X.env)) (fun cenv s4=>
   codeAny (model X.prog X.w) X.A (.compStart (.ListComp elt [⟨tg,iter,ifs,0⟩] scope pos) 0 (.ref it) acc {cenv with scope:=relabel scope X.env}) (compPost (model X.prog X.w) X.A X.xe use Qq acc cenv.locals) s4) X.xe s3) X.xe s2:=
 a6r (new:=newList []) (ob0:={cls:=.type "list",dict:=none,data:=.seq ([]:List Value).toArray}) (o0:=.lst []) (d0:=.lst []) (stp:=fun ρ=>(fe ρ).bind (appTo js.length)) (el:=fun env a s K=>wpAny (model X.prog X.w) X.A (eval elt env) (fun x s5=>wpAny (model X.prog X.w) X.A (call (.builtin "list.append") [.ref a,x]) (fun _ s6=>K s6) Fa s5) Fa s)
  (fun h=>qD h) (fun _ _ _ e=>⟨[],e,j7⟩) (I2.hok.laid (fun y o e=>zD _ e) (zE _) ⟨jG _,[],0,.nil,zK _ rfl⟩) (fun I t n h=>a1x I t n h) codeAny_compStart_list
  (fun{C Dd qs σ6 H7 s7 O' L' ρ2 ρt K} hL I7 rp7 e1 back=>by
   obtain⟨⟨w,ρ3⟩,e4,e1⟩:=obs e1;simp only[appTo] at e1;obtain⟨⟨ds,ρ4⟩,e5,e1⟩:=obs e1;dsimp only at e1;split at e1
   ·rename_i d zs e6;split at e1
    ·rename_i hl;cases e1;refine zR ((he C).to _ s7 σ6 H7 (fun v H8=>Rep (blk X scope cl s2 H2 fp C (N++[accN])) P O' L' ρ4 σ6 H8/\Den X.K (AvO O' ρ4 σ6) H8 d v) I7 ⟨P,O',L',ρ2,w,ρ3,rp7,e4,fun v H8 H8' r8 s8 d8=>?_⟩) (fun u8 s8 ⟨v8,H8,I8,r8,rp8,d8⟩=>?_) fun _ _ z=>z
     ·obtain⟨r9,l9,_⟩:=r0 (vs:=[v]) (r8.grow s8) e5 ⟨v,[],rfl,d8.fz r8 s8,rfl⟩;obtain⟨v',ev,h'⟩:=denL1 l9;cases ev;exact⟨r9,h'⟩
     ·obtain⟨d0,q1,q2⟩:=rp8.lnd js.length Dd hL;have e6':=e6;unfold ownAt at e6';rw[q1] at e6';cases e6';obtain⟨a,h1,vs,h4,lz⟩:=rp8.obj q1 rfl;rw[q2] at h1;cases h1;have h9:=W2 _ s8 σ6 H8 (.ref Dd) [v8] (.ref Dd) [u8] (fun v H9=>H9=upd H8 Dd (.lst (vs++[v8]))) I8 rfl (.cons r8 .nil) ⟨_,vs,v8,rfl,rfl,h4,by rw[<-c6 lz];exact zF hl v7,rfl⟩
      refine zR h9 (fun _ s9 ⟨v9,H9,I9,_,e9⟩=>?_) fun _ _ z=>z;subst e9;have g0:Go (AvO O' ρ4 σ6) (AvO O' ρ4 σ6) (fun b=>b=Dd) H8 (upd H8 Dd (.lst (vs++[v8]))):=⟨fun b o eb nb=>by rw[c9 nb];exact eb,fun b z=>by rw[z];exact⟨.inr ⟨js.length,_,_,q1,rfl,q2⟩,_,h4,trivial⟩,fun b z=>.inl z⟩
      exact back I9 (rp8.mut (d:=.lst (zs++[d])) e6 q2 (fun b o eb nb=>by rw[c9 nb];exact eb) ⟨_,j3,t8 g0 _ _ (v4 lz (j6 d8 j7))⟩)
    ·cases e1
   ·cases e1) hcalm I2 T st2 f2 b r hl wk hg ht e fin
theorem a8v {C:Addr}{σe:L2.St}{He:Hp}{s1:Shared}{h9:Heap}(I2:Inv X pins σ H2 s2)(f2:∀y∈fp,FpOk X pins H2 y)(leC:s2.heap.objs.size<=C)(I1:Inv (blk X scope cl s2 H2 fp C (N++[accN])) [] σe He s1)(hs9:∀y,y≠C->h9.get? y=s1.heap.get? y):
  Inv X pins σ He {s1 with heap:=h9}:=by
 have neC:∀y,He y≠none->y≠C:=fun y z w=>z (by rw[w];exact I1.free)
 have inS:∀y o,s2.heap.get? y=some o->y≠C:=fun y o e0=>zG (zF (zO e0) leC);have B:=I1.base
 have un:Un (frs X.stack) fp H2 He s2.heap h9:=⟨fun y o e0 n hb hx=>(hs9 y (inS y o e0)).trans (B.keep y o e0 n hb hx),fun y o e0 n hb hx=>by
   obtain⟨sl',z⟩:=B.slot y o e0 n hb hx;exact⟨sl',(hs9 y (inS y o e0)).trans z⟩,B.free,fun y o e0 hx=>by
   obtain⟨o',z⟩:=B.there y o e0 hx
   exact⟨o',(hs9 y (inS y o e0)).trans z⟩,B.tups,B.frzs,B.tbls⟩
 have hok:HOk X.K X.prog X.w He h9:=fun y u0 q0=>(I1.hok y u0 q0).stay (fun c v hc z=>(hs9 c (neC c (by
   rcases hc with w|w
   ·rw[w,q0];exact fun z=>nomatch z
   ·rw[w];exact fun z=>nomatch z))).trans z) (fun _ z=>z) fun _ _ z=>z
 exact I2.call' (s':={s1 with heap:=h9}) (ch:=fp) I1.os un hok I1.bare (fun y hy=>⟨(f2 y hy).2.2.2.1,(f2 y hy).2.1,(f2 y hy).2.2.2.2.1,(f2 y hy).2.2.2.2.2⟩)
end
def capR (js:List (Option Nat)):List W:=js.filterMap fun o=>o.map W.r
def backG (li:Option (Nat×Nat)) (js:List (Option Nat)) (ρe ρ1:Ev) (d:D):Option (W×Ev):=match li with
 | none=>if lfC d=true then some (.o d,ρ1) else(frzL (capR js) ρ1).map fun ρ2=>(.o d,ρ2)
 | some (i,j)=>if lfC d=true then(ownAt ρe i).bind fun c=>if lfC c=true then some (.o d,setOwn ρ1 j c) else none else none
def liJ (li:Option (Nat×Nat)) (js:List (Option Nat)):Bool:=match li with
 | none=>true
 | some (i,j)=>js[i]? == some (some j)&&(List.range js.length).all fun k=>js[k]? != some (some j)||k==i
def liB (li:Option (Nat×Nat)) (ρ:Ev):Bool:=match li with
 | none=>true
 | some (_,j)=>(ownAt ρ j).isSome
def fComp (fi:FI) (li:Option (Nat×Nat)) (js:List (Option Nat)) (gf:FG) (t:FT) (fe:FX):FX:=fun ρ=>(fi ρ).bind fun p=>if liB li p.2=true then
  (loopC (turnC js.length gf t fe) p.1 (capE (li.map (·.2)) js p.2++[some (.l (.lst []))])).bind fun ρe=>match ownAt ρe js.length with
   | some (.lst ys)=>backG li js ρe p.2 (.lst ys)
   | _=>none
 else none
section
variable {X:Cx}{pins:List (Addr×PySem.Obj)}{σ σe:L2.St}{H2 He:Hp}{s2:Shared}{scope:Scope}{cl:List (Str×Addr)}{N:List Str}{js:List (Option Nat)}{fp:List Addr}{Dd C:Addr}{elt tg iter:Expr}{ifs:List Expr}{pos:Pos}{P:List (D×V)}{O:Av}{L:List (Option Nat×Addr)}{ρ ρ2 ρe:Ev}{w:W}{ys:List D}{fi:FI}{gf:FG}{t:FT}{fe:FX}{li:Option (Nat×Nat)}
theorem a96 (h:liJ li js=true)(hb:liB li ρ=true):LiOk li js ρ:=by
 cases li with
 | none=>exact⟨nofun,nofun,nofun⟩
 | some p=>
  obtain⟨i,j⟩:=p;simp only[liJ,jQ,beq_iff_eq,yI,xB,Bool.or_eq_true,bne_iff_ne] at h;simp only[liB,isSome_iff_exists] at hb;refine⟨fun i' j' e=>by cases e;exact hb,fun i' j' e=>by cases e;exact h.1,fun i' j' k e ek=>?_⟩
  cases e;rcases h.2 k (zQ.mp ek).1 with z|z
  ·exact absurd ek z
  ·exact z
theorem a7u {j:Nat}:W.r j∈capR js↔some j∈js:=by
 unfold capR;rw[yQ];constructor
 ·rintro⟨o,h1,h2⟩;cases o with
  | none=>cases h2
  | some k=>cases h2;exact h1
 ·exact fun h=>⟨some j,h,rfl⟩
theorem a4m (r:Rep X P O L ρ σ H2)(hl:LiOk li js ρ)(hn:H2 Dd=none)(rp:Rep (blk X scope cl s2 H2 fp C (N++[accN])) P (fun b=>AvO O ρ σ b/\¬Capd ρ σ js b) ((some js.length,Dd)::lentL li σ) ρe σe He)
  {d0:D} (ey:ownAt ρe js.length=some d0) (e:backG li js ρe ρ d0=some (w,ρ2)):∃Hx,Rep X P O L ρ2 σ Hx/\Same Hx He/\DenW X.K (AvO O ρ2 σ) σ Hx He w (.ref Dd):=by
 obtain⟨c0,q0,ob⟩:=rp.lents js.length Dd zJ;rw[ey] at q0;cases q0;cases li with
 | none=>
  have sm:Same H2 He:=fun b o eb=>rp.same b o eb fun i m=>by
   rcases zN.mp m with m|m
   ·cases m;rw[hn] at eb;cases eb
   ·cases m
  unfold backG at e;simp only at e;split at e
  ·rename_i hf;cases e;exact⟨H2,r,sm,Dd,rfl,hn,a2i (d:=d0) (fun _ _ e _=>e) hf rfl ob⟩
  ·obtain⟨ρ3,e4,e⟩:=oms e;cases e;obtain⟨r2,k2⟩:=Q0 r e4;refine⟨H2,r2,sm,Dd,rfl,hn,w9 (w6 fun b z=>?_) rfl ob⟩;rcases z with z|z
   ·obtain⟨z1,z2⟩:=a0y r k2 z;exact .inl ⟨z1,fun⟨j,w,d,m,q⟩=>z2 ⟨j,w,d,a7u.mpr m,q⟩⟩
   ·exact .inr ⟨js.length,by rw[z];exact zJ⟩
 | some p=>
  obtain⟨i,j⟩:=p;unfold backG at e;simp only at e;split at e
  ·rename_i hf;cases e5:ownAt ρe i with
   | none=>rw[e5] at e;cases e
   | some c=>
    rw[e5] at e;simp only[bind_some] at e;split at e
    ·rename_i hc;cases e;obtain⟨c1,ec1⟩:=hl.own i j rfl;obtain⟨w0,q1,ow⟩:=u7 ec1;obtain⟨a,h1,oba⟩:=r.obj q1 ow;obtain⟨u0,eu0,_⟩:=J0 oba;have na:a≠Dd:=fun z=>by rw[z,hn] at eu0;cases eu0
     have mem:(some i,a)∈lentL (some (i,j)) σ:=G0.mpr ⟨j,rfl,h1⟩;obtain⟨c2,ec2,ob2⟩:=rp.lents i a (zL _ mem);rw[e5] at ec2;cases ec2;obtain⟨ur,eur,mur⟩:=J0 ob;have keep:∀b o,H2 b=some o->b≠a->He b=some o:=fun b o eb nb=>rp.same b o eb fun k m=>by
      rcases zN.mp m with m|m
      ·cases m;rw[hn] at eb;cases eb
      ·cases k with
       | none=>exact a0K m
       | some k=>
        obtain⟨j',e1,e2⟩:=G0.mp m;cases e1;rw[h1] at e2;cases e2;exact nb rfl
     refine⟨fun b=>if b=Dd then none else He b,r.mut ec1 h1 (fun b o eb nb=>?_) (a2i (fun b o eb nm=>?_) hc (if_neg na) ob2),fun b o eb=>?_,Dd,rfl,if_pos rfl,a2i (d:=d0) (fun _ _ e _=>e) hf rfl ob⟩
     ·have:b≠Dd:=fun z=>by rw[z,hn] at eb;cases eb
      show(if b=Dd then none else He b)=some o;rw[if_neg this];exact keep b o eb nb
     ·have:b≠Dd:=fun z=>by rw[z,eur] at eb;cases eb;exact nm mur
      show(if b=Dd then none else He b)=some o;rw[if_neg this];exact eb
     ·dsimp only at eb;split at eb
      ·cases eb
      ·exact eb
    ·cases e
  ·cases e
theorem a6N {Q:VK}{Qq:Value->Shared->Prop}{use:Option (Value->Sem Unit)}{H:Hp}{s:Shared}{newPos:Pos}(hc:X.calm=true)(b:Blk X scope cl N js)(hj:liJ li js=true)(hi:QIB X li tg iter fi)
  (hg:∀s2 H2 fp C,QG (blk X scope cl s2 H2 fp C (N++[accN])) tg gf) (ht:∀s2 H2 fp C,Tst (blk X scope cl s2 H2 fp C (N++[accN])) ifs t) (he:∀s2 H2 fp C,QX (blk X scope cl s2 H2 fp C (N++[accN])) elt fe) (hs:∀x,foldedSetIterable iter X.env x=pure x)
  (I:Inv X pins σ H s) (h:tX X (fComp fi li js gf t fe) σ H Q)
  (fin:∀(C:Addr) (v:V) (He:Hp) (s1:Shared),Q v He->(∀h9:Heap,(∀y,y≠C->h9.get? y=s1.heap.get? y)->Inv X pins σ He {s1 with heap:=h9})->FpOk X pins He C->(∃m,s1.heap.Ns C m)->∀vv,RelV v vv->compPost (model X.prog X.w) X.A X.xe use Qq vv C (.ok .next) s1):
  wpAny (model X.prog X.w) X.A (comprehension (.ListComp elt [⟨tg,iter,ifs,0⟩] scope pos) scope X.env newPos (newList []) false (eval iter X.env) use) Qq X.xe s:=by
 obtain⟨P,O,L,ρ,w,ρ',r,e,q⟩:=h;unfold fComp at e;obtain⟨⟨xs,ρ1⟩,e1,e⟩:=obs e;dsimp only at e;split at e
 ·rename_i hb;cases e2:loopC (turnC js.length gf t fe) xs (capE (li.map (·.2)) js ρ1++[some (.l (.lst []))]) with
  | none=>rw[e2] at e;cases e
  | some ρe=>
   rw[e2] at e;simp only[bind_some] at e;split at e
   ·rename_i ys ey;have hl:=a96 hj hb;refine wpAny_comprehension_free rfl hs b.clos b.kind b.nms ?_;refine zR (hi.to pins s σ H _ I ⟨P,O,L,ρ,xs,ρ1,r,e1,fun J H1 P' r1 hh wk=>(⟨P',r1,hh,wk⟩:∃P',Rep X P' O L ρ1 σ H1/\Holds P' P/\WksB li X.K P' O ρ1 σ H1 xs J)⟩) (fun v s1 h1=>zR h1 (fun itv s2 h2=>?_) fun _ _ z=>z) fun _ _ z=>z;obtain⟨it,fp,tn,J,H2,rfl,I2,T,st2,f2,P',r1,hh,wk⟩:=h2;refine a6v hc I2 T st2 f2 b r1 hl wk (hg s2 H2 fp) (ht s2 H2 fp) (he s2 H2 fp) e2 fun Dd C σe He s3 hn leC I1 rp=>?_;obtain⟨Hx,rx,sx,dx⟩:=a4m r1 hl hn rp ey e;obtain⟨m,hm,_⟩:=id I1.loc;refine fin C (.ref Dd) He s3 (q _ Hx He (rx.holds hh) sx dx) (fun h9 k9=>a8v I2 f2 leC I1 k9) ?_ ⟨m,hm⟩ (.ref Dd) rfl;exact I2.fpOk leC I1.free
   ·cases e
 ·cases e
theorem B5 (hc:X.calm=true)(b:Blk X scope cl N js)(hi:QIB X li tg iter fi)(hg:∀s2 H2 fp C,QG (blk X scope cl s2 H2 fp C (N++[accN])) tg gf)(ht:∀s2 H2 fp C,Tst (blk X scope cl s2 H2 fp C (N++[accN])) ifs t)(he:∀s2 H2 fp C,QX (blk X scope cl s2 H2 fp C (N++[accN])) elt fe)
  (hj:liJ li js=true:=by rfl) (hs:∀x,foldedSetIterable iter X.env x=pure x:=by intro _;rfl):QX X (.ListComp elt [⟨tg,iter,ifs,0⟩] scope pos) (fComp fi li js gf t fe):=⟨fun pins s σ H Q I h=>by
 rw[eval_ListComp];refine a6N (use:=none) hc b hj hi hg ht he hs I h fun C v He s1 hq back fp ⟨m,hm⟩ vv rv=>?_
 exact⟨m,hm,fun h9 k9=>⟨v,He,back h9 fun y ny=>k9.2 y ny,rv,hq⟩⟩⟩
end
theorem a5W {prog:Program}{w:World}{A:Around}(hh:A.handled=none){l I:Addr}{its:Array Value}(ne:l≠I):
  Walks prog w A I [I,l] [I] its.size (fun i v=>its[i]? =some v) (fun i h=>h.IsListIter I l i/\h.IsList l its) where
 sub:=fun b hb=>by rw[zS.mp hb];exact zJ
 frame:=fun i h h' ⟨⟨o,e,r⟩,⟨o2,e2,r2⟩⟩ k=>⟨⟨o,k I zJ o e,r⟩,⟨o2,k l (zL _ zJ) o2 e2,r2⟩⟩
 item:=fun i s Q E hi ⟨h1,h2⟩ q=>wpAny_pyNext_list_item h1 h2 (x:=its[i]) (by simp[hi]) fun h' hit hs=>q its[i] h' s.toks (by simp[hi]) ⟨hit,h2.extBut hs.extBut ne⟩ fun b o hb e=>hs.extBut b o (fun z=>hb (by rw[z];exact zS.mpr rfl)) e
 done:=fun s Q E ⟨h1,h2⟩ q=>wpAny_pyNext_list_end hh h1 h2 (by simp) fun h' hx=>q h' s.toks fun b o hb e=>hx b o (fun z=>hb (by rw[z];exact zS.mpr rfl)) e
 self:=fun i s Q E ⟨h1,_⟩ q=>wpAny_pyIter_listiter h1 q
theorem a6M {bs:List Bool}{its:List Value}(r:Vals (bs.map V.bl) its){i:Nat}{v:Value}(e:its.toArray[i]? =some v):v= .bool (bs.getD i false):=by
 rw[List.getElem?_toArray] at e
 induction bs generalizing its i with
 | nil=>cases r;simp at e
 | cons b bs ih=>
  cases r with
  | cons r1 r2=>
   cases i with
   | zero=>simp at e;subst e;exact r1
   | succ i=>exact ih r2 (by simpa using e)
theorem a6a (bs:List Bool)(n:Nat)(hn:n=bs.length):(List.range n).all (fun i=>bs.getD i false)=bs.all id:=by
 subst hn;apply Bool.eq_iff_iff.mpr;simp only[yI,xB,id];constructor
 ·intro h x hx;obtain⟨i,hi,e⟩:=mem_iff_getElem.mp hx
  have:=h i hi
  rw[qL,qT hi] at this;simpa [e] using this
 ·intro h i hi;rw[qL,qT hi];exact h _ (List.getElem_mem hi)
section
variable {X:Cx}
theorem Z1 (hc:X.calm=true):CallR X (.builtin "all") (fun xs H Q=>∃(p:Addr) (bs:List Bool),xs=[.ref p]/\SqL X.K H p (bs.map V.bl)/\Q (.bl (bs.all id)) H):=by
 intro pins s σ H xs us Q I r h;obtain⟨p,bs,rfl,hq,q⟩:=h;obtain⟨u,rfl,ru⟩:=vals1 r;cases ru;obtain⟨its,rv,⟨o,m,h1,h2,_,h4⟩,hz⟩:=I.list hq;have hl:s.heap.IsList p its.toArray:=⟨o,h1,h2,m,h4⟩;have ne:p≠s.heap.objs.size:=zG (zO h1);refine call_all_walk (vC hl ⟨s.heap.objs.size,_,_,_,_,_,fun i=>bs.getD i false,rfl,a5W (show X.A.in1.handled=none from I.ok.hd hc) ne,⟨⟨_,zK _ rfl,rfl,rfl⟩,hl.push _⟩,fun i v s' Q' E' hv hq'=>?_,fun h' tk hk=>?_⟩)
 ·rw[a6M rv hv];exact vB hq'
 ·have I1:Inv X pins σ H {s with heap:=h',toks:=tk}:=I.kept (t':=tk) fun b ob e=>hk b ob (fun z=>absurd (zO e) (by rw[zS.mp z];exact jE _)) (zD _ e)
  refine⟨.bl _,H,I1,?_,q⟩;show Value.bool _=Value.bool _;rw[a6a bs _ (by rw[qI,<-rv.length,zH])]
end
section
variable {h:FX}
theorem a2T (i:Int):∀ns:List Int,inV (.int i) (ns.map V.int)=decide (i∈ns)
 | []=>rfl
 | n::ns=>by
  have ih:=a2T i ns;unfold inV at ih ⊢;rw[zI,any_cons,ih];show((n==i)||_)=_
  by_cases h:n=i
  ·simp[h]
  ·have h':¬i=n:=fun z=>h z.symm;simp[h,h']
theorem a1T:∀ns:List Int,(ns.map V.int).all flatV=true
 | []=>rfl
 | n::ns=>by rw[zI,all_cons,a1T ns];rfl
end
def sortI (ns:List Int):List Int:=ns.mergeSort fun a b=>decide (a<=b)
theorem S3 (ns:List Int):(sortI ns).Perm ns:=List.mergeSort_perm ns _
theorem T8 (ns:List Int):(sortI ns).Pairwise (·<=·):=by
 have z:=List.pairwise_mergeSort (le:=fun a b:Int=>decide (a<=b)) (fun a b c h1 h2=>by
  simp only[decide_eq_true_eq] at *;walk_at "o") (fun a b=>by
  simp only[Bool.or_eq_true,decide_eq_true_eq];walk_at "o") ns
 exact z.imp fun h=>by simpa using h
theorem G7:∀{its:List Value} {ns:List Int},IntsAre its ns->Vals (ns.map V.int) its
 | _,_,.nil=>.nil
 | _,_,.cons a t r=>.cons ⟨t,rfl⟩ (G7 r)
section
variable {X:Cx}{e:Expr}{p:Pos}
theorem a2x:CallR X (.builtin "sorted") (fun xs H Q=>∃(p:Addr) (ns:List Int),xs=[.ref p]/\SqL X.K H p (ns.map V.int)/\ns.length<64/\∀l,H l=none->Q (.ref l) (upd H l (.lst ((sortI ns).map V.int)))):=by
 intro pins s σ H xs us Q I r h;obtain⟨p,ns,rfl,hq,h64,q⟩:=h;obtain⟨u,rfl,ru⟩:=vals1 r;cases ru;refine yF kind_sorted plain_sorted entry_sorted (args_sorted1 _) ?_;unfold Builtin.«sorted»;refine zA (m:=checkCount "sorted" 1 1 _) (zC ?_);obtain⟨its,rv,⟨o,m,h1,h2,_,h4⟩,hz⟩:=I.list hq;have len:its.length=ns.length:=by rw[<-rv.length,zH]
 have hL:s.heap.IsList p its.toArray:=⟨o,h1,h2,m,h4⟩;have sz:its.length<=sizeLine:=by rw[len,qR];walk_at "o"
 refine zA (collect_list hL ?_ sz);refine zA (wpAny_newList ?_ sz);have I1:Inv X pins σ H {s with heap:=(s.heap.push (seqObj "list" #[] 0)).update s.heap.objs.size (PySem.Obj.mapSeq (· ++ its.toArray))}:=I.kept (t':=s.toks) fun b o e=>by
  rw[xR _ _ _ _ (zG (zO e))];exact zD _ e
 generalize hG:(s.heap.push (seqObj "list" #[] 0)).update s.heap.objs.size (PySem.Obj.mapSeq (· ++ its.toArray))=G at I1 ⊢;have ho:(G.push (seqObj "list" its.toArray 0)).get? G.objs.size=some (seqObj "list" its.toArray 0):=zK _ rfl;refine zA (qE ?_);refine qA PyProof.Rows.slot_list_sort ⟨_,ho,rfl⟩ PyProof.Rows.entry_list_sort (list_sort_tree (n:=0) (vs:=its) ho (J3 rv) (by walk_at "o") fun out ns' hI hp hP=>⟨.none,rfl,?_⟩) (PyProof.Rows.args_list_sort _)
 have es:ns'=sortI ns:=PySem.W.lks_uniq (hp.trans (S3 ns).symm) hP (T8 ns);subst es;have g1:=yU ho (fun _=> #[]);have g2:=yU (zD (seqObj "list" #[] 0) (zD (seqObj "tuple" its.toArray 0) g1)) (fun _=>out);have kept:∀b o,G.get? b=some o->(sortedHeap (G.push (seqObj "list" its.toArray 0)) G.objs.size its out).get? b=some o:=fun b o e=>by
  have ne:b≠G.objs.size:=zG (zO e);unfold sortedHeap;rw[xR _ _ _ _ ne];refine zD _ (zD _ ?_);rw[xR _ _ _ _ ne];exact zD _ e
 refine zC ⟨_,rfl,.ref G.objs.size,_,I1.laid (t':=s.toks) (o:=.lst ((sortI ns).map V.int)) kept (zE _) ?_,rfl,q _ (I1.hok.fresh (zE _))⟩;obtain⟨ep,g3⟩:∃ep,(sortedHeap (G.push (seqObj "list" its.toArray 0)) G.objs.size its out).get? G.objs.size=some (seqObj "list" out.toList.toArray ep):=⟨_,by rw[Array.toArray_toList];exact g2⟩
 exact⟨by rw[zH,(S3 ns).length_eq,qR];walk_at "o",out.toList,_,G7 hI,g3⟩
end
section
variable {prog:Program}{w:World}{A:Around}{E:Value->Shared->Prop}{s:Shared}
theorem a4e {t sl:Addr}{items:Array Value}{vl vu:Value}{lo hi:Option Int}{Q:Value->Shared->Prop}(ht:IsTup s.heap t items)(hs:s.heap.IsSliceOf sl vl vu .none)(pl:IsPart vl lo)(pu:IsPart vu hi)
  (hw:HT.sIx items.size 0 lo=0/\HT.sIx items.size items.size hi=items.size) (h:Q (.ref t) s):wpAny (model prog w) A (getItem (.ref t) (.ref sl)) Q E s:=by
 obtain⟨os,hos,hcs,hds⟩:=id hs;have hTs:s.TypeIs (.ref sl) "slice":=⟨os,hos,hcs⟩;unfold getItem
 try with_reducible refine qE ?_
 first|refine zA (zC ?_)|skip
 refine zA (wpAny_sequenceKey ht.typeIs (by decide) ?_)
 refine zA (qJ (name:=Str.ofString "__getitem__") ht.typeIs qX
  (qA qX ht.typeIs entry_tuple_getitem ?_ (args_tuple_getitem _ _)))
 show wpAny _ _ (Builtin.Tuple.tupleItemsOf (.ref t) >>=_) _ _ s;refine zA (tupleItemsOf_ ht ?_);refine zA (wpAny_typeOf hTs ?_);rw[if_pos (by decide)]
 refine zA (HT.sliceApplied_gen hs pl pu ?_);show wpAny _ _ (if(((HT.sIx items.size 0 lo:Nat):Int)==0&&(1:Int)==1&&(HT.sIx items.size items.size hi-HT.sIx items.size 0 lo)==items.size)=true then _ else _) _ _ s;rw[if_pos (by rw[hw.1,hw.2];simp)]
 unfold Builtin.Tuple.tupleIsExact;refine zA (zA (wpAny_typeOf ht.typeIs (zC ?_)));rw[if_pos (by decide)]
 first
  | exact zA (yC (zC ⟨_,rfl,zC h⟩))
  | exact zA (yC (zA (zC (zC ⟨_,rfl,zC h⟩))))
end
section
variable {X:Cx}{a b c e:Expr}{es:List Expr}{pos p:Pos}{f g h:FX}{t u:FT}{fa:FA}{x:Str}
def rSlF (K:PySem.W.Frag):V->Option Int->Option Int->Hp->VK->Prop:=fun x lo hi H Q=>∃a xs,x= .ref a/\SqT K H a xs/\(HT.sIx xs.length 0 lo=0/\HT.sIx xs.length xs.length hi=xs.length)/\Q (.ref a) H
theorem a9a:SlR X (rSlF X.K):=by
 intro pins s σ H x v vl vu lo hi sl Q I rx hs pl pu h;obtain⟨a,xs,rfl,hx,hw,q⟩:=h;cases rx;obtain⟨its,r,ht,hz⟩:=I.tuple hx;have hlen:its.toArray.size=xs.length:=by rw[qI];exact r.length.symm
 refine⟨"tuple",_,PyProof.Rows.slot_tuple_getitem.lookup,ht.typeIs,?_⟩;exact a4e ht hs pl pu (by rw[hlen];exact hw) ⟨.ref a,H,I,rfl,q⟩
theorem qx_b {id:String}{r:List V->Hp->VK->Prop}{k:List D->Option W}(hc:CallR X (.builtin id) r)(hk:PrA X k r)(hm:X.mg x=none)(ha:QA X (e::es) fa)(hv:bootBuiltins x=some (.builtin id):=by rfl)(hg:Gl X x:=by rfl)(hn:x≠"__name__":=by decide)(hdb:(x==("__debug__":Str))=false:=by decide)
  (he:starEach (e::es) X.env=(false,eval e X.env)::starEach es X.env:=by rfl) (hpl:(backTo pos (starEach es X.env)).any (·.1)=false:=by rfl):QX X (.Call (.Name x p) (e::es) [] pos) (fCall k fa):=a3e hc hk hv hm ha hg hn hdb he hpl
theorem qx_t {T:String}{r:List V->Hp->VK->Prop}{k:List D->Option W}(hc:CallR X (.type T) r)(hk:PrA X k r)(hm:X.mg x=none)(ha:QA X (e::es) fa)(hv:bootBuiltins x=some (.type T):=by rfl)(hg:Gl X x:=by rfl)(hn:x≠"__name__":=by decide)(hdb:(x==("__debug__":Str))=false:=by decide)
  (he:starEach (e::es) X.env=(false,eval e X.env)::starEach es X.env:=by rfl) (hpl:(backTo pos (starEach es X.env)).any (·.1)=false:=by rfl):QX X (.Call (.Name x p) (e::es) [] pos) (fCall k fa):=a76 hc hk hv hm ha hg hn hdb he hpl
def k1 (g:D->Option W):List D->Option W
 | [d]=>g d
 | _=>none
theorem pr1 {g:D->Option W}{r:List V->Hp->VK->Prop}(h:∀(A:Av) (d:D) (w:W) (v:V) (H:Hp) (Q:VK),g d=some w->DenR X.K A H d v->(∀z H',Same H H'->DenW X.K A [] H H' w z->Q z H')->r [v] H Q):PrA X (k1 g) r:=fun A ds w vs H Q _ e l q=>by
 unfold k1 at e;split at e
 ·obtain⟨v,rfl,h1⟩:=denRL1 l;exact h A _ w v H Q e h1 q
 ·cases e
def k2 (g:Int->Int->D):List D->Option W
 | [.int i,.int j]=>some (.v (g i j))
 | _=>none
theorem pr2 {g:Int->Int->Int}{r:List V->Hp->VK->Prop}(h:∀i j (H:Hp) (Q:VK),Q (.int (g i j)) H->r [.int i,.int j] H Q):PrA X (k2 fun i j=>.int (g i j)) r:=fun A ds w vs H Q _ e l q=>by
 unfold k2 at e;split at e
 ·rename_i i j;cases e;obtain⟨v,v',rfl,h1,h2⟩:=denRL2 l;rw[j9 h1,j9 h2];exact h i j H Q (q _ H (Same.refl H) D3)
 ·cases e
def gLen (d:D):Option W:=(items d).map fun xs=>.v (.int xs.length)
theorem a6Q:PrA X (k1 gLen) (fun xs H Q=>∃p ys,xs=[.ref p]/\(SqL X.K H p ys\/SqT X.K H p ys)/\Q (.int ys.length) H):=pr1 fun A d w v H Q e h q=>by
 unfold gLen at e;obtain⟨xs,e1,e⟩:=oms e;cases e;obtain⟨a,ws,rfl,hq,lw⟩:=P3 e1 h;exact⟨a,ws,rfl,hq,by rw[<-c6 lw];exact q _ H (Same.refl H) D3⟩
def gAbs:D->Option W
 | .int i=>some (.v (.int (if i<0 then -i else i)))
 | _=>none
abbrev gMax:=k2 fun i j=>.int (if j>i then j else i)
abbrev gMin:=k2 fun i j=>.int (if j<i then j else i)
theorem a7R:PrA X gMax (fun xs H Q=>∃i j,xs=[.int i,.int j]/\Q (.int (if j>i then j else i)) H):=pr2 fun i j H Q q=>⟨i,j,rfl,q⟩
theorem a2j:PrA X gMin (fun xs H Q=>∃i j,xs=[.int i,.int j]/\Q (.int (if j<i then j else i)) H):=pr2 fun i j H Q q=>⟨i,j,rfl,q⟩
def gInt:D->Option W
 | .bl b=>some (.v (.int (if b then 1 else 0)))
 | _=>none
def gTuple (d:D):Option W:=(items d).map fun xs=>.v (.tup xs)
theorem K4:PrA X (k1 gTuple) (fun xs H Q=>∃p ys,xs=[.ref p]/\((SqL X.K H p ys/\∀l,H l=none->Q (.ref l) (upd H l (.tup ys)))\/(SqT X.K H p ys/\Q (.ref p) H))):=pr1 fun A d w v H Q e h q=>by
 cases d<;>simp only[gTuple,items,Option.map_none] at e<;>first|cases e|skip
 ·rename_i xs;obtain⟨a,vs,rfl,hq,l⟩:=A3 h;exact⟨a,vs,rfl,.inr ⟨hq,q _ H (Same.refl H) h⟩⟩
 ·rename_i xs;obtain⟨a,vs,rfl,hq,l⟩:=h;exact⟨a,vs,rfl,.inl ⟨hq,fun l' hl=>q _ _ (i0 hl _) (T4 hl l)⟩⟩
def gList (d:D):Option W:=(items d).map fun xs=>.o (.lst xs)
def intsOf:List D->Option (List Int)
 | []=>some []
 | .int i::ds=>(intsOf ds).map fun is=>i::is
 | _=>none
theorem v6:∀{ds:List D} {is:List Int},intsOf ds=some is->ds=is.map D.int
 | [],is,e=>by cases e;rfl
 | .int i::ds,is,e=>by
  rw[intsOf] at e;cases e1:intsOf ds with
  | none=>rw[e1] at e;cases e
  | some js=>rw[e1] at e;cases e;rw[zI,<-v6 e1]
 | .non::ds,is,e=>by cases e
 | .bl _::ds,is,e=>by cases e
 | .str _::ds,is,e=>by cases e
 | .tup _::ds,is,e=>by cases e
 | .lst _::ds,is,e=>by cases e
 | .dT _ _::ds,is,e=>by cases e
 | .dK _ _::ds,is,e=>by cases e
 | .exn _::ds,is,e=>by cases e
 | .fn _::ds,is,e=>by cases e
theorem m6:∀is:List Int,intsOf (is.map D.int)=some is
 | []=>rfl
 | i::is=>by rw[zI,intsOf,m6 is];rfl
theorem q9 {K:PySem.W.Frag}{A:Av}{H:Hp}:∀{is:List Int} {vs:List V},DenL K A H (is.map D.int) vs->vs=is.map V.int
 | [],vs,l=>by rw[xN,DenL] at l;exact l
 | i::is,vs,l=>by
  rw[zI,DenL] at l;obtain⟨v,r,rfl,h,l⟩:=l;rw[D9.mp h,q9 l];rfl
theorem C0 {K:PySem.W.Frag}{A:Av}{H:Hp}:∀ns:List Int,DenL K A H (ns.map D.int) (ns.map V.int)
 | []=>by rw[xN,xN];exact j7
 | n::ns=>by rw[zI,zI];exact j6 (by rw[Den]) (C0 ns)
def boolsOf:List D->Option (List Bool)
 | []=>some []
 | .bl i::ds=>(boolsOf ds).map fun is=>i::is
 | _=>none
theorem a0I:∀{ds:List D} {is:List Bool},boolsOf ds=some is->ds=is.map D.bl
 | [],is,e=>by cases e;rfl
 | .bl i::ds,is,e=>by
  rw[boolsOf] at e;cases e1:boolsOf ds with
  | none=>rw[e1] at e;cases e
  | some js=>rw[e1] at e;cases e;rw[zI,<-a0I e1]
 | .non::ds,is,e=>by cases e
 | .int _::ds,is,e=>by cases e
 | .str _::ds,is,e=>by cases e
 | .tup _::ds,is,e=>by cases e
 | .lst _::ds,is,e=>by cases e
 | .dT _ _::ds,is,e=>by cases e
 | .dK _ _::ds,is,e=>by cases e
 | .exn _::ds,is,e=>by cases e
 | .fn _::ds,is,e=>by cases e
theorem a0a:∀is:List Bool,boolsOf (is.map D.bl)=some is
 | []=>rfl
 | i::is=>by rw[zI,boolsOf,a0a is];rfl
theorem Q3 {K:PySem.W.Frag}{A:Av}{H:Hp}:∀{is:List Bool} {vs:List V},DenL K A H (is.map D.bl) vs->vs=is.map V.bl
 | [],vs,l=>by rw[xN,DenL] at l;exact l
 | i::is,vs,l=>by
  rw[zI,DenL] at l;obtain⟨v,r,rfl,h,l⟩:=l;rw[a0t.mp h,Q3 l];rfl
def gBools (r:List Bool->Bool):D->Option W
 | .lst xs=>(boolsOf xs).map fun bs=>.v (.bl (r bs))
 | _=>none
theorem a0L {r:List Bool->Bool}:PrA X (k1 (gBools r)) (fun xs H Q=>∃(p:Addr) (bs:List Bool),xs=[.ref p]/\SqL X.K H p (bs.map V.bl)/\Q (.bl (r bs)) H):=pr1 fun A d w v H Q e h q=>by
 cases d with
 | lst xs=>
  simp only[gBools] at e;obtain⟨bs,e1,e⟩:=oms e;cases e;obtain⟨a,vs,rfl,hq,l⟩:=h;rw[a0I e1] at l;rw[Q3 l] at hq;exact⟨a,bs,rfl,hq,q _ H (Same.refl H) t5⟩
 | _=>cases e
def gSortI:D->Option W
 | .lst xs=>(intsOf xs).bind fun ns=>if ns.length<64 then some (.o (.lst ((sortI ns).map D.int))) else none
 | _=>none
theorem a6C:PrA X (k1 gSortI) (fun xs H Q=>∃(p:Addr) (ns:List Int),xs=[.ref p]/\SqL X.K H p (ns.map V.int)/\ns.length<64/\∀l,H l=none->Q (.ref l) (upd H l (.lst ((sortI ns).map V.int)))):=pr1 fun A d w v H Q e h q=>by
 cases d with
 | lst xs=>
  simp only[gSortI] at e;cases e1:intsOf xs with
  | none=>rw[e1] at e;cases e
  | some bs=>
   rw[e1] at e;simp only[bind_some] at e;split at e
   ·rename_i hl;cases e;obtain⟨a,vs,rfl,hq,l⟩:=h;rw[v6 e1] at l;rw[q9 l] at hq;exact⟨a,bs,rfl,hq,hl,fun l hl=>q _ _ (i0 hl _) (G4 hl (C0 _))⟩
   ·cases e
 | _=>cases e
def GlI (mg:Str->Option Value) (x:Str) (i:Int):Prop:=∃t,mg x=some (.int i t)
theorem a2S {i:Int}(hm:GlI X.mg x i)(hg:Gl X x:=by rfl)(hd:(x==("__debug__":Str))=false:=by decide):QX X (.Name x pos) (fC (.int i)):=by
 obtain⟨t,hm⟩:=hm;exact⟨PE.weak (a2v (v:=.int i) hg hm ⟨t,rfl⟩ hd) (a3o fun A H=>by rw[Den])⟩
def oLtT:D->D->Option W
 | .int i,.int j=>some (.v (.bl (decide (i<j))))
 | .tup xs,.tup ys=>(intsOf xs).bind fun ns=>(intsOf ys).map fun ms=>.v (.bl (HT.lexLt ns ms))
 | _,_=>none
theorem kLtT:Pr2 X oLtT (fun v u H Q=>rI0 (fun i j=>.bl (decide (i<j))) v u H Q\/rLtT X.K v u H Q):=by
 intro A x y w v u H Q _ e hx hy q;unfold oLtT at e;split at e
 ·cases e;exact .inl ⟨_,_,j9 hx,j9 hy,q _ H (Same.refl H) t5⟩
 ·rename_i xs ys;cases e1:intsOf xs with
  | none=>rw[e1] at e;cases e
  | some ns=>
   cases e2:intsOf ys with
   | none=>rw[e1,e2] at e;cases e
   | some ms=>
    rw[e1,e2] at e;cases e;obtain⟨a,vs,rfl,h1,l1⟩:=A3 hx;obtain⟨b,us,rfl,h2,l2⟩:=A3 hy;rw[v6 e1] at l1;rw[v6 e2] at l2;rw[q9 l1] at h1;rw[q9 l2] at h2;exact .inr ⟨a,b,ns,ms,rfl,rfl,h1,h2,q _ H (Same.refl H) t5⟩
 ·cases e
theorem a7y {k:Nat}(hr:Room k X.A)(ha:QX X a f)(hb:QX X b g):QX X (.Compare a [.Lt] [b] pos) (fBin oLtT f g):=a7l (a8C.or (a8r (by have:=hr.units;walk_at "o"))) kLtT ha hb
theorem b1H {k:Nat}(hr:Room k X.A)(ha:QX X a f)(hb:QX X b g):QT X (.Compare a [.Lt] [b] pos) (fTest (fBin oLtT f g)):=R6 (a8C.or (a8r (by have:=hr.units;walk_at "o"))) kLtT ha hb
def oInI (neg:Bool) (x y:D):Option W:=match x with
 | .int i=>(items y).bind fun ys=>(intsOf ys).map fun ns=>.v (.bl (if neg then !decide (i∈ns) else decide (i∈ns)))
 | _=>none
theorem kInI {neg:Bool}:Pr2 X (oInI neg) (rIn X.K neg):=by
 intro A x y w v u H Q _ e hx hy q;cases x with
 | int i=>
  simp only[oInI] at e;cases e1:items y with
  | none=>rw[e1] at e;cases e
  | some ys=>
   rw[e1] at e;simp only[bind_some] at e;obtain⟨ns,e2,e⟩:=oms e;cases e;obtain⟨p,vs,rfl,hq,l⟩:=P3 e1 hy;rw[v6 e2] at l;rw[q9 l] at hq;rw[j9 hx];exact⟨p,ns.map V.int,rfl,hq,rfl,a1T ns,by rw[a2T];exact q _ H (Same.refl H) t5⟩
 | _=>cases e
def fChain (o o':D->D->Option W) (f g h:FX):FX:=fun ρ=>(f ρ).bind fun p=>(g p.2).bind fun q=>(dr q.2 p.1.fz).bind fun x=>(dr q.2 q.1.fz).bind fun y=>(o x y).bind fun d=>match d with
 | .v (.bl k)=>if k=true then(h q.2).bind fun z=>(dr z.2 q.1.fz).bind fun y=>(dr z.2 z.1.fz).bind fun z'=>(o' y z').map fun w=>(w,z.2) else some (.v (.bl false),q.2)
 | _=>none
theorem a0O {r r':R2}{o o':D->D->Option W}(k:Pr2 X o r)(k':Pr2 X o' r'):∀σ H Q,tX X (fChain o o' f g h) σ H Q->tChain r r' (tX X f) (tX X g) (tX X h) σ H Q:=fun σ H Q h0=>tXe h0 fun P O L ρ w ρ' r e q=>by
 unfold fChain at e;obtain⟨⟨w1,ρ1⟩,e1,e⟩:=obs e;dsimp only at e;refine⟨P,O,L,ρ,w1,ρ1,r,e1,fun v H1 H1' r1 s1 d1=>?_⟩;obtain⟨P',r1',k1⟩:=hold (r1.grow s1) (d1.fz r1 s1);obtain⟨⟨w2,ρ2⟩,e2,e⟩:=obs e;dsimp only at e;refine⟨P',O,L,ρ1,w2,ρ2,r1',e2,fun u H2 H2' r2 s2 d2=>?_⟩;have d2':=d2.fz r2 s2;obtain⟨r3,d1'⟩:=k1 ρ2 H2' (r2.grow s2);cases e3:dr ρ2 w1.fz with
 | none=>rw[e3] at e;cases e
 | some x=>
  cases e4:dr ρ2 w2.fz with
  | none=>rw[e3,e4] at e;cases e
  | some y=>
   rw[e3,e4] at e;simp only[bind_some] at e;cases e5:o x y with
   | none=>rw[e5] at e;cases e
   | some d0=>
    rw[e5] at e;simp only[bind_some] at e;refine k _ x y d0 v u H2' _ (fun b z=>r3.there z) e5 (C6 r3 e3 d1') (C6 r3 e4 d2') fun z H3 s3 d3=>?_;split at e
    ·rename_i b;refine⟨b,S0 d3,?_⟩;have r4:=r3.grow s3;cases b with
     | true=>
      rw[if_pos rfl] at e ⊢;obtain⟨P'',r4',k4⟩:=hold r4 (d2'.same s3);obtain⟨⟨w3,ρ3⟩,e6,e⟩:=obs e;dsimp only at e;refine⟨P'',O,L,ρ2,w3,ρ3,r4',e6,fun u3 H5 H5' r5 s5 d5=>?_⟩;obtain⟨r6,d6⟩:=k4 ρ3 H5' (r5.grow s5);cases e7:dr ρ3 w2.fz with
      | none=>rw[e7] at e;cases e
      | some y'=>
       cases e8:dr ρ3 w3.fz with
       | none=>rw[e7,e8] at e;cases e
       | some z'=>
        rw[e7,e8] at e;simp only[bind_some] at e;cases e9:o' y' z' with
        | none=>rw[e9] at e;cases e
        | some w'=>
         rw[e9] at e;cases e;exact k' _ y' z' w u u3 H5' Q (fun b z=>r6.there z) e9 (C6 r6 e7 d6) (C6 r6 e8 (d5.fz r5 s5)) fun z H' s d=>q z H5' H' r6 s d.st
     | false=>
      rw[if_neg zT] at e ⊢;cases e;exact q _ H3 H3 r4 (Same.refl _) t5
    ·cases e
theorem a9e (ha:QX X a f)(hb:QX X b g)(hc:QX X c h)(hm:lastMarks [.LtE,.Lt] [b,c]=false:=by with_unfolding_all rfl):QX X (.Compare a [.LtE,.Lt] [b,c] pos) (fChain oLe oLt f g h):=⟨PE.weak (a20 a7U a8C ha.to hb.to hc.to hm) (a0O kB0 kB0)⟩
theorem a4N (ha:QX X a f)(hb:QX X b g)(hc:QX X c h)(hm:lastMarks [.LtE,.LtE] [b,c]=false:=by with_unfolding_all rfl):QX X (.Compare a [.LtE,.LtE] [b,c] pos) (fChain oLe oLe f g h):=⟨PE.weak (a20 a7U a7U ha.to hb.to hc.to hm) (a0O kB0 kB0)⟩
abbrev FO:=Ev->Option (Option Int×Ev)
def tO (X:Cx) (f:FO):TO:=fun σ H Q=>∃P O L ρ o ρ',Rep X P O L ρ σ H/\f ρ=some (o,ρ')/\∀H',Rep X P O L ρ' σ H'->Q o H'
theorem tOe {X:Cx}{f:FO}{σ:L2.St}{H:Hp}{Q:Option Int->Hp->Prop}{C:Prop}(h:tO X f σ H Q)(k:∀P O L ρ o ρ',Rep X P O L ρ σ H->f ρ=some (o,ρ')->(∀H',Rep X P O L ρ' σ H'->Q o H')->C):C:=by
 obtain⟨P,O,L,ρ,w,ρ',r,e,q⟩:=h;exact k P O L ρ w ρ' r e q
structure QO (X:Cx) (e:Option Expr) (f:FO):Prop where
 to:PO X e (tO X f)
theorem PO.weak {X:Cx}{e:Option Expr}{t u:TO}(h:PO X e t)(w:∀σ H Q,u σ H Q->t σ H Q):PO X e u:=fun pins s σ H Q I q=>h pins s σ H Q I (w σ H Q q)
def fO0:FO:=fun ρ=>some (none,ρ)
def fO1 (f:FX):FO:=fun ρ=>(f ρ).bind fun p=>match p.1 with|.v (.int i)=>some (some i,p.2)|_=>none
theorem O8:QO X none fO0:=⟨PO.weak a83 fun σ H Q h0=>tOe h0 fun P O L ρ o ρ' r e q=>by cases e;exact q H r⟩
theorem P2 (ha:QX X e f):QO X (some e) (fO1 f):=⟨PO.weak (a9R ha.to) fun σ H Q h0=>tOe h0 fun P O L ρ o ρ' r e q=>by
 unfold fO1 at e;obtain⟨⟨w,ρ1⟩,e1,e⟩:=obs e;dsimp only at e;split at e
 ·rename_i i;cases e;refine⟨P,O,L,ρ,_,_,r,e1,fun v H1 H' r1 s1 d1=>⟨i,?_,q H' (r1.grow s1)⟩⟩;have d1:Den X.K (AvO O ρ' σ) H' (.int i) v:=d1;exact D9.mp d1
 ·cases e⟩
def cutD (xs:List D) (lo hi:Option Int):List D:=(xs.drop (HT.sIx xs.length 0 lo)).take (HT.sIx xs.length xs.length hi-HT.sIx xs.length 0 lo)
theorem a29 {K:PySem.W.Frag}{A:Av}{H:Hp}{xs:List D}{vs:List V}(lo hi:Option Int)(l:DenL K A H xs vs):DenL K A H (cutD xs lo hi) (cutV vs lo hi):=by
 unfold cutD cutV;rw[c6 l];exact a1W _ (a1B _ l)
def slD (x:D) (lo hi:Option Int):Option W:=match x with
 | .tup xs=>some (.v (.tup (cutD xs lo hi)))
 | .lst xs=>some (.o (.lst (cutD xs lo hi)))
 | _=>none
def fSl (f:FX) (lo hi:FO):FX:=fun ρ=>(f ρ).bind fun p=>(lo p.2).bind fun l=>(hi l.2).bind fun u=>(dr u.2 p.1.fz).bind fun x=>(slD x l.1 u.1).map fun w=>(w,u.2)
theorem G1 {lo hi:Option Expr}{fl fu:FO}{p2:Pos}(ha:QX X a f)(hl:QO X lo fl)(hu:QO X hi fu):QX X (.Subscript a (.Slice lo hi none p2) pos) (fSl f fl fu):=⟨PE.weak (a71 ((a9m.or b1o).or a9a) ha.to hl.to hu.to) fun σ H Q h0=>tXe h0 fun P O L ρ w ρ' r e q=>by
 unfold fSl at e;obtain⟨⟨w1,ρ1⟩,e1,e⟩:=obs e;dsimp only at e;obtain⟨⟨l,ρ2⟩,e2,e⟩:=obs e;dsimp only at e;obtain⟨⟨u,ρ3⟩,e3,e⟩:=obs e;dsimp only at e;refine⟨P,O,L,ρ,w1,ρ1,r,e1,fun v H1 H1' r1 s1 d1=>?_⟩;obtain⟨P',r1',k1⟩:=hold (r1.grow s1) (d1.fz r1 s1);refine⟨P',O,L,ρ1,l,ρ2,r1',e2,fun H2 r2=>⟨P',O,L,ρ2,u,ρ3,r2,e3,fun H3 r3=>?_⟩⟩;obtain⟨r4,d4⟩:=k1 ρ3 H3 r3;cases e4:dr ρ3 w1.fz with
 | none=>rw[e4] at e;cases e
 | some x=>
  rw[e4] at e;simp only[bind_some] at e;have dx:=C6 r4 e4 d4;cases x with
  | tup xs=>
   cases e;obtain⟨a,vs,ev,hq,la⟩:=A3 dx
   by_cases hn:HT.sIx xs.length 0 l=0/\HT.sIx xs.length xs.length u=xs.length
   ·refine .inr ⟨a,vs,ev,hq,by rw[<-c6 la];exact hn,q _ H3 H3 r4 (Same.refl _) ?_⟩
    have ec:cutD xs l u=xs:=by
     unfold cutD;rw[hn.1,hn.2,drop_zero,Nat.sub_zero,take_length]
    rw[ec,<-ev];exact dx
   ·exact .inl (.inr ⟨a,vs,ev,hq,by rw[<-c6 la];exact hn,fun p hp=>q _ H3 _ r4 (i0 hp _) (T4 hp (a29 l u la))⟩)
  | lst xs=>
   cases e;obtain⟨a,vs,ev,hq,la⟩:=dx;exact .inl (.inl ⟨a,vs,ev,hq,fun p hp=>q _ H3 _ r4 (i0 hp _) (G4 hp (a29 l u la))⟩)
  | _=>cases e⟩
end
section
variable {X:Cx}{a b e o:Expr}{es:List Expr}{pos p apos:Pos}{f h:FX}{fa:FA}{x:Str}
def isLst:Option D->Bool
 | some (.lst _)=>true
 | _=>false
def fMut (op:List D->List D->Option (W×List D)) (f:FX) (fa:FA):FX:=fun ρ=>(f ρ).bind fun p=>match p.1 with
 | .r i=>if isLst (ownAt p.2 i)=true then(fa p.2).bind fun q=>(takeAll q.2 q.1).bind fun z=>match ownAt z.2 i with
  | some (.lst xs)=>(op xs z.1).map fun y=>(y.1,setOwn z.2 i (.lst y.2))
  | _=>none
  else none
 | _=>none
def PrM (X:Cx) (op:List D->List D->Option (W×List D)) (r:V->List V->Hp->VK->Prop):Prop:=∀(A:Av) (a:Addr) (xs ds:List D) (w:W) (ys:List D) (us vs:List V) (H:Hp) (Q:VK),H a=some (.lst us)->DenL X.K A H xs us->DenL X.K A H ds vs->op xs ds=some (w,ys)->
 (∀z ws,DenL X.K A H ys ws->DenW X.K A [] H H w z->Q z (upd H a (.lst ws)))->(w= .v .non\/∃d,w= .v d)->r (.ref a) vs H Q
theorem a8E {op:List D->List D->Option (W×List D)}{r:V->List V->Hp->VK->Prop}(hk:PrM X op r)(hw:∀xs ds w ys,op xs ds=some (w,ys)->∃d,w= .v d):∀σ H Q,tX X (fMut op f fa) σ H Q->tBM X.K "list" r (tX X f) (tA X fa) σ H Q:=fun σ H Q h0=>tXe h0 fun P O L ρ w ρ' rp e q=>by
 unfold fMut at e;obtain⟨⟨w1,ρ1⟩,e1,e⟩:=obs e;dsimp only at e;split at e
 ·rename_i i;split at e
  ·rename_i hl;refine⟨P,O,L,ρ,_,ρ1,rp,e1,fun v H1 H1' r1 s1 d1=>?_⟩;have d1:σ[i]? =some (some v):=d1;have r1':=r1.grow s1;refine⟨?_,?_⟩
   ·unfold isLst at hl;split at hl
    ·rename_i xs e2;obtain⟨w0,q0,ow⟩:=u7 e2;obtain⟨a,h1,vs,h2,_⟩:=r1'.obj q0 ow;rw[d1] at h1;cases h1;exact .inl ⟨rfl,vs,.inl (.inl h2)⟩
    ·cases hl
   ·obtain⟨⟨ws,ρ2⟩,e3,e⟩:=obs e;dsimp only at e;obtain⟨⟨ds,ρ3⟩,e4,e⟩:=obs e;dsimp only at e;split at e
    ·rename_i xs e5;obtain⟨⟨wy,ys⟩,e6,e⟩:=oms e;cases e;refine⟨P,O,L,ρ1,ws,ρ2,r1',e3,fun vs H2 r2 l2=>?_⟩;obtain⟨r3,l3,_⟩:=r0 r2 e4 l2;obtain⟨w0,q0,ow⟩:=u7 e5;obtain⟨a,h1,us,h2,l⟩:=r3.obj q0 ow;rw[d1] at h1;cases h1;refine hk _ a xs ds _ ys us vs H2 Q h2 l l3 e6 (fun z wz lz dz=>?_) (.inr (hw _ _ _ _ e6));have g0:Go (AvO O ρ3 σ) (AvO O ρ3 σ) (fun b=>b=a) H2 (upd H2 a (.lst wz)):=⟨fun b o eb nb=>by rw[c9 nb];exact eb,fun b z=>by rw[z];exact⟨.inr ⟨i,w0,_,q0,ow,d1⟩,_,h2,trivial⟩,fun b z=>.inl z⟩
     have r4:Rep X P O L (setOwn ρ3 i (.lst ys)) σ (upd H2 a (.lst wz)):=r3.mut (d:=.lst ys) e5 d1 (fun b o eb nb=>by rw[c9 nb];exact eb) ⟨wz,j3,t8 g0 _ _ lz⟩
     refine q z _ _ r4 (Same.refl _) ?_;obtain⟨d,rfl⟩:=hw _ _ _ _ e6;have av:∀b,AvO O (setOwn ρ3 i (.lst ys)) σ b->AvO O ρ3 σ b:=fun b z=>z.imp id fun z=>(a1y e5 b).mp z;exact p7 (w6 av) _ _ (p7 g0 _ _ dz)
    ·cases e
  ·cases e
 ·cases e
def mApp (xs ds:List D):Option (W×List D):=match ds with
 | [d]=>if xs.length<lim then some (.v .non,xs++[d]) else none
 | _=>none
theorem a5O:PrM X mApp rAppend:=fun A a xs ds w ys us vs H Q h l l' e q _=>by
 unfold mApp at e;split at e
 ·split at e
  ·rename_i d hl;cases e;obtain⟨v,rfl,hv⟩:=denL1 l';exact⟨a,us,v,rfl,rfl,h,by rw[<-c6 l];exact zF hl v7,q _ _ (v4 l (j6 hv j7)) a3w⟩
  ·cases e
 ·cases e
theorem b1r:∀xs ds w ys,mApp xs ds=some (w,ys)->∃d,w= .v d:=fun xs ds w ys e=>by
 unfold mApp at e;split at e
 ·split at e
  ·cases e;exact⟨_,rfl⟩
  ·cases e
 ·cases e
theorem O7 (ho:QX X o f)(ha:QA X (e::es) fa)(hbase:attributeBase o "append" X.env (eval o X.env)=eval o X.env:=by rfl)
  (hfew:((backTo pos (starEach (e::es) X.env)).all (fun x=>!x.1)&&(backToKw pos (keywordEach [] X.env)).all (fun x=>x.1.isSome)&&decide ((e::es).length+([]:List Keyword).length+(if([]:List Keyword).isEmpty then 0 else 1)<30))=true:=by rfl)
  (hline:(apos.endLine==pos.line)=true:=by rfl) (hs:starEach (e::es) X.env=(false,eval e X.env)::starEach es X.env:=by rfl) (hpl:(backTo pos (starEach es X.env)).any (·.1)=false:=by rfl):QX X (.Call (.Attribute o "append" apos) (e::es) [] pos) (fMut mApp f fa):=
 ⟨PE.weak (pe_bm PySem.F.plainAttrs_list PySem.F.slot_list_append PySem.F.type_list_append W2 ho.to ha.to hbase hfew hline hs hpl) (a8E a5O b1r)⟩
end
section
variable {P:Program}{w:World}{K:PySem.W.Frag}{mg:Str->Option Value}{base:Heap}
def spLaw (K:PySem.W.Frag):Sp:=fun vs H Q _=>∃(a:Addr) (ns:List Int),vs=[.ref a]/\((∃o,H a=some (.frz o (.lst (ns.map V.int))))\/SqL K (fun _=>none) a (ns.map V.int))/\ns.length<=63/\∀H',Q (.bl true) H'
theorem b1u {st:Stmt}{f:Addr}{fd:FuncData}{N ps:List Str}{k np n:Nat}{G:FS}(F:Fun K "law" "law" st f fd)(S:FnScope N ps (defScope st))(hp:ps.length=np)(hn:N.length=n)
  (body:∀(cdv:Value) (A:Around) (outer:List Env) (s:Shared) (H:Hp) (E:XK),Room k (A.deeper (envOfC "law" (defScope st) s.heap.objs.size f cdv))->
   QSs (cxOf CX0 P w K mg base N "law" (defScope st) f cdv A outer s H E).nox (defBody st) G)
  (h:∀ns:List Int,ns.length<=63->runD np n G [.lst (ns.map D.int)]=some (.v (.bl true))):FnOk P w K mg base CX0 (k+1) f fd ps (spLaw K):=by
 have den:∀(H:Hp) (a:Addr) (ns:List Int),((∃o,H a=some (.frz o (.lst (ns.map V.int))))\/SqL K (fun _=>none) a (ns.map V.int))->DenL K (fun _=>False) H [.lst (ns.map D.int)] [.ref a]:=fun H a ns hq=>by
  refine j6 ?_ j7;rw[Den];exact⟨a,_,rfl,.inr hq,C0 ns⟩
 refine F.ok S (fun vs H Q E ⟨a,ns,ev,hq,hl,q⟩=>?_) (fun cdv A outer s H vs Q E hr ⟨a,ns,ev,hq,hl,q⟩=>⟨_,(body cdv A outer s H E hr).to,?_⟩)
 ·have e:=h ns hl;unfold runD at e;split at e
  ·rename_i hl';rw[ev,hp,<-hl'];rfl
  ·cases e
 ·have e:=h ns hl;unfold runD at e;split at e
  ·rename_i hl';cases e1:G (start0 n [.lst (ns.map D.int)]) with
   | none=>rw[e1] at e;cases e
   | some r=>
    rw[e1] at e;refine⟨[],fun _=>False,[],_,r,W7 rfl hn (fun b z=>z.elim) (by rw[ev];exact den H a ns hq),e1,?_⟩
    cases r with
    | rt d' ρ'=>cases e;exact fun v H' s' _ d1=>by rw[S0 d1];exact q H'
    | nx ρ'=>cases e
    | bk ρ'=>cases e
    | ct ρ'=>cases e
  ·cases e
theorem walk {l:PySem.W.OpenLaw}{q:Program}{loose:List Str}{XP:(Str->Option Value)->Heap->Prop}{YP:World->Heap->Prop}{d:DefRec}{K:Params->PySem.W.Frag}(hn:l.most=some 63)(hdf:d.params.defaults=[])
  (hY:∀(w:World) (h:Heap),YP w h->(K w.params).In h)
  (F:∀(w:World) (mg:Str->Option Value) (fa:Addr) (h:Heap),(K w.params).In h->h.Ns mainGlobals mg->mg d.name=some (.ref fa)->
   ∃fd:FuncData,(∀(s:Shared) (u:Value),BindsTo s fd ⟨[u],[]⟩ [("script",u)])/\∀base:Heap,(K w.params).In base->base.Ns mainGlobals mg->FnOk l.prog w (K w.params) mg base CX0 60 fa fd ["script"] (spLaw (K w.params))):
  PySem.W.WalkO q loose XP YP l.row.toRowW d [] (fun f vs=>PySem.call f vs):=
 L2.a9V (n:=63) (k:=60) (x:="script") (CX:=fun _=>CX0) (sp:=fun w=>spLaw (K w.params)) hn (by decide) hdf ⟨rfl,by decide,by decide,rfl⟩ hY F (fun _ H a ns hl hO hS=>⟨a,ns,rfl,(by
  rcases hS with (hS|⟨o,hS⟩)|hS
  ·rcases hO a with z|⟨o,ys,z⟩
   ·rw[z] at hS;cases hS
   ·rw[z] at hS;cases hS
  ·exact .inl ⟨o,hS⟩
  ·exact .inr (.inr hS)),hl,fun _=>rfl⟩) fun _ _ _ _ _ z=>z
end
end Z
set_option maxHeartbeats 1000000
set_option exponentiation.threshold 100000
namespace Z
open PySem L2
theorem b0K {d:D}:lfW (.v d)=lf d:=rfl
theorem a97 {d:D}:lfW (.o d)=lfC d:=rfl
theorem a5l {xs:List D}:lfC (.lst xs)=lfL xs:=rfl
theorem lfC_dT {ks:List (List Key)}{xs:List D}:lfC (.dT ks xs)=lfL xs:=rfl
theorem lfC_dK {ks:List Key}{xs:List D}:lfC (.dK ks xs)=lfL xs:=rfl
def freeO:Option W->Bool
 | some (.l _)=>false
 | _=>true
theorem a0P:freeO none=true:=rfl
theorem a5s {d:D}:freeO (some (.v d))=true:=rfl
theorem a5y {d:D}:freeO (some (.o d))=true:=rfl
theorem freeO_l {d:D}:freeO (some (.l d))=false:=rfl
theorem free_nil {n:Nat}:freeSlot [] n=true:=rfl
theorem a64 {x:Option W}{ρ:Ev}:freeSlot (x::ρ) 0=freeO x:=by
 unfold freeSlot freeO;rw[yN];cases x with
 | none=>rfl
 | some w=>cases w<;>rfl
theorem a8q {x:Option W}{ρ:Ev}{n:Nat}:freeSlot (x::ρ) (n+1)=freeSlot ρ n:=by
 unfold freeSlot;rw[xW]
theorem a1u {xs:List D}:isLst (some (.lst xs))=true:=rfl
theorem liB_none {ρ:Ev}:liB none ρ=true:=rfl
theorem liB_some {i j:Nat}{ρ:Ev}:liB (some (i,j)) ρ=(ownAt ρ j).isSome:=rfl
theorem own_nil {n:Nat}:ownAt [] n=none:=rfl
theorem b0l {w:W}{ρ:Ev}:ownAt (some w::ρ) 0=w.own:=rfl
theorem own_n {ρ:Ev}:ownAt (none::ρ) 0=none:=rfl
theorem b0f {x:Option W}{ρ:Ev}{n:Nat}:ownAt (x::ρ) (n+1)=ownAt ρ n:=by
 unfold ownAt;rw[xW]
theorem setO_l {c d:D}{ρ:Ev}:setOwn (some (.l c)::ρ) 0 d=some (.l d)::ρ:=rfl
theorem a7C {c d:D}{ρ:Ev}:setOwn (some (.o c)::ρ) 0 d=some (.o d)::ρ:=rfl
theorem a8U {x:Option W}{ρ:Ev}{n:Nat}{d:D}:setOwn (x::ρ) (n+1) d=x::setOwn ρ n d:=by
 unfold setOwn;rw[xW]
 split<;>rename_i h<;>simp[h]
theorem frz_nil {n:Nat}:frzAt [] n=none:=rfl
theorem frz_o {d:D}{ρ:Ev}:frzAt (some (.o d)::ρ) 0=some (some (.v d)::ρ):=rfl
theorem frz_v {d:D}{ρ:Ev}:frzAt (some (.v d)::ρ) 0=some (some (.v d)::ρ):=rfl
theorem frz_s {x:Option W}{ρ:Ev}{n:Nat}:frzAt (x::ρ) (n+1)=(frzAt ρ n).map fun ρ'=>x::ρ':=by
 unfold frzAt;rw[xW]
 split<;>rename_i h<;>simp[h]
abbrev acc (zs:List D):Ev:=[some (.l (.lst zs))]
theorem a7n {B:Ev}{zs:List D}{k:Nat}(h:B.length=k):ownAt (B++acc zs) k=some (.lst zs):=by
 unfold ownAt;rw[qP (by walk_at "o"),h,xI];rfl
theorem a9C {B:Ev}{zs ys:List D}{k:Nat}(h:B.length=k):setOwn (B++acc zs) k (.lst ys)=B++acc ys:=by
 unfold setOwn;have e:(B++acc zs)[k]? =some (some (.l (.lst zs))):=by rw[qP (by walk_at "o"),h,xI];rfl
 rw[e];simp only;rw[List.set_append_right _ _ (by walk_at "o"),h,xI];rfl
theorem app_v {B:Ev}{zs:List D}{k:Nat}{w:W}{d:D}(h:B.length=k)(hw:w= .v d\/w= .o d)(hl:zs.length<lim):appTo k (w,B++acc zs)=some (B++acc (zs++[d])):=by
 unfold appTo;have e:w.fz= .v d:=by rcases hw with rfl|rfl<;>rfl
 simp only[e,takeAll,jZ,bind_some];rw[a7n h];simp only[if_pos hl,a9C h]
theorem Z2 {k:Nat}{gf:FG}{t:FT}{fe:FX}(I:Ev->Prop)(p:D->Bool)(h:D->D)(hI:∀B,I B->B.length=k):∀(xs:List D),(∀x∈xs,∀B zs,I B->∃B' w,I B'/\gf x (B++acc zs)=some (B'++acc zs)/\t (B'++acc zs)=some (p x,B'++acc zs)/\(p x=true->fe (B'++acc zs)=some (w,B'++acc zs)/\(w= .v (h x)\/w= .o (h x))))->
  ∀(B:Ev) (zs:List D),zs.length+xs.length<=lim->I B->∃B',I B'/\loopC (turnC k gf t fe) xs (B++acc zs)=some (B'++acc (zs++(xs.filter p).map h))
 | [],st,B,zs,hl,i=>⟨B,i,by simp[loopC]⟩
 | x::xs,st,B,zs,hl,i=>by
  obtain⟨B1,w,i1,e1,e2,e3⟩:=st x zJ B zs i;rw[zV] at hl;cases hp:p x with
  | true=>
   obtain⟨e4,hw⟩:=e3 hp;obtain⟨B2,i2,e5⟩:=Z2 I p h hI xs (fun y hy=>st y (zL _ hy)) B1 (zs++[h x]) (by rw[qK,length_singleton];walk_at "o") i1
   refine⟨B2,i2,?_⟩;rw[loopC,turnC,e1];have ea:=app_v (zs:=zs) (hI B1 i1) hw (by walk_at "o")
   simp only[bind_some,e2,hp,qW,e4,ea];rw[e5,List.filter_cons_of_pos hp,zI,List.append_assoc];rfl
  | false=>
   obtain⟨B2,i2,e5⟩:=Z2 I p h hI xs (fun y hy=>st y (zL _ hy)) B1 zs (by walk_at "o") i1
   refine⟨B2,i2,?_⟩;rw[loopC,turnC,e1];simp only[bind_some,e2,hp,zZ,qY];rw[e5,List.filter_cons_of_neg (by rw[hp];exact zT)]
theorem v3 {fi:FI}{js:List (Option Nat)}{gf:FG}{t:FT}{fe:FX}{ρ ρ1:Ev}{xs:List D}(I:Ev->Prop)(p:D->Bool)(h:D->D)(ei:fi ρ=some (xs,ρ1))(hI:∀B,I B->B.length=js.length)(h0:I (capE none js ρ1))(hl:xs.length<=lim)(hf:lfL ((xs.filter p).map h)=true)
  (st:∀x∈xs,∀B zs,I B->∃B' w,I B'/\gf x (B++acc zs)=some (B'++acc zs)/\t (B'++acc zs)=some (p x,B'++acc zs)/\(p x=true->fe (B'++acc zs)=some (w,B'++acc zs)/\(w= .v (h x)\/w= .o (h x)))):
  fComp fi none js gf t fe ρ=some (.o (.lst ((xs.filter p).map h)),ρ1):=by
 obtain⟨B',i',e⟩:=Z2 I p h hI xs st (capE none js ρ1) [] (by rw[length_nil];walk_at "o") h0
 unfold fComp;rw[ei];simp only[bind_some,liB,qW,Option.map_none];rw[show capE none js ρ1++[some (.l (.lst []))]=capE none js ρ1++acc [] from rfl,e];simp only[bind_some,nil_append,a7n (hI B' i'),backG,lfC,hf,qW]
theorem v5 {α:Type}(xs:List α):xs.filter (fun _=>true)=xs:=by induction xs with
 | nil=>rfl
 | cons x xs ih=>rw[List.filter_cons_of_pos rfl,ih]
def Sz (n:Nat) (q:Rat):Prop:=q.num.natAbs<2^n/\q.den<2^n
theorem Sz.mono {m n:Nat}{q:Rat}(h:Sz m q)(hm:m<=n):Sz n q:=⟨zF h.1 (jK (by decide) hm),zF h.2 (jK (by decide) hm)⟩
section
variable {ρ ρ1 ρ2:Ev}{op:D->D->Option W}{o:D->Option W}{f g h:FX}{t u:FT}{fa:FA}{F G:FS}{i j:Nat}{d e x y:D}{w z:W}{ws:List W}{ds xs ys:List D}{r:R}{k b:Bool}
def varO (i:Nat) (ρ:Ev):Option (Option W)->Option (W×Ev)
 | some (some (.v d))=>some (.v d,ρ)
 | some (some (.r _))=>none
 | some (some _)=>some (.r i,ρ)
 | _=>none
theorem b00:fVar i ρ=varO i ρ ρ[i]?:=by unfold fVar varO;split<;>simp_all
theorem a4r:varO i ρ (some (some (.v d)))=some (.v d,ρ):=rfl
theorem a5i:varO i ρ (some (some (.o d)))=some (.r i,ρ):=rfl
theorem r_var_l:varO i ρ (some (some (.l d)))=some (.r i,ρ):=rfl
theorem r_c:fC d ρ=some (.v d,ρ):=rfl
def drO:Option (Option W)->Option D
 | some (some (.v d))=>some d
 | some (some w)=>w.own
 | _=>none
theorem a6t:dr ρ (.v d)=some d:=rfl
theorem a8i:dr ρ (.r i)=drO ρ[i]?:=by unfold dr drO;rfl
theorem r_drO_v:drO (some (some (.v d)))=some d:=rfl
theorem a5v:drO (some (some (.o d)))=some d:=rfl
theorem r_drO_l:drO (some (some (.l d)))=some d:=rfl
theorem a7F:(W.v d).fz= .v d:=rfl
theorem a7r:(W.o d).fz= .v d:=rfl
theorem a7m:(W.r i).fz= .r i:=rfl
def drsC (ρ:Ev) (ws:List W):Option D->Option (List D)
 | some d=>(drs ρ ws).map fun ds=>d::ds
 | none=>none
theorem a4H:drs ρ []=some []:=rfl
theorem a4n:drs ρ (w::ws)=drsC ρ ws (dr ρ w):=by rw[drs];unfold drsC;cases dr ρ w<;>rfl
theorem a8e:drsC ρ ws (some d)=(drs ρ ws).map fun ds=>d::ds:=rfl
def bin2 (op:D->D->Option W) (g:FX):Option (W×Ev)->Option (W×Ev)
 | some p=>(g p.2).bind fun q=>(dr q.2 p.1.fz).bind fun x=>(dr q.2 q.1.fz).bind fun y=>(op x y).map fun w=>(w,q.2)
 | none=>none
def bin3 (op:D->D->Option W) (w:W):Option (W×Ev)->Option (W×Ev)
 | some q=>(dr q.2 w.fz).bind fun x=>(dr q.2 q.1.fz).bind fun y=>(op x y).map fun w=>(w,q.2)
 | none=>none
def bin4 (op:D->D->Option W) (ρ:Ev):Option D->Option D->Option (W×Ev)
 | some x,some y=>(op x y).map fun w=>(w,ρ)
 | _,_=>none
def withE (ρ:Ev):Option W->Option (W×Ev)
 | some w=>some (w,ρ)
 | none=>none
theorem a98:fBin op f g ρ=bin2 op g (f ρ):=by unfold fBin bin2;cases f ρ<;>rfl
theorem a6J:bin2 op g (some (w,ρ))=bin3 op w (g ρ):=by unfold bin2 bin3;dsimp only;cases g ρ<;>rfl
theorem a7q:bin3 op w (some (z,ρ))=bin4 op ρ (dr ρ w.fz) (dr ρ z.fz):=by unfold bin3 bin4;dsimp only;cases dr ρ w.fz<;>cases dr ρ z.fz<;>rfl
theorem a6w:bin4 op ρ (some x) (some y)=withE ρ (op x y):=by unfold bin4 withE;dsimp only;cases op x y<;>rfl
theorem a6Y:withE ρ (some w)=some (w,ρ):=rfl
def un2 (o:D->Option W):Option (W×Ev)->Option (W×Ev)
 | some p=>(dr p.2 p.1.fz).bind fun x=>(o x).map fun w=>(w,p.2)
 | none=>none
def un3 (o:D->Option W) (ρ:Ev):Option D->Option (W×Ev)
 | some x=>withE ρ (o x)
 | none=>none
theorem r_un:fUn o f ρ=un2 o (f ρ):=by unfold fUn un2;cases f ρ<;>rfl
theorem b0m:un2 o (some (w,ρ))=un3 o ρ (dr ρ w.fz):=by unfold un2 un3 withE;dsimp only;cases dr ρ w.fz with
 | none=>rfl
 | some x=>simp only[bind_some];cases o x<;>rfl
theorem a99:un3 o ρ (some x)=withE ρ (o x):=rfl
def tstO:Option (W×Ev)->Option (Bool×Ev)
 | some (.v (.bl k),ρ)=>some (k,ρ)
 | _=>none
theorem a0T:fTest f ρ=tstO (f ρ):=by
 unfold fTest tstO;cases f ρ with
 | none=>rfl
 | some p=>
  obtain⟨w,ρ⟩:=p;cases w with
  | v d=>cases d<;>rfl
  | _=>rfl
theorem a8L:tstO (some (.v (.bl k),ρ))=some (k,ρ):=rfl
def tru2:Option (W×Ev)->Option (Bool×Ev)
 | some p=>(dr p.2 p.1.fz).bind fun d=>(truth d).map fun k=>(k,p.2)
 | none=>none
def tru3 (ρ:Ev):Option D->Option (Bool×Ev)
 | some d=>(truth d).map fun k=>(k,ρ)
 | none=>none
theorem a7w:fTru f ρ=tru2 (f ρ):=by unfold fTru tru2;cases f ρ<;>rfl
theorem a65:tru2 (some (w,ρ))=tru3 ρ (dr ρ w.fz):=by unfold tru2 tru3;dsimp only;cases dr ρ w.fz<;>rfl
theorem a3u:tru3 ρ (some (.bl k))=some (k,ρ):=rfl
theorem b2d:tru3 ρ (some (.tup xs))=some (!xs.isEmpty,ρ):=rfl
theorem b2e:tru3 ρ (some (.lst xs))=some (!xs.isEmpty,ρ):=rfl
theorem b2j:tru3 ρ (some .non)=some (false,ρ):=rfl
def notO:Option (Bool×Ev)->Option (Bool×Ev)
 | some p=>some (!p.1,p.2)
 | none=>none
theorem b0M:fNot t ρ=notO (t ρ):=by unfold fNot notO;cases t ρ<;>rfl
theorem a7H:notO (some (k,ρ))=some (!k,ρ):=rfl
def andO (u:FT):Option (Bool×Ev)->Option (Bool×Ev)
 | some (true,ρ)=>u ρ
 | some (false,ρ)=>some (false,ρ)
 | none=>none
def orO (u:FT):Option (Bool×Ev)->Option (Bool×Ev)
 | some (true,ρ)=>some (true,ρ)
 | some (false,ρ)=>u ρ
 | none=>none
theorem b0V:fAnd t u ρ=andO u (t ρ):=by unfold fAnd andO;cases t ρ with
 | none=>rfl
 | some p=>obtain⟨k,ρ⟩:=p;cases k<;>rfl
theorem r_or:fOr t u ρ=orO u (t ρ):=by unfold fOr orO;cases t ρ with
 | none=>rfl
 | some p=>obtain⟨k,ρ⟩:=p;cases k<;>rfl
theorem a4u:andO u (some (true,ρ))=u ρ:=id rfl
theorem a4L:andO u (some (false,ρ))=some (false,ρ):=rfl
theorem r_or_t:orO u (some (true,ρ))=some (true,ρ):=rfl
theorem a7T:orO u (some (false,ρ))=u ρ:=id rfl
def andV (g:FX):Option (Bool×Ev)->Option (W×Ev)
 | some (true,ρ)=>g ρ
 | some (false,ρ)=>some (.v (.bl false),ρ)
 | none=>none
def orV (g:FX):Option (Bool×Ev)->Option (W×Ev)
 | some (true,ρ)=>some (.v (.bl true),ρ)
 | some (false,ρ)=>g ρ
 | none=>none
def notV:Option (Bool×Ev)->Option (W×Ev)
 | some (k,ρ)=>some (.v (.bl (!k)),ρ)
 | none=>none
def ifV (f g:FX):Option (Bool×Ev)->Option (W×Ev)
 | some (true,ρ)=>f ρ
 | some (false,ρ)=>g ρ
 | none=>none
theorem a7X:fAndV f g ρ=andV g (tstO (f ρ)):=by unfold fAndV andV;rw[a0T];cases tstO (f ρ) with
 | none=>rfl
 | some p=>obtain⟨k,ρ⟩:=p;cases k<;>rfl
theorem r_orV:fOrV f g ρ=orV g (tstO (f ρ)):=by unfold fOrV orV;rw[a0T];cases tstO (f ρ) with
 | none=>rfl
 | some p=>obtain⟨k,ρ⟩:=p;cases k<;>rfl
theorem r_notV:fNotV f ρ=notV (tstO (f ρ)):=by unfold fNotV notV;rw[a0T];cases tstO (f ρ)<;>rfl
theorem r_if:fIf t f g ρ=ifV f g (t ρ):=by unfold fIf ifV;cases t ρ with
 | none=>rfl
 | some p=>obtain⟨k,ρ⟩:=p;cases k<;>rfl
theorem a3q:andV g (some (true,ρ))=g ρ:=id rfl
theorem a3b:andV g (some (false,ρ))=some (.v (.bl false),ρ):=rfl
theorem r_orV_t:orV g (some (true,ρ))=some (.v (.bl true),ρ):=rfl
theorem r_orV_f:orV g (some (false,ρ))=g ρ:=id rfl
theorem r_notV_s:notV (some (k,ρ))=some (.v (.bl (!k)),ρ):=rfl
theorem a8O:ifV f g (some (true,ρ))=f ρ:=id rfl
theorem a7D:ifV f g (some (false,ρ))=g ρ:=id rfl
def cons2 (fa:FA):Option (W×Ev)->Option (List W×Ev)
 | some p=>(fa p.2).map fun q=>(p.1.fz::q.1,q.2)
 | none=>none
def cons3 (w:W):Option (List W×Ev)->Option (List W×Ev)
 | some q=>some (w::q.1,q.2)
 | none=>none
theorem b0J:fNil ρ=some ([],ρ):=rfl
theorem a67:fCons f fa ρ=cons2 fa (f ρ):=by unfold fCons cons2;cases f ρ<;>rfl
theorem a5e:cons2 fa (some (w,ρ))=cons3 w.fz (fa ρ):=by unfold cons2 cons3;dsimp only;cases fa ρ<;>rfl
theorem a5j:cons3 w (some (ws,ρ))=some (w::ws,ρ):=rfl
def takC (d:D):Option (List D×Ev)->Option (List D×Ev)
 | some p=>some (d::p.1,p.2)
 | none=>none
def takR (i:Nat) (ws:List W):Option Ev->Option (List D×Ev)
 | some ρ1=>match ρ1[i]? with
  | some (some (.v d))=>(takeAll ρ1 ws).map fun p=>(d::p.1,p.2)
  | _=>none
 | none=>none
def takS (ρ:Ev) (ws:List W):Option (Option W)->Option (List D×Ev)
 | some (some (.v d))=>takC d (takeAll ρ ws)
 | _=>none
theorem a5n:takeAll ρ []=some ([],ρ):=rfl
theorem a4W:takeAll ρ (.v d::ws)=takC d (takeAll ρ ws):=by rw[takeAll];unfold takC;cases takeAll ρ ws<;>rfl
theorem r_tak_r:takeAll ρ (.r i::ws)=takR i ws (frzAt ρ i):=by rw[takeAll];unfold takR;cases frzAt ρ i<;>rfl
theorem a7J:takC d (some (ds,ρ))=some (d::ds,ρ):=rfl
theorem r_takR:takR i ws (some ρ)=takS ρ ws ρ[i]?:=by
 unfold takR takS;dsimp only
 split
 ·unfold takC;cases takeAll ρ ws<;>rfl
 ·rfl
theorem r_takS:takS ρ ws (some (some (.v d)))=takC d (takeAll ρ ws):=rfl
def disp2 (mk:List D->W):Option (List W×Ev)->Option (W×Ev)
 | some p=>(takeAll p.2 p.1).bind fun q=>if q.1.length<=lim then some (mk q.1,q.2) else none
 | none=>none
def disp3 (mk:List D->W):Option (List D×Ev)->Option (W×Ev)
 | some q=>if q.1.length<=lim then some (mk q.1,q.2) else none
 | none=>none
theorem b0a:fTup fa ρ=disp2 (fun ds=>.v (.tup ds)) (fa ρ):=by unfold fTup disp2;cases fa ρ<;>rfl
theorem b0t:fLst fa ρ=disp2 (fun ds=>.o (.lst ds)) (fa ρ):=by unfold fLst disp2;cases fa ρ<;>rfl
theorem a4p {mk:List D->W}:disp2 mk (some (ws,ρ))=disp3 mk (takeAll ρ ws):=by unfold disp2 disp3;dsimp only;cases takeAll ρ ws<;>rfl
theorem a4z {mk:List D->W}:disp3 mk (some (ds,ρ))=if ds.length<=lim then some (mk ds,ρ) else none:=rfl
def call2 (k:List D->Option W):Option (List W×Ev)->Option (W×Ev)
 | some p=>(drs p.2 p.1).bind fun ds=>(k ds).map fun w=>(w,p.2)
 | none=>none
def call3 (k:List D->Option W) (ρ:Ev):Option (List D)->Option (W×Ev)
 | some ds=>withE ρ (k ds)
 | none=>none
theorem a63 {k:List D->Option W}:fCall k fa ρ=call2 k (fa ρ):=by unfold fCall call2;cases fa ρ<;>rfl
theorem a43 {k:List D->Option W}:call2 k (some (ws,ρ))=call3 k ρ (drs ρ ws):=by
 unfold call2 call3 withE;dsimp only;cases drs ρ ws with
 | none=>rfl
 | some ds=>simp only[bind_some];cases k ds<;>rfl
theorem a4X {k:List D->Option W}:call3 k ρ (some ds)=withE ρ (k ds):=rfl
theorem r_k1 {g:D->Option W}:k1 g [d]=g d:=rfl
theorem r_k2 {g:Int->Int->D}{i j:Int}:k2 g [.int i,.int j]=some (.v (g i j)):=rfl
def def2 (g:List D->Option W):Option (List W×Ev)->Option (W×Ev)
 | some p=>(drs p.2 p.1).bind fun ds=>(g ds).bind fun w=>if lfW w=true then some (w,p.2) else(frzL p.1 p.2).map fun ρ2=>(w,ρ2)
 | none=>none
def def3 (g:List D->Option W) (ws:List W) (ρ:Ev):Option (List D)->Option (W×Ev)
 | some ds=>(g ds).bind fun w=>if lfW w=true then some (w,ρ) else(frzL ws ρ).map fun ρ2=>(w,ρ2)
 | none=>none
def def4 (ws:List W) (ρ:Ev):Option W->Option (W×Ev)
 | some w=>if lfW w=true then some (w,ρ) else(frzL ws ρ).map fun ρ2=>(w,ρ2)
 | none=>none
theorem b0u {g:List D->Option W}:fDef g fa ρ=def2 g (fa ρ):=by unfold fDef def2;cases fa ρ<;>rfl
theorem a8x {g:List D->Option W}:def2 g (some (ws,ρ))=def3 g ws ρ (drs ρ ws):=by unfold def2 def3;dsimp only;cases drs ρ ws<;>rfl
theorem a8B {g:List D->Option W}:def3 g ws ρ (some ds)=def4 ws ρ (g ds):=by unfold def3 def4;dsimp only;cases g ds<;>rfl
theorem a68:def4 ws ρ (some w)=if lfW w=true then some (w,ρ) else(frzL ws ρ).map fun ρ2=>(w,ρ2):=rfl
def dl2 (g:D->List D->Option (W×D)):Option (List W×Ev)->Option (W×Ev)
 | some (.r i::ws,ρ)=>(ownAt ρ i).bind fun c=>(drs ρ ws).bind fun ds=>(g c ds).bind fun z=>if noR i ws=true/\lfC z.2=true then(if lfW z.1=true then some (z.1,setOwn ρ i z.2) else(frzL ws (setOwn ρ i z.2)).map fun ρ2=>(z.1,ρ2)) else none
 | _=>none
def dl3 (g:D->List D->Option (W×D)) (i:Nat) (ws:List W) (ρ:Ev):Option D->Option (List D)->Option (W×Ev)
 | some c,some ds=>(g c ds).bind fun z=>if noR i ws=true/\lfC z.2=true then(if lfW z.1=true then some (z.1,setOwn ρ i z.2) else(frzL ws (setOwn ρ i z.2)).map fun ρ2=>(z.1,ρ2)) else none
 | _,_=>none
def dl4 (i:Nat) (ws:List W) (ρ:Ev):Option (W×D)->Option (W×Ev)
 | some z=>if noR i ws=true/\lfC z.2=true then(if lfW z.1=true then some (z.1,setOwn ρ i z.2) else(frzL ws (setOwn ρ i z.2)).map fun ρ2=>(z.1,ρ2)) else none
 | none=>none
theorem r_dl {g:D->List D->Option (W×D)}:fDefL g fa ρ=dl2 g (fa ρ):=by
 unfold fDefL dl2;cases fa ρ with
 | none=>rfl
 | some p=>
  obtain⟨ws,ρ⟩:=p;cases ws with
  | nil=>rfl
  | cons w ws=>cases w<;>rfl
theorem r_dl2 {g:D->List D->Option (W×D)}:dl2 g (some (.r i::ws,ρ))=dl3 g i ws ρ (ownAt ρ i) (drs ρ ws):=by unfold dl2 dl3;dsimp only;cases ownAt ρ i<;>cases drs ρ ws<;>rfl
theorem r_dl3 {g:D->List D->Option (W×D)}:dl3 g i ws ρ (some d) (some ds)=dl4 i ws ρ (g d ds):=by unfold dl3 dl4;dsimp only;cases g d ds<;>rfl
theorem r_dl4:dl4 i ws ρ (some (w,d))=if noR i ws=true/\lfC d=true then(if lfW w=true then some (w,setOwn ρ i d) else(frzL ws (setOwn ρ i d)).map fun ρ2=>(w,ρ2)) else none:=rfl
def sl2 (lo hi:FO):Option (W×Ev)->Option (W×Ev)
 | some p=>(lo p.2).bind fun l=>(hi l.2).bind fun u=>(dr u.2 p.1.fz).bind fun x=>(slD x l.1 u.1).map fun w=>(w,u.2)
 | none=>none
def sl3 (hi:FO) (w:W):Option (Option Int×Ev)->Option (W×Ev)
 | some l=>(hi l.2).bind fun u=>(dr u.2 w.fz).bind fun x=>(slD x l.1 u.1).map fun w=>(w,u.2)
 | none=>none
def sl4 (w:W) (l:Option Int):Option (Option Int×Ev)->Option (W×Ev)
 | some u=>(dr u.2 w.fz).bind fun x=>(slD x l u.1).map fun w=>(w,u.2)
 | none=>none
def sl5 (l u:Option Int) (ρ:Ev):Option D->Option (W×Ev)
 | some x=>withE ρ (slD x l u)
 | none=>none
theorem r_sl {lo hi:FO}:fSl f lo hi ρ=sl2 lo hi (f ρ):=by unfold fSl sl2;cases f ρ<;>rfl
theorem b0D {lo hi:FO}:sl2 lo hi (some (w,ρ))=sl3 hi w (lo ρ):=by unfold sl2 sl3;dsimp only;cases lo ρ<;>rfl
theorem b0O {hi:FO}{l:Option Int}:sl3 hi w (some (l,ρ))=sl4 w l (hi ρ):=by unfold sl3 sl4;dsimp only;cases hi ρ<;>rfl
theorem b0G {l u:Option Int}:sl4 w l (some (u,ρ))=sl5 l u ρ (dr ρ w.fz):=by
 unfold sl4 sl5 withE;dsimp only;cases dr ρ w.fz with
 | none=>rfl
 | some x=>simp only[bind_some];cases slD x l u<;>rfl
theorem b02 {l u:Option Int}:sl5 l u ρ (some x)=withE ρ (slD x l u):=rfl
theorem a7Z {l u:Option Int}:slD (.tup xs) l u=some (.v (.tup (cutD xs l u))):=rfl
theorem a6F {l u:Option Int}:slD (.lst xs) l u=some (.o (.lst (cutD xs l u))):=rfl
def o1O:Option (W×Ev)->Option (Option Int×Ev)
 | some (.v (.int i),ρ)=>some (some i,ρ)
 | _=>none
theorem r_o0:fO0 ρ=some (none,ρ):=rfl
theorem r_o1:fO1 f ρ=o1O (f ρ):=by
 unfold fO1 o1O;cases f ρ with
 | none=>rfl
 | some p=>
  obtain⟨w,ρ⟩:=p;cases w with
  | v d=>cases d<;>rfl
  | _=>rfl
theorem b0y {n:Int}:o1O (some (.v (.int n),ρ))=some (some n,ρ):=rfl
def thnO (G:FS):Option R->Option R
 | some (.nx ρ)=>G ρ
 | o=>o
theorem a7L:fThen F G ρ=thnO G (F ρ):=by unfold fThen thnO;cases F ρ with
 | none=>rfl
 | some r=>cases r<;>rfl
theorem a15:thnO G (some (.nx ρ))=G ρ:=id rfl
theorem a1H:thnO G (some (.rt w ρ))=some (.rt w ρ):=id rfl
theorem b2c:thnO G (some (.bk ρ))=some (.bk ρ):=rfl
theorem b2h:thnO G (some (.ct ρ))=some (.ct ρ):=rfl
def retO:Option (W×Ev)->Option R
 | some p=>retW p.2 p.1
 | none=>none
def retS (ρ:Ev):Option (Option W)->Option R
 | some (some (.o d))=>some (.rt (.o d) ρ)
 | some (some (.v d))=>some (.rt (.v d) ρ)
 | _=>none
theorem b0j:fRet f ρ=retO (f ρ):=by unfold fRet retO;cases f ρ<;>rfl
theorem a5o:retO (some (.v d,ρ))=some (.rt (.v d) ρ):=rfl
theorem a45:retO (some (.o d,ρ))=some (.rt (.o d) ρ):=rfl
theorem a4Z:retO (some (.r i,ρ))=retS ρ ρ[i]?:=by unfold retO retS;first|(dsimp only[retW];done)|(dsimp only[retW];rfl)
theorem a3s:retS ρ (some (some (.o d)))=some (.rt (.o d) ρ):=rfl
theorem r_retS_v:retS ρ (some (some (.v d)))=some (.rt (.v d) ρ):=rfl
def ifO (F G:FS):Option (Bool×Ev)->Option R
 | some (true,ρ)=>F ρ
 | some (false,ρ)=>G ρ
 | none=>none
theorem r_ifS:fIfS t F G ρ=ifO F G (t ρ):=by unfold fIfS ifO;cases t ρ with
 | none=>rfl
 | some p=>obtain⟨k,ρ⟩:=p;cases k<;>rfl
theorem a5f:ifO F G (some (true,ρ))=F ρ:=id rfl
theorem a4y:ifO F G (some (false,ρ))=G ρ:=id rfl
def asgO (i:Nat):Option (W×Ev)->Option R
 | some p=>(bindW p.2 i p.1).map .nx
 | none=>none
def bndO (i j:Nat):Option Ev->Option R
 | some ρ1=>match ρ1[j]? with
  | some (some (.v d))=>if freeSlot ρ1 i=true then some (.nx (ρ1.set i (some (.v d)))) else none
  | _=>none
 | none=>none
def bndS (i:Nat) (ρ:Ev):Option (Option W)->Option R
 | some (some (.v d))=>if freeSlot ρ i=true then some (.nx (ρ.set i (some (.v d)))) else none
 | _=>none
theorem b0i:fAsg i f ρ=asgO i (f ρ):=by unfold fAsg asgO;cases f ρ<;>rfl
theorem a4A:asgO i (some (.v d,ρ))=if freeSlot ρ i=true then some (.nx (ρ.set i (some (.v d)))) else none:=by unfold asgO;dsimp only[bindW];split<;>rfl
theorem a4I:asgO i (some (.o d,ρ))=if freeSlot ρ i=true then some (.nx (ρ.set i (some (.o d)))) else none:=by unfold asgO;dsimp only[bindW];split<;>rfl
theorem r_asg_r:asgO i (some (.r j,ρ))=bndO i j (frzAt ρ j):=by
 unfold asgO bndO;dsimp only[bindW];cases frzAt ρ j with
 | none=>rfl
 | some ρ1=>
  simp only[bind_some];cases q:ρ1[j]? with
  | none=>rfl
  | some o=>
   cases o with
   | none=>rfl
   | some w=>
    cases w with
    | v d=>dsimp only;split<;>rfl
    | _=>rfl
theorem r_bndO:bndO i j (some ρ)=bndS i ρ ρ[j]?:=by
 unfold bndO bndS;rfl
theorem r_bndS:bndS i ρ (some (some (.v d)))=if freeSlot ρ i=true then some (.nx (ρ.set i (some (.v d)))) else none:=rfl
def agO2 (gf:FG):Option (W×Ev)->Option R
 | some p=>(takeAll p.2 [p.1.fz]).bind fun q=>match q.1 with
  | [d]=>(gf d q.2).map .nx
  | _=>none
 | none=>none
def agO3 (gf:FG):Option (List D×Ev)->Option R
 | some ([d],ρ)=>(gf d ρ).map .nx
 | _=>none
def nxO:Option Ev->Option R
 | some ρ=>some (.nx ρ)
 | none=>none
theorem r_ag {gf:FG}:fAsgG f gf ρ=agO2 gf (f ρ):=by unfold fAsgG agO2;cases f ρ<;>rfl
theorem b0T {gf:FG}:agO2 gf (some (w,ρ))=agO3 gf (takeAll ρ [w.fz]):=by
 unfold agO2 agO3;dsimp only;cases takeAll ρ [w.fz] with
 | none=>rfl
 | some p=>
  obtain⟨ds,ρ⟩:=p
  match ds with
  | []=>rfl
  | [_]=>rfl
  | _::_::_=>rfl
theorem b0p {gf:FG}:agO3 gf (some ([d],ρ))=nxO (gf d ρ):=by unfold agO3 nxO;dsimp only;cases gf d ρ<;>rfl
theorem a94:nxO (some ρ)=some (.nx ρ):=rfl
theorem a40:gfName i d ρ=if freeSlot ρ i=true then some (ρ.set i (some (.v d))) else none:=rfl
def gcO (gs:FGs) (ds:List D):Option Ev->Option Ev
 | some ρ=>gs ds ρ
 | none=>none
theorem a8g:gfNil [] ρ=some ρ:=rfl
theorem a4P {gf:FG}{gs:FGs}:gfCons gf gs (d::ds) ρ=gcO gs ds (gf d ρ):=by unfold gfCons gcO;dsimp only;cases gf d ρ<;>rfl
theorem b0x {gs:FGs}:gcO gs ds (some ρ)=gs ds ρ:=id rfl
theorem a66 {gs:FGs}:gfTup gs (.tup ds) ρ=gs ds ρ:=rfl
def gs2 (g:FX) (d:D):Option (W×Ev)->Option Ev
 | some (.r j,ρ)=>(g ρ).bind fun q=>(dr q.2 q.1.fz).bind fun k=>match k,ownAt q.2 j with
  | .int k,some (.lst xs)=>(ixN xs.length k).map fun n=>setOwn q.2 j (.lst (xs.set n d))
  | _,_=>none
 | _=>none
def gs3 (j:Nat) (d:D):Option (W×Ev)->Option Ev
 | some q=>(dr q.2 q.1.fz).bind fun k=>match k,ownAt q.2 j with
  | .int k,some (.lst xs)=>(ixN xs.length k).map fun n=>setOwn q.2 j (.lst (xs.set n d))
  | _,_=>none
 | none=>none
def gs4 (j:Nat) (d:D) (ρ:Ev):Option D->Option D->Option Ev
 | some (.int k),some (.lst xs)=>(ixN xs.length k).map fun n=>setOwn ρ j (.lst (xs.set n d))
 | _,_=>none
theorem r_gs:gfSub f g d ρ=gs2 g d (f ρ):=by
 unfold gfSub gs2;cases f ρ with
 | none=>rfl
 | some p=>obtain⟨w,ρ⟩:=p;cases w<;>rfl
theorem r_gs2:gs2 g d (some (.r j,ρ))=gs3 j d (g ρ):=by unfold gs2 gs3;dsimp only;cases g ρ<;>rfl
theorem r_gs3:gs3 j d (some (w,ρ))=gs4 j d ρ (dr ρ w.fz) (ownAt ρ j):=by
 unfold gs3 gs4;dsimp only;cases dr ρ w.fz with
 | none=>rfl
 | some k=>
  simp only[bind_some];cases k with
  | int n=>cases ownAt ρ j with
   | none=>rfl
   | some c=>cases c<;>rfl
  | _=>rfl
theorem r_gs4 {n:Int}:gs4 j d ρ (some (.int n)) (some (.lst xs))=(ixN xs.length n).map fun n=>setOwn ρ j (.lst (xs.set n d)):=rfl
def dropO:Option (W×Ev)->Option R
 | some p=>some (.nx p.2)
 | none=>none
theorem a69:fDrop f ρ=dropO (f ρ):=by unfold fDrop dropO;cases f ρ<;>rfl
theorem a4v:dropO (some (w,ρ))=some (.nx ρ):=rfl
def par2 (i j:Nat):Option (List W×Ev)->Option R
 | some p=>(takeAll p.2 p.1).bind fun q=>match q.1 with
  | [d,d']=>if freeSlot q.2 i=true/\freeSlot (q.2.set i (some (.v d))) j=true then some (.nx ((q.2.set i (some (.v d))).set j (some (.v d')))) else none
  | _=>none
 | none=>none
def par3 (i j:Nat):Option (List D×Ev)->Option R
 | some ([d,d'],ρ)=>if freeSlot ρ i=true/\freeSlot (ρ.set i (some (.v d))) j=true then some (.nx ((ρ.set i (some (.v d))).set j (some (.v d')))) else none
 | _=>none
theorem r_par:fPar i j fa ρ=par2 i j (fa ρ):=by unfold fPar par2;cases fa ρ<;>rfl
theorem r_par2:par2 i j (some (ws,ρ))=par3 i j (takeAll ρ ws):=by
 unfold par2 par3;dsimp only;cases takeAll ρ ws with
 | none=>rfl
 | some p=>
  obtain⟨ds,ρ⟩:=p
  match ds with
  | []=>rfl
  | [_]=>rfl
  | [_,_]=>rfl
  | _::_::_::_=>rfl
theorem r_par3:par3 i j (some ([d,e],ρ))=if freeSlot ρ i=true/\freeSlot (ρ.set i (some (.v d))) j=true then some (.nx ((ρ.set i (some (.v d))).set j (some (.v e)))) else none:=rfl
def is2:Option (W×Ev)->Option (List D×Ev)
 | some p=>(takeAll p.2 [p.1.fz]).bind fun q=>match q.1 with
  | [d]=>(items d).map fun xs=>(xs,q.2)
  | _=>none
 | none=>none
def is3:Option (List D×Ev)->Option (List D×Ev)
 | some ([.tup xs],ρ)=>some (xs,ρ)
 | some ([.lst xs],ρ)=>some (xs,ρ)
 | _=>none
theorem r_is:fiSeq f ρ=is2 (f ρ):=by unfold fiSeq is2;cases f ρ<;>rfl
theorem b0W:is2 (some (w,ρ))=is3 (takeAll ρ [w.fz]):=by
 unfold is2 is3;dsimp only;cases takeAll ρ [w.fz] with
 | none=>rfl
 | some p=>
  obtain⟨ds,ρ⟩:=p
  match ds with
  | []=>rfl
  | [d]=>cases d<;>rfl
  | _::_::_=>simp
theorem a7e:is3 (some ([.tup xs],ρ))=some (xs,ρ):=rfl
theorem a8h:is3 (some ([.lst xs],ρ))=some (xs,ρ):=rfl
def forO (gf:FG) (b:FS):Option (List D×Ev)->Option R
 | some p=>loopF (turnF gf b) p.1 p.2
 | none=>none
theorem b0Y {fi:FI}{gf:FG}:fFor fi gf F ρ=forO gf F (fi ρ):=by unfold fFor forO;cases fi ρ<;>rfl
theorem a8F {gf:FG}:forO gf F (some (xs,ρ))=loopF (turnF gf F) xs ρ:=id rfl
def turnO (b:FS):Option Ev->Option R
 | some ρ=>b ρ
 | none=>none
theorem a72 {gf:FG}:turnF gf F d ρ=turnO F (gf d ρ):=by unfold turnF turnO;cases gf d ρ<;>rfl
theorem a5w:turnO F (some ρ)=F ρ:=id rfl
def mu2 (op:List D->List D->Option (W×List D)) (fa:FA):Option (W×Ev)->Option (W×Ev)
 | some (.r i,ρ)=>if isLst (ownAt ρ i)=true then(fa ρ).bind fun q=>(takeAll q.2 q.1).bind fun z=>match ownAt z.2 i with
  | some (.lst xs)=>(op xs z.1).map fun y=>(y.1,setOwn z.2 i (.lst y.2))
  | _=>none
  else none
 | _=>none
def mu3 (op:List D->List D->Option (W×List D)) (i:Nat):Option (List W×Ev)->Option (W×Ev)
 | some q=>(takeAll q.2 q.1).bind fun z=>match ownAt z.2 i with
  | some (.lst xs)=>(op xs z.1).map fun y=>(y.1,setOwn z.2 i (.lst y.2))
  | _=>none
 | none=>none
def mu4 (op:List D->List D->Option (W×List D)) (i:Nat):Option (List D×Ev)->Option (W×Ev)
 | some z=>match ownAt z.2 i with
  | some (.lst xs)=>(op xs z.1).map fun y=>(y.1,setOwn z.2 i (.lst y.2))
  | _=>none
 | none=>none
def mu5 (op:List D->List D->Option (W×List D)) (i:Nat) (ds:List D) (ρ:Ev):Option D->Option (W×Ev)
 | some (.lst xs)=>(op xs ds).map fun y=>(y.1,setOwn ρ i (.lst y.2))
 | _=>none
def mu6 (i:Nat) (ρ:Ev):Option (W×List D)->Option (W×Ev)
 | some y=>some (y.1,setOwn ρ i (.lst y.2))
 | none=>none
variable {om:List D->List D->Option (W×List D)}
theorem r_mu:fMut om f fa ρ=mu2 om fa (f ρ):=by
 unfold fMut mu2;cases f ρ with
 | none=>rfl
 | some p=>obtain⟨w,ρ⟩:=p;cases w<;>rfl
theorem b0q:mu2 om fa (some (.r i,ρ))=if isLst (ownAt ρ i)=true then mu3 om i (fa ρ) else none:=by unfold mu2 mu3;dsimp only;cases fa ρ<;>rfl
theorem a92:mu3 om i (some (ws,ρ))=mu4 om i (takeAll ρ ws):=by unfold mu3 mu4;dsimp only;cases takeAll ρ ws<;>rfl
theorem a95:mu4 om i (some (ds,ρ))=mu5 om i ds ρ (ownAt ρ i):=by unfold mu4 mu5;rfl
theorem b0A:mu5 om i ds ρ (some (.lst xs))=mu6 i ρ (om xs ds):=by unfold mu5 mu6;dsimp only;cases om xs ds<;>rfl
theorem b0v:mu6 i ρ (some (w,xs))=some (w,setOwn ρ i (.lst xs)):=rfl
theorem b0s:mApp xs [d]=if xs.length<lim then some (.v .non,xs++[d]) else none:=rfl
def runO:Option R->Option W
 | some (.rt w _)=>some w
 | some (.nx _)=>some (.v .non)
 | _=>none
theorem b0o {np n:Nat}:runD np n G ds=if ds.length=np then runO (G (start0 n ds)) else none:=by
 unfold runD runO
 split
 ·cases G (start0 n ds) with
  | none=>rfl
  | some r=>cases r<;>rfl
 ·rfl
theorem a3i:runO (some (.rt w ρ))=some w:=rfl
theorem r_run_nx:runO (some (.nx ρ))=some (.v .non):=rfl
def runLO:Option R->Option (W×D)
 | some (.rt w ρ)=>(ownAt ρ 0).map fun c=>(w,c)
 | some (.nx ρ)=>(ownAt ρ 0).map fun c=>(.v .non,c)
 | _=>none
theorem r_runL {np n:Nat}:runL np n G d ds=if ds.length+1=np then runLO (G (some (.l d)::start0 (n-1) ds)) else none:=by
 unfold runL runLO
 split
 ·cases G (some (.l d)::start0 (n-1) ds) with
  | none=>rfl
  | some r=>cases r<;>rfl
 ·rfl
theorem b2b:runLO (some (.rt w ρ))=(ownAt ρ 0).map fun c=>(w,c):=rfl
theorem b2g:runLO (some (.nx ρ))=(ownAt ρ 0).map fun c=>(.v .non,c):=rfl
variable {m n:Int}
theorem o_i0 {g:Int->Int->D}:oI0 g (.int m) (.int n)=some (.v (g m n)):=rfl
theorem o_i {C:Int->Int->Prop} [∀i j,Decidable (C i j)] {g:Int->Int->D}:oI C g (.int m) (.int n)=if C m n then some (.v (g m n)) else none:=rfl
theorem a4D:oAdd (.int m) (.int n)=some (.v (.int (m+n))):=rfl
theorem a5b:oAdd (.lst xs) (.lst ys)=if xs.length+ys.length<=lim then some (.o (.lst (xs++ys))) else none:=rfl
theorem a4G:oAdd (.tup xs) (.tup ys)=if xs≠[]/\xs.length+ys.length<=lim then some (.v (.tup (xs++ys))) else none:=by
 by_cases h:xs≠[]/\xs.length+ys.length<=lim
 ·rw[if_pos h];exact if_pos h
 ·rw[if_neg h];exact if_neg h
theorem b0c:oNeg (.int m)=some (.v (.int (-m))):=rfl
theorem a8J:oLtT (.int m) (.int n)=some (.v (.bl (decide (m<n)))):=rfl
theorem a7E:oIx (.tup xs) (.int n)=(atI xs n).map .v:=rfl
theorem a7Y:oIx (.lst xs) (.int n)=(atI xs n).map .v:=rfl
theorem a4U:gLen (.tup xs)=some (.v (.int xs.length)):=rfl
theorem a4K:gLen (.lst xs)=some (.v (.int xs.length)):=rfl
theorem o_abs:gAbs (.int m)=some (.v (.int (if m<0 then -m else m))):=rfl
theorem o_int:gInt (.bl b)=some (.v (.int (if b then 1 else 0))):=rfl
theorem b2i:gTuple (.tup xs)=some (.v (.tup xs)):=rfl
theorem a1F:gTuple (.lst xs)=some (.v (.tup xs)):=rfl
theorem o_list_t:gList (.tup xs)=some (.o (.lst xs)):=rfl
theorem o_list_l:gList (.lst xs)=some (.o (.lst xs)):=rfl
theorem o_d2 {q:D->D->Option Bool}{neg:Bool}:oD2 q neg x y=(q x y).map fun k=>.v (.bl (if neg then !k else k)):=rfl
theorem a_0:atI (d::ds) 0=some d:=t7 (j:=0) rfl
theorem a_1:atI (d::e::ds) 1=some e:=t7 (j:=1) rfl
theorem a_2:atI (d::e::x::ds) 2=some x:=t7 (j:=2) rfl
end
open PySem PySem.Spec PyProof.Rows L2
section
variable {prog:Program}{w:World}{A:Around}{E:Value->Shared->Prop}{s:Shared}
theorem a32 {c t:Addr}{k:Nat}{its:Array Value}{x:Value}{Q:Value->Shared->Prop}(hc:IsTupIter s.heap c t k)(ht:IsTup s.heap t its)(hx:its[k]? =some x)
  (q:∀h',IsTupIter h' c t (k+1)->Heap.SameBut c s.heap h'->Q x {s with heap:=h'}):wpAny (model prog w) A (Builtin.SmallTypes.nextOf (.ref c)) Q E s:=by
 have T:=hc.typeIs;obtain⟨o,e1,e2,e3⟩:=hc;obtain⟨o2,g1,_,m,g3⟩:=ht;unfold Builtin.SmallTypes.nextOf;refine zA (qJ (name:=Str.ofString "__next__") T slot_tupleiter_next (qA slot_tupleiter_next T entry_tupleiter_next ?_ (args_tupleiter_next _)));have step:wpAny (model prog w) A.in1 (setField (.ref c) 1 (rawInt ((k:Nat)+1:Nat))) (fun _ s'=>wpAny (model prog w) A.in1 (ret x) (fun fin s''=>∃v,fin= .done (.ret v)/\wpAny (model prog w) A (pure v) Q E s'') E s') E s:=by
  refine wpAny_setField e1 e3 (by simp) (zC ⟨x,rfl,zC (q _ ⟨_,jL _ e1 (Obj.isFreed_of_fields (Obj.data_mapFields e3 _)),(Obj.cls_mapFields ..).trans e2,?_⟩ (qF ..))⟩)
  rw[Obj.data_mapFields e3];simp[rawInt]
 refine zA (m:=field (.ref c) 0) (jH e1 e3 (x:=.ref t) rfl ?_);show wpAny _ _ (if(Value.ref t==Value.none)=true then _ else _) _ _ s;have nn:¬((Value.ref t==Value.none)=true):=zT;rw[if_neg nn];refine zA (m:=field (.ref c) 1) (jH e1 e3 (x:=.int k 0) rfl (zA (m:=seqItems? (.ref t)) (xS g1 g3 ?_)));simp only[xM,hx];exact zA step
theorem a5S {c t:Addr}{k:Nat}{its:Array Value}{Q:Value->Shared->Prop}(hh:A.handled=none)(hc:IsTupIter s.heap c t k)(ht:IsTup s.heap t its)(hx:its[k]? =none)
  (q:∀h' x,Heap.ExtBut c s.heap h'->(∃o,h'.get? x=some o/\o.cls= .type "StopIteration")->E (.ref x) {s with heap:=h'}):wpAny (model prog w) A (Builtin.SmallTypes.nextOf (.ref c)) Q E s:=by
 have T:=hc.typeIs;obtain⟨o,e1,e2,e3⟩:=hc;obtain⟨o2,g1,_,m,g3⟩:=ht;unfold Builtin.SmallTypes.nextOf;refine zA (qJ (name:=Str.ofString "__next__") T slot_tupleiter_next (qA slot_tupleiter_next T entry_tupleiter_next ?_ (args_tupleiter_next _)));refine zA (m:=field (.ref c) 0) (jH e1 e3 (x:=.ref t) rfl ?_);show wpAny _ _ (if(Value.ref t==Value.none)=true then _ else _) _ _ s;have nn:¬((Value.ref t==Value.none)=true):=zT;rw[if_neg nn];refine zA (m:=field (.ref c) 1) (jH e1 e3 (x:=.int k 0) rfl (zA (m:=seqItems? (.ref t)) (xS g1 g3 ?_)));simp only[xM,hx];refine zA (yC (zA (wpAny_setField e1 e3 (by simp) ?_)))
 refine zA (m:=newExc (.type "StopIteration") []) ?_;simp only[newExc,newTuple];refine zA (qD ?_ (by size_fits))
 refine zA (m:=firstArgMember _ _) (wpAny_of_eq (a:=Value.none) (by first|rfl|(simp only[firstArgMember];rfl)) (qD ?_ (by size_fits)))
 simp only[raiseNew];refine zA (wpAny_handled ?_)
 first|rw[show A.in1.handled=none from hh]|rw[hh]
 exact zA (zC (wpAny_throw (q _ _ (((qF ..).extBut.push _).push _) ⟨_,zK _ rfl,rfl⟩)))
end
def SIt (k:Bool) (h:Heap) (c t:Addr) (i:Nat):Prop:=match k with
 | true=>h.IsListIter c t i
 | false=>IsTupIter h c t i
def SSq (k:Bool) (h:Heap) (t:Addr) (its:Array Value):Prop:=match k with
 | true=>h.IsList t its
 | false=>IsTup h t its
def SqK (k:Bool) (K:PySem.W.Frag) (H:Hp) (a:Addr) (xs:List V):Prop:=match k with
 | true=>SqL K H a xs
 | false=>SqT K H a xs
def itN (k:Bool):String:=if k then "list_iterator" else "tuple_iterator"
theorem A7 {b:Bool}{h h':Heap}{c t:Addr}{k:Nat}(i:SIt b h c t k)(kp:∀o,h.get? c=some o->h'.get? c=some o):SIt b h' c t k:=by
 cases b<;>(obtain⟨o,e,r⟩:=i;exact⟨o,kp o e,r⟩)
theorem W4 {b:Bool}{h h':Heap}{c:Addr}{its:Array Value}(i:SSq b h c its)(kp:∀o,h.get? c=some o->h'.get? c=some o):SSq b h' c its:=by
 cases b<;>(obtain⟨o,e,r⟩:=i;exact⟨o,kp o e,r⟩)
theorem P6 {b:Bool}{h:Heap}{c t:Addr}{k:Nat}(i:SIt b h c t k):∃o,h.get? c=some o/\∀v,o.data≠.cell v:=by
 cases b<;>(obtain⟨o,e,r,d⟩:=i;exact⟨o,e,fun v z=>by rw[d] at z;cases z⟩)
theorem a4w {b:Bool}{h:Heap}{c l:Addr}(e:h.get? c=some {cls:=.type (itN b),data:=.fields #[.ref l,.int 0 0]}):SIt b h c l 0:=by
 cases b<;>exact⟨_,e,rfl,rfl⟩
theorem sqk {X:Cx}{k:Bool}{pins:List (Addr×PySem.Obj)}{σ:L2.St}{H:Hp}{s:Shared}{a:Addr}{xs:List V}(I:Inv X pins σ H s)(h:SqK k X.K H a xs):∃its,Vals xs its/\SSq k s.heap a its.toArray:=by
 cases k
 ·obtain⟨its,r,p,_⟩:=I.tuple h;exact⟨its,r,p⟩
 ·obtain⟨its,r,p,_⟩:=I.list h;exact⟨its,r,p.isList⟩
theorem a42 {X:Cx}{k:Bool}{pins:List (Addr×PySem.Obj)}{σ:L2.St}{H:Hp}{s:Shared}{a:Addr}{xs ys:List V}(I:Inv X pins σ H s)(h:SqK k X.K H a xs)(h':SqK k X.K H a ys):xs=ys:=by
 cases k
 ·exact I.tuple_inj h h'
 ·exact I.list_inj h h'
theorem a7b {b:Bool}{h:Heap}{c:Addr}{its:Array Value}(i:SSq b h c its):c<h.objs.size:=by
 cases b<;>(obtain⟨o,e,r⟩:=i;exact zO e)
section
variable {prog:Program}{w:World}{A:Around}{E:Value->Shared->Prop}{s:Shared}
theorem R9 {b:Bool}{c t:Addr}{k:Nat}{its:Array Value}{x:Value}{Q:Value->Shared->Prop}(hc:SIt b s.heap c t k)(ht:SSq b s.heap t its)(hx:its[k]? =some x)
  (q:∀h',SIt b h' c t (k+1)->Heap.SameBut c s.heap h'->Q x {s with heap:=h'}):wpAny (model prog w) A (Builtin.SmallTypes.nextOf (.ref c)) Q E s:=by
 cases b
 ·exact a32 hc ht hx q
 ·exact wpAny_nextOf_list_item hc ht hx q
theorem a1G {b:Bool}{c t:Addr}{k:Nat}{its:Array Value}{Q:Value->Shared->Prop}(hh:A.handled=none)(hc:SIt b s.heap c t k)(ht:SSq b s.heap t its)(hx:its[k]? =none)
  (q:∀h' x,Heap.ExtBut c s.heap h'->(∃o,h'.get? x=some o/\o.cls= .type "StopIteration")->E (.ref x) {s with heap:=h'}):wpAny (model prog w) A (Builtin.SmallTypes.nextOf (.ref c)) Q E s:=by
 cases b
 ·exact a5S hh hc ht hx q
 ·exact wpAny_nextOf_list_end hh hc ht hx q
theorem iterS {b:Bool}{l:Addr}{its:Array Value}{Q:Value->Shared->Prop}(ht:SSq b s.heap l its)(q:Q (.ref s.heap.objs.size) {s with heap:=s.heap.push {cls:=.type (itN b),data:=.fields #[.ref l,.int 0 0]}}):wpAny (model prog w) A (pyIter (.ref l)) Q E s:=by
 cases b
 ·exact iter_tuple ht q
 ·exact vC ht q
end
section
variable {prog:Program}{w:World}{A:Around}{E:Value->Shared->Prop}{s:Shared}{c1 c2:Bool}{z TI TO i1 i2 l1 l2:Addr}{k1 k2:Nat}{xs ys:Array Value}{x y a b:Value}
theorem a6n {Q:Value->Shared->Prop}(D:ZipApart z TI TO i1 i2 l1 l2)(hz:IsZip s.heap z TI TO .none)(hTI:IsPair s.heap TI (.ref i1) (.ref i2))(hTO:IsPair s.heap TO a b)
  (h1:SIt c1 s.heap i1 l1 k1) (h2:SIt c2 s.heap i2 l2 k2) (t1:SSq c1 s.heap l1 xs) (t2:SSq c2 s.heap l2 ys) (hx:xs[k1]? =some x) (hy:ys[k2]? =some y)
  (q:∀h',IsZip h' z TI TO (rawInt s.heap.objs.size)->IsPair h' TO x y->SIt c1 h' i1 l1 (k1+1)->SIt c2 h' i2 l2 (k2+1)->IsPair h' s.heap.objs.size x y->h'.objs.size=s.heap.objs.size+1->
   (∀c o,c≠z->c≠TO->c≠i1->c≠i2->s.heap.get? c=some o->h'.get? c=some o)->Q (.ref s.heap.objs.size) {s with heap:=h'}):
  wpAny (model prog w) A (Builtin.«zip.__next__» ⟨[.ref z],[]⟩) (fun fin s'=>∃v,fin= .done (.ret v)/\Q v s') E s:=by
 refine zA (m:=field (.ref z) 2) (jH hz rfl (x:=.bool false) rfl ?_);refine zA (m:=field (.ref z) 3) (jH hz rfl (x:=.ref TI) rfl (zA (xS hTI rfl ?_)));refine zA (m:=Builtin.SmallTypes.ownedTupleIsFree (.ref z)) ?_;unfold Builtin.SmallTypes.ownedTupleIsFree;refine zA (jH hz rfl (x:=.none) rfl (zC ?_));simp only[qW];refine zA (yC (zA (jH hz rfl (x:=.ref TO) rfl (zA (qS hz (by simp) fun ha za sa=>?_)))))
 have za':IsZip ha z TI TO .ellipsis:=za;have ka:∀c o,c≠z->s.heap.get? c=some o->ha.get? c=some o:=fun c o n e=>sa.extBut c o n e;refine zA ?_;simp only[List.zipIdx_cons,List.zipIdx_nil,forIn_cons,forIn_nil];refine zA (zA (wpAny_onRaise (zA (m:=Builtin.SmallTypes.nextOf (.ref i1)) (R9 (A7 h1 fun o e=>ka _ o D.i1z e) (W4 t1 fun o e=>ka _ o D.l1z e) hx fun hb ib sb=>zC ?_))));have kb:∀c o,c≠z->c≠i1->s.heap.get? c=some o->hb.get? c=some o:=fun c o n n1 e=>sb.extBut c o n1 (ka c o n e);have ob:IsPair hb TO a b:=kb _ _ D.TOz D.TOi1 hTO;refine zA (xS ob rfl (zA (wpAny_updateSeq_pair ob fun hc oc sc=>?_)));have oc':IsPair hc TO x b:=oc;have kc:∀c o,c≠z->c≠i1->c≠TO->s.heap.get? c=some o->hc.get? c=some o:=fun c o n n1 n2 e=>sc.extBut c o n2 (kb c o n n1 e);refine zA (wpAny_letGo (zC ?_));refine zA (zA (wpAny_onRaise (zA (m:=Builtin.SmallTypes.nextOf (.ref i2)) (R9 (A7 h2 fun o e=>kc _ o D.i2z D.i12.symm D.TOi2.symm e) (W4 t2 fun o e=>kc _ o D.l2z D.l2i1 D.l2TO e) hy fun hd id' sd=>zC ?_))));have od:IsPair hd TO x b:=sd.extBut _ _ D.TOi2 oc';refine zA (xS od rfl (zA (wpAny_updateSeq_pair od fun he oe se=>?_)));have oe':IsPair he TO x y:=oe;refine zA (wpAny_letGo (zC (zC ?_)));refine zA (xS oe' rfl (zA (wpAny_newTuple ?_)));have size:he.objs.size=s.heap.objs.size:=by rw[se.1,sd.1,sc.1,sb.1,sa.1]
 have ke:∀c o,c≠z->c≠TO->c≠i1->c≠i2->s.heap.get? c=some o->he.get? c=some o:=fun c o n n1 n2 n3 e=>se.extBut c o n1 (sd.extBut c o n3 (kc c o n n2 n1 e));have ze:IsZip he z TI TO .ellipsis:=se.extBut _ _ D.TOz.symm (sd.extBut _ _ D.i2z.symm (sc.extBut _ _ D.TOz.symm (sb.extBut _ _ D.i1z.symm za')));have ie1:SIt c1 he i1 l1 (k1+1):=A7 ib fun o e=>se.extBut _ o D.TOi1.symm (sd.extBut _ o D.i12 (sc.extBut _ o D.TOi1.symm e));have ie2:SIt c2 he i2 l2 (k2+1):=A7 id' fun o e=>se.extBut _ o D.TOi2.symm e;have zlt:z<he.objs.size:=zO ze;refine zA (m:=Builtin.SmallTypes.ownedTupleHandOut (.ref z) (.ref he.objs.size)) ?_;unfold Builtin.SmallTypes.ownedTupleHandOut;have zp:IsZip (he.push {cls:=.type "tuple",data:=.seq #[x,y]}) z TI TO .ellipsis:=zD _ ze;refine zA (qS zp (by simp) fun hf zf sf=>?_)
 have zf':IsZip hf z TI TO (rawInt he.objs.size):=zf;refine qS zf' (by simp) fun hg zg sg=>?_
 have zg':IsZip hg z TI TO (rawInt he.objs.size):=zg;have up:∀c o,c≠z->he.get? c=some o->hg.get? c=some o:=fun c o n e=>sg.extBut c o n (sf.extBut c o n (zD _ e));have pg:IsPair hg he.objs.size x y:=sg.extBut _ _ (jX zlt) (sf.extBut _ _ (jX zlt) (zK _ rfl));have szg:hg.objs.size=he.objs.size+1:=by rw[sg.1,sf.1,jI]
 rw[size] at zg' pg szg;refine zC ⟨_,rfl,?_⟩;show Q (.ref he.objs.size) _;rw[size];exact q hg zg' (up _ _ D.TOz oe') (A7 ie1 fun o e=>up _ o D.i1z e) (A7 ie2 fun o e=>up _ o D.i2z e) pg szg fun c o n n1 n2 n3 e=>up c o n (ke c o n n1 n2 n3 e)
end
section
variable {prog:Program}{w:World}{A:Around}{E:Value->Shared->Prop}{s:Shared}{c1 c2:Bool}{z TI TO i1 i2 l1 l2:Addr}{k1 k2:Nat}{xs ys:Array Value}{x y a b:Value}
theorem a7v {Q:Fin->Shared->Prop}(hh:A.handled=none)(D:ZipApart z TI TO i1 i2 l1 l2)(hz:IsZip s.heap z TI TO .none)(hTI:IsPair s.heap TI (.ref i1) (.ref i2))(hTO:IsPair s.heap TO a b)
  (h1:SIt c1 s.heap i1 l1 k1) (h2:SIt c2 s.heap i2 l2 k2) (t1:SSq c1 s.heap l1 xs) (t2:SSq c2 s.heap l2 ys) (hend:xs[k1]? =none\/ys[k2]? =none)
  (q:∀h' c,(∀c o,c≠z->c≠TO->c≠i1->c≠i2->s.heap.get? c=some o->h'.get? c=some o)->(∃o,h'.get? c=some o/\o.cls= .type "StopIteration")->E (.ref c) {s with heap:=h'}):
  wpAny (model prog w) A (Builtin.«zip.__next__» ⟨[.ref z],[]⟩) Q E s:=by
 refine zA (m:=field (.ref z) 2) (jH hz rfl (x:=.bool false) rfl ?_);refine zA (m:=field (.ref z) 3) (jH hz rfl (x:=.ref TI) rfl (zA (xS hTI rfl ?_)));refine zA (m:=Builtin.SmallTypes.ownedTupleIsFree (.ref z)) ?_;unfold Builtin.SmallTypes.ownedTupleIsFree;refine zA (jH hz rfl (x:=.none) rfl (zC ?_));simp only[qW];refine zA (yC (zA (jH hz rfl (x:=.ref TO) rfl (zA (qS hz (by simp) fun ha za sa=>?_)))))
 have za':IsZip ha z TI TO .ellipsis:=za;have ka:∀c o,c≠z->s.heap.get? c=some o->ha.get? c=some o:=fun c o n e=>sa.extBut c o n e;have apart:∀{h:Heap} {c:Addr} {v:Value},IsZip h z TI TO v->(∃o,h.get? c=some o/\o.cls= .type "StopIteration")->c≠z:=fun{h c v} hz' ⟨o,e1,e2⟩ n=>by
  subst n;rw[hz'] at e1;cases e1;simp at e2
 refine zA ?_;simp only[List.zipIdx_cons,List.zipIdx_nil,forIn_cons,forIn_nil];cases hx:xs[k1]? with
 | none=>
  refine zA (zA (wpAny_onRaise (zA (m:=Builtin.SmallTypes.nextOf (.ref i1)) (a1G hh (A7 h1 fun o e=>ka _ o D.i1z e) (W4 t1 fun o e=>ka _ o D.l1z e) hx fun hb c kb hc=>?_))));have zb:IsZip hb z TI TO .ellipsis:=kb _ _ D.i1z.symm za';have nz:=apart zb hc;obtain⟨o,eo,co⟩:=hc;exact qS zb (by simp) fun hd _ sd=>q hd c (fun d o' n _ n2 _ e=>sd.extBut d o' n (kb d o' n2 (ka d o' n e))) ⟨o,sd.extBut _ _ nz eo,co⟩
 | some x=>
  have hy:ys[k2]? =none:=hend.resolve_left (by rw[hx];exact fun n=>nomatch n)
  refine zA (zA (wpAny_onRaise (zA (m:=Builtin.SmallTypes.nextOf (.ref i1)) (R9 (A7 h1 fun o e=>ka _ o D.i1z e) (W4 t1 fun o e=>ka _ o D.l1z e) hx fun hb ib sb=>zC ?_))));have kb:∀c o,c≠z->c≠i1->s.heap.get? c=some o->hb.get? c=some o:=fun c o n n1 e=>sb.extBut c o n1 (ka c o n e);have ob:IsPair hb TO a b:=kb _ _ D.TOz D.TOi1 hTO;refine zA (xS ob rfl (zA (wpAny_updateSeq_pair ob fun hc oc sc=>?_)));have kc:∀c o,c≠z->c≠i1->c≠TO->s.heap.get? c=some o->hc.get? c=some o:=fun c o n n1 n2 e=>sc.extBut c o n2 (kb c o n n1 e);refine zA (wpAny_letGo (zC ?_));refine zA (zA (wpAny_onRaise (zA (m:=Builtin.SmallTypes.nextOf (.ref i2)) (a1G hh (A7 h2 fun o e=>kc _ o D.i2z D.i12.symm D.TOi2.symm e) (W4 t2 fun o e=>kc _ o D.l2z D.l2i1 D.l2TO e) hy fun hd c kd hc'=>?_))));have zd:IsZip hd z TI TO .ellipsis:=kd _ _ D.i2z.symm (sc.extBut _ _ D.TOz.symm (sb.extBut _ _ D.i1z.symm za'));have nz:=apart zd hc';obtain⟨o,eo,co⟩:=hc';exact qS zd (by simp) fun hf _ sf=>q hf c (fun d o' n n1 n2 n3 e=>sf.extBut d o' n (kd d o' n3 (kc d o' n n2 n1 e))) ⟨o,sf.extBut _ _ nz eo,co⟩
theorem a35 {Q:Option Value->Shared->Prop}(D:ZipApart z TI TO i1 i2 l1 l2)(hz:IsZip s.heap z TI TO .none)(hTI:IsPair s.heap TI (.ref i1) (.ref i2))(hTO:IsPair s.heap TO a b)
  (h1:SIt c1 s.heap i1 l1 k1) (h2:SIt c2 s.heap i2 l2 k2) (t1:SSq c1 s.heap l1 xs) (t2:SSq c2 s.heap l2 ys) (hx:xs[k1]? =some x) (hy:ys[k2]? =some y)
  (q:∀h',IsZip h' z TI TO (rawInt s.heap.objs.size)->IsPair h' TO x y->SIt c1 h' i1 l1 (k1+1)->SIt c2 h' i2 l2 (k2+1)->IsPair h' s.heap.objs.size x y->h'.objs.size=s.heap.objs.size+1->
   (∀c o,c≠z->c≠TO->c≠i1->c≠i2->s.heap.get? c=some o->h'.get? c=some o)->Q (some (.ref s.heap.objs.size)) {s with heap:=h'}):
  wpAny (model prog w) A (pyNext (.ref z)) Q E s:=by
 have T:s.TypeIs (.ref z) "zip":=⟨_,hz,rfl⟩;unfold pyNext
 exact zA (wpAny_attempt (qJ (name:=Str.ofString "__next__") T F.slot_zip_next
  (qA F.slot_zip_next T F.entry_zip_next (a6n D hz hTI hTO h1 h2 t1 t2 hx hy fun h' b1 b2 b3 b4 b5 b6 b7=>zC (q h' b1 b2 b3 b4 b5 b6 b7)) (F.args_zip_next_1 _))))
theorem a5R {Q:Option Value->Shared->Prop}(hh:A.handled=none)(D:ZipApart z TI TO i1 i2 l1 l2)(hz:IsZip s.heap z TI TO .none)(hTI:IsPair s.heap TI (.ref i1) (.ref i2))(hTO:IsPair s.heap TO a b)
  (h1:SIt c1 s.heap i1 l1 k1) (h2:SIt c2 s.heap i2 l2 k2) (t1:SSq c1 s.heap l1 xs) (t2:SSq c2 s.heap l2 ys) (hend:xs[k1]? =none\/ys[k2]? =none)
  (q:∀h',(∀c o,c≠z->c≠TO->c≠i1->c≠i2->s.heap.get? c=some o->h'.get? c=some o)->Q none {s with heap:=h'}):wpAny (model prog w) A (pyNext (.ref z)) Q E s:=by
 have T:s.TypeIs (.ref z) "zip":=⟨_,hz,rfl⟩;unfold pyNext;refine zA (wpAny_attempt (qJ (name:=Str.ofString "__next__") T F.slot_zip_next (qA F.slot_zip_next T F.entry_zip_next (a7v hh D hz hTI hTO h1 h2 t1 t2 hend fun h' c kp hc=>?_) (F.args_zip_next_1 _))));obtain⟨o,eo,co⟩:=hc;exact zA (wpAny_isInstance (T:="StopIteration") (b:=true) ⟨o,eo,co⟩ isSubtype_stop (zC (q _ kp)))
abbrev zp1 (b:Bool) (h:Heap) (l:Addr):Heap:=h.push {cls:=.type (itN b),data:=.fields #[.ref l,.int 0 0]}
abbrev zp3 (c1 c2:Bool) (h:Heap) (l m:Addr):Heap:=(zp1 c2 (zp1 c1 h l) m).push {cls:=.type "tuple",data:=.seq #[.ref h.objs.size,.ref (zp1 c1 h l).objs.size]}
abbrev zp4 (c1 c2:Bool) (h:Heap) (l m:Addr):Heap:=(zp3 c1 c2 h l m).push {cls:=.type "tuple",data:=.seq #[.none,.none]}
abbrev zp5 (c1 c2:Bool) (h:Heap) (l m:Addr):Heap:=(zp4 c1 c2 h l m).push {cls:=.type "zip",data:=.fields #[.none,.bool false,.bool false,.ref (zp1 c2 (zp1 c1 h l) m).objs.size,.ref (zp3 c1 c2 h l m).objs.size]}
theorem a8o (c1 c2:Bool)(l m:Addr)(xs ys:Array Value):Meets (Builtin.«zip.__new__» ⟨[.type "zip",.ref l,.ref m],[]⟩) (fun _ R s=>SSq c1 s.heap l xs/\SSq c2 s.heap m ys/\R (.ok (.ret (.ref (zp4 c1 c2 s.heap l m).objs.size))) {s with heap:=zp5 c1 c2 s.heap l m}):=
 .of_wp fun prog w A R s hh=>by
  obtain⟨hp,g,d,tk,os⟩:=s;obtain⟨p1,p2,hr⟩:=hh;have hsub:=sub_zip;have q1:SSq c1 (Shared.heap ⟨hp,g,d,tk,os⟩) l xs:=p1;have q2:SSq c2 (Shared.heap ⟨zp1 c1 hp l,g,d,tk,os⟩) m ys:=W4 p2 fun o e=>zD _ e
  wp_walk using iterS q1,iterS q2
  exact⟨_,rfl,hr⟩
theorem a5K {Q:Value->Shared->Prop}(p1:SSq c1 s.heap l1 xs)(p2:SSq c2 s.heap l2 ys)
  (q:∀h',IsZip h' (s.heap.objs.size+4) (s.heap.objs.size+2) (s.heap.objs.size+3) .none->IsPair h' (s.heap.objs.size+2) (.ref s.heap.objs.size) (.ref (s.heap.objs.size+1))->IsPair h' (s.heap.objs.size+3) .none .none->
   SIt c1 h' s.heap.objs.size l1 0->SIt c2 h' (s.heap.objs.size+1) l2 0->(∀c o,s.heap.get? c=some o->h'.get? c=some o)->Q (.ref (s.heap.objs.size+4)) {s with heap:=h'}):
  wpAny (model prog w) A (call (.type "zip") [.ref l1,.ref l2]) Q E s:=by
 refine callType_new F.called_zip (by decide) (F.typeCall_zip_2 _ _) (F.newCall_zip_2 _ _) (fun obj=>F.args_object_init_3 obj _ _) F.entry_zip_new (a8o c1 c2 l1 l2 xs ys) ⟨p1,p2,?_⟩
 have n1:(zp1 c1 s.heap l1).objs.size=s.heap.objs.size+1:=jI ..;have n2:(zp1 c2 (zp1 c1 s.heap l1) l2).objs.size=s.heap.objs.size+2:=by rw[jI,n1]
 have n3:(zp3 c1 c2 s.heap l1 l2).objs.size=s.heap.objs.size+3:=by rw[jI,n2]
 have n4:(zp4 c1 c2 s.heap l1 l2).objs.size=s.heap.objs.size+4:=by rw[jI,n3]
 have up:∀{h:Heap} {c:Addr} {o p:PySem.Obj},h.get? c=some o->(h.push p).get? c=some o:=fun e=>zD _ e;have r5:(zp5 c1 c2 s.heap l1 l2).get? (zp4 c1 c2 s.heap l1 l2).objs.size=some _:=zK _ rfl;have r4:(zp5 c1 c2 s.heap l1 l2).get? (zp3 c1 c2 s.heap l1 l2).objs.size=some _:=up (zK _ rfl);have r3:(zp5 c1 c2 s.heap l1 l2).get? (zp1 c2 (zp1 c1 s.heap l1) l2).objs.size=some _:=up (up (zK _ rfl));have r2:(zp5 c1 c2 s.heap l1 l2).get? (zp1 c1 s.heap l1).objs.size=some _:=up (up (up (zK _ rfl)));have r1:(zp5 c1 c2 s.heap l1 l2).get? s.heap.objs.size=some _:=up (up (up (up (zK _ rfl))));rw[n2,n3,n4] at r5;rw[n1,n2] at r3;rw[n3] at r4;rw[n1] at r2;show _/\_;rw[n4];exact⟨⟨_,r5,rfl⟩,q _ r5 r3 r4 (a4w r1) (a4w r2) fun c o e=>up (up (up (up (up e))))⟩
end
theorem a1r {xs:List V}{us:List Value}{i:Nat}(r:Vals xs us)(e:xs[i]? =none):us.toArray[i]? =none:=by
 have:=r.length
 rw[yG] at e;rw[List.getElem?_toArray,yG];walk_at "o"
def ItzT (c1 c2:Bool) (K:PySem.W.Frag) (l1 l2:Addr):It:=
 ⟨fun i H=>∃xs ys x y,SqK c1 K H l1 xs/\SqK c2 K H l2 ys/\xs[i]? =some x/\ys[i]? =some y,
  fun i H v H'=>∃T x y,v= .ref T/\H T=none/\H'=upd H T (.tup [x,y])/\(∀xs,SqK c1 K H l1 xs->xs[i]? =some x)/\∀ys,SqK c2 K H l2 ys->ys[i]? =some y,
  fun i H=>∃xs ys,SqK c1 K H l1 xs/\SqK c2 K H l2 ys/\(xs[i]? =none\/ys[i]? =none)⟩
def zipTt (c1 c2:Bool) (z TI TO i1 i2 l1 l2:Addr) (i:Nat) (h:Heap):Prop:=IsZip h z TI TO .none/\IsPair h TI (.ref i1) (.ref i2)/\(∃a b,IsPair h TO a b)/\SIt c1 h i1 l1 i/\SIt c2 h i2 l2 i
theorem a6m {P:Program}{w:World}{K:PySem.W.Frag}{es:List Expr}{kt:Nat}{pt:Pos}{c1 c2:Bool}{z TI TO i1 i2 l1 l2:Addr}(D:ZipApart z TI TO i1 i2 l1 l2):
  Turn P w K (.Tuple es kt pt) (ItzT c1 c2 K l1 l2) [z,TI,TO,i1,i2] z (zipTt c1 c2 z TI TO i1 i2 l1 l2) where
 mem:=by simp
 obj:=fun i h st b hb=>by
  obtain⟨hz,hTI,⟨a,b',hTO⟩,s1,s2⟩:=st;obtain⟨o1,e1,d1⟩:=P6 s1;obtain⟨o2,e2,d2⟩:=P6 s2;simp only[zN,xG,yY] at hb;rcases hb with rfl|rfl|rfl|rfl|rfl
  ·exact⟨_,hz,fun v z=>nomatch z⟩
  ·exact⟨_,hTI,fun v z=>nomatch z⟩
  ·exact⟨_,hTO,fun v z=>nomatch z⟩
  ·exact⟨_,e1,d1⟩
  ·exact⟨_,e2,d2⟩
 keep:=fun i h h' st k=>by
  obtain⟨hz,hTI,⟨a,b',hTO⟩,h1,h2⟩:=st;exact⟨k z (by simp) _ hz,k TI (by simp) _ hTI,⟨a,b',k TO (by simp) _ hTO⟩,A7 h1 fun o e=>k i1 (by simp) o e,A7 h2 fun o e=>k i2 (by simp) o e⟩
 item:=by
  intro X hP hw hK hc i pins s σ H E I hf st hg;subst hP hw hK;obtain⟨xs,ys,x,y,q1,q2,ex,ey⟩:=hg;obtain⟨its1,r1,p1⟩:=sqk I q1;obtain⟨its2,r2,p2⟩:=sqk I q2;obtain⟨u,hu,ru⟩:=r1.get ex;obtain⟨v,hv,rv⟩:=r2.get ey;obtain⟨hz,hTI,⟨a,b,hTO⟩,h1,h2⟩:=st;have l1:∀{c o},s.heap.get? c=some o->c≠s.heap.objs.size:=fun e=>zG (zO e);refine a35 D hz hTI hTO h1 h2 p1 p2 (x:=u) (y:=v) (by simpa using hu) (by simpa using hv) fun h' a1 a2 a3 a4 a5 a6 hk=>⟨_,rfl,?_⟩
  refine wpAny_letOwnedTupleGo_zip a1 fun h2' b1 b2=>?_;have ez:z<s.heap.objs.size:=zO hz;have nT:s.heap.objs.size≠z:=jX ez;have kp:∀c o,c∉[z,TI,TO,i1,i2]->s.heap.get? c=some o->h2'.get? c=some o:=fun c o hc e=>by
   simp only[zN,xG,yY,not_or] at hc;exact(b2.2 c hc.1).trans (hk c o hc.1 hc.2.2.1 hc.2.2.2.1 hc.2.2.2.2 e)
  have fr:H s.heap.objs.size=none:=I.hok.fresh (zE _);have tr:∀c w,H c=some w->c∉[z,TI,TO,i1,i2]:=fun c w e hc=>by rw[(hf c hc).1] at e;cases e
  have st':zipTt c1 c2 z TI TO i1 i2 _ _ (i+1) h2':=⟨b1,(b2.2 _ D.TIz).trans (hk _ _ D.TIz D.TITO D.TIi1 D.TIi2 hTI),⟨_,_,(b2.2 _ D.TOz).trans a2⟩,A7 a3 fun o e=>(b2.2 _ D.i1z).trans e,A7 a4 fun o e=>(b2.2 _ D.i2z).trans e⟩;have five:∀c∈[z,TI,TO,i1,i2],∃o,h2'.get? c=some o:=fun c hc=>by
   obtain⟨q1,q2,⟨_,_,q3⟩,s4,s5⟩:=st';obtain⟨_,q4,_⟩:=P6 s4;obtain⟨_,q5,_⟩:=P6 s5;simp only[zN,xG,yY] at hc;rcases hc with rfl|rfl|rfl|rfl|rfl
   ·exact⟨_,q1⟩
   ·exact⟨_,q2⟩
   ·exact⟨_,q3⟩
   ·exact⟨_,q4⟩
   ·exact⟨_,q5⟩
  have hb5:h2'.get? s.heap.objs.size=some {cls:=.type "tuple",data:=.seq #[u,v]}:=(b2.2 _ nT).trans a5
  have un:Un (frs X.stack) [z,TI,TO,i1,i2] H (upd H s.heap.objs.size (.tup [x,y])) s.heap h2':=⟨fun c o e n hfs hx=>kp c o hx e,fun c o e n hfs hx=>⟨o.slots,kp c o hx e⟩,fun c o e n hx=>by rw[c9 (l1 e)];exact n,fun c o e hx=>⟨o,kp c o hx e⟩,
   fun c ws e=>by rw[c9 (o9 e fr)];exact e,fun c o w e=>by rw[c9 (o9 e fr)];exact e,fun c ps e=>⟨#[],by rw[c9 (o9 e fr),e];simp⟩⟩
  have hok:HOk X.K X.prog X.w (upd H s.heap.objs.size (.tup [x,y])) h2':=fun c w e=>by
   by_cases hc:c=s.heap.objs.size
   ·subst hc;rw[j3] at e;cases e;exact⟨by show 2<=sizeLine;rw[qR];decide,[u,v],.cons ru (.cons rv .nil),⟨_,hb5,rfl,⟨_,rfl⟩,rfl⟩⟩
   ·rw[c9 hc] at e
    refine(I.hok c w e).stay (fun c' o hc' e'=>kp c' o (by
     rcases hc' with rfl|hc'
     ·exact tr _ _ e
     ·exact tr _ _ hc') e') (fun c' q=>by rw[c9 (o9 q fr)];exact q) fun c' ws q=>q.upd (q.ne fr)
  have I1:Inv X pins σ (upd H s.heap.objs.size (.tup [x,y])) {s with heap:=h2'}:=I.call' (s':={s with heap:=h2'}) (ch:=[z,TI,TO,i1,i2]) rfl un hok I.bare fun c hc=>⟨(hf c hc).2.2.2.1,(hf c hc).2.1,(hf c hc).2.2.2.2.1,(hf c hc).2.2.2.2.2⟩
  exact⟨.ref s.heap.objs.size,_,I1,rfl,⟨_,x,y,rfl,fr,rfl,fun ws hw=>by rw[a42 I hw q1];exact ex,fun ws hw=>by rw[a42 I hw q2];exact ey⟩,st',fun c hc=>by
   obtain⟨o,e⟩:=five c hc
   have:c≠s.heap.objs.size:=fun z=>by
    subst z
    have:=(hf _ hc)
    obtain⟨q1,q2,⟨_,_,q3⟩,s4,s5⟩:=(⟨hz,hTI,⟨a,b,hTO⟩,h1,h2⟩:zipTt c1 c2 z TI TO i1 i2 _ _ i s.heap);obtain⟨_,q4,_⟩:=P6 s4;obtain⟨_,q5,_⟩:=P6 s5;simp only[zN,xG,yY] at hc;rcases hc with rfl|rfl|rfl|rfl|rfl
    ·exact l1 q1 rfl
    ·exact l1 q2 rfl
    ·exact l1 q3 rfl
    ·exact l1 q4 rfl
    ·exact l1 q5 rfl
   rw[c9 this];exact(hf c hc).1⟩
 done:=by
  intro X hP hw hK hc i pins s σ H E I hf st hg;subst hP hw hK;obtain⟨xs,ys,q1,q2,hend⟩:=hg;obtain⟨its1,r1,p1⟩:=sqk I q1;obtain⟨its2,r2,p2⟩:=sqk I q2;obtain⟨hz,hTI,⟨a,b,hTO⟩,h1,h2⟩:=st;refine a5R (I.ok.hd hc) D hz hTI hTO h1 h2 p1 p2 (hend.imp (a1r r1) (a1r r2)) fun h' hk=>⟨rfl,?_⟩;have kp:∀c o,c∉[z,TO,i1,i2]->s.heap.get? c=some o->h'.get? c=some o:=fun c o hc e=>by
   simp only[zN,xG,yY,not_or] at hc;exact hk c o hc.1 hc.2.1 hc.2.2.1 hc.2.2.2 e
  have sub:∀c∈[z,TO,i1,i2],c∈[z,TI,TO,i1,i2]:=fun c hc=>by simp at hc ⊢;rcases hc with h|h|h|h<;>simp[h]
  have un:Un (frs X.stack) [z,TO,i1,i2] H H s.heap h':=⟨fun c o e n hfs hx=>kp c o hx e,fun c o e n hfs hx=>⟨o.slots,kp c o hx e⟩,fun c o e n hx=>n,fun c o e hx=>⟨o,kp c o hx e⟩,fun c ws e=>e,fun c o w e=>e,fun c ps e=>⟨#[],by rw[e];simp⟩⟩
  have tr:∀c w,H c=some w->c∉[z,TO,i1,i2]:=fun c w e hc=>by rw[(hf c (sub c hc)).1] at e;cases e
  have hok:HOk X.K X.prog X.w H h':=fun c w e=>(I.hok c w e).stay (fun c' o hc' e'=>kp c' o (by
   rcases hc' with rfl|hc'
   ·exact tr _ _ e
   ·exact tr _ _ hc') e') (fun _ q=>q) fun _ _ q=>q
  exact I.call' (s':={s with heap:=h'}) (ch:=[z,TO,i1,i2]) rfl un hok I.bare fun c hc=>⟨(hf c (sub c hc)).2.2.2.1,(hf c (sub c hc)).2.1,(hf c (sub c hc)).2.2.2.2.1,(hf c (sub c hc)).2.2.2.2.2⟩
 self:=fun _ _ _ _ _ st h=>wpAny_pyIter_zip st.1 h
def kd:D->Bool
 | .lst _=>true
 | _=>false
theorem a2C {K:PySem.W.Frag}{A:Av}{H:Hp}{d:D}{v:V}{xs:List D}(e:items d=some xs)(h:Den K A H d v):∃a vs,v= .ref a/\SqK (kd d) K H a vs/\DenL K A H xs vs:=by
 cases d with
 | tup zs=>cases e;rw[Den] at h;exact h
 | lst zs=>cases e;obtain⟨a,vs,e,hq,l⟩:=F4 h;exact⟨a,vs,e,hq,l⟩
 | _=>cases e
section
variable {X:Cx}{a b:Expr}{p pos:Pos}{fa:FA}{es:List Expr}{kt:Nat}{pt:Pos}
def iZip (K:PySem.W.Frag) (ta:TA):TI:=fun σ H R=>ta σ H fun vs H1=>∃c1 c2 l1 l2,vs=[.ref l1,.ref l2]/\(∃xs,SqK c1 K H1 l1 xs)/\(∃ys,SqK c2 K H1 l2 ys)/\R (ItzT c1 c2 K l1 l2) H1
theorem b1a {ta:TA}(hg:Gl X "zip")(hm:X.mg "zip"=none)(ha:PA X [a,b] ta)(hs:starEach [a,b] X.env=(false,eval a X.env)::starEach [b] X.env:=by rfl)(hpl:(backTo pos (starEach [b] X.env)).any (·.1)=false:=by rfl)(hbt:bootBuiltins "zip"=some (.type "zip"):=by rfl):
  PI X (.Tuple es kt pt) (.Call (.Name "zip" p) [a,b] [] pos) (iZip X.K ta):=by
 intro pins s σ H R I h;refine Call_ (R3 I hg hm hbt (jV (thn (ha pos pins s σ H _ I h) fun us s1 ⟨vs,H1,I1,r1,q1⟩=>?_) hs hpl) (by decide) (by decide))
 obtain⟨c1,c2,l1,l2,rfl,⟨xs,h1⟩,⟨ys,h2⟩,q⟩:=q1;obtain⟨u1,u2,rfl,ru1,ru2⟩:=vals2 r1;cases ru1;cases ru2;obtain⟨its1,_,p1⟩:=sqk I1 h1;obtain⟨its2,_,p2⟩:=sqk I1 h2;refine a5K p1 p2 fun h' d1 d2 d3 d4 d5 d7=>?_;refine wpAny_pyIter_zip d1 ?_;refine⟨_,[s1.heap.objs.size+4,s1.heap.objs.size+2,s1.heap.objs.size+3,s1.heap.objs.size,s1.heap.objs.size+1],_,_,H1,rfl,I1.kept (t':=s1.toks) fun c o e0=>d7 c o e0,a6m (zipApart_new (a7b p1) (a7b p2)),⟨d1,d2,⟨_,_,d3⟩,d4,d5⟩,fun c hc=>?_,q⟩;have le:s1.heap.objs.size<=c:=by simp only[zN,xG,yY] at hc;rcases hc with h|h|h|h|h<;>(rw[h];first|exact Nat.le_add_right _ _|exact zE _)
 exact I1.fpOk le (I1.hok.fresh le)
def zipD (xs ys:List D):List D:=List.zipWith (fun x y=>.tup [x,y]) xs ys
def enumD (xs:List D):List D:=xs.mapIdx fun(i:Nat) x=>.tup [.int i,x]
def fiZip (fa:FA):FI:=fun ρ=>(fa ρ).bind fun p=>(takeAll p.2 p.1).bind fun q=>match q.1 with
 | [x,y]=>(items x).bind fun xs=>(items y).map fun ys=>(zipD xs ys,q.2)
 | _=>none
def fiEnum (fa:FA):FI:=fun ρ=>(fa ρ).bind fun p=>(takeAll p.2 p.1).bind fun q=>match q.1 with
 | [x]=>(items x).map fun xs=>(enumD xs,q.2)
 | _=>none
theorem b1q (hm:X.mg "zip"=none)(ha:QA X [a,b] fa)(hg:Gl X "zip":=by rfl)(hs:starEach [a,b] X.env=(false,eval a X.env)::starEach [b] X.env:=by rfl)(hpl:(backTo pos (starEach [b] X.env)).any (·.1)=false:=by rfl)(hbt:bootBuiltins "zip"=some (.type "zip"):=by rfl):
  QI X (.Tuple es kt pt) (.Call (.Name "zip" p) [a,b] [] pos) (fiZip fa):=⟨PI.weak (b1a hg hm ha.to hs hpl hbt) fun σ H R h0=>tIe h0 fun P O L ρ xs ρ' r e q=>by
 unfold fiZip at e;obtain⟨⟨ws,ρ1⟩,e1,e⟩:=obs e;dsimp only at e;obtain⟨⟨ds,ρ2⟩,e2,e⟩:=obs e;dsimp only at e;split at e
 ·rename_i x y;cases e3:items x with
  | none=>rw[e3] at e;cases e
  | some xs'=>
   cases e4:items y with
   | none=>rw[e3,e4] at e;cases e
   | some ys'=>
    rw[e3,e4] at e;cases e;refine⟨P,O,L,ρ,ws,ρ1,r,e1,fun vs H1 r1 l1=>?_⟩;obtain⟨r2,l2,_⟩:=r0 r1 e2 l1;obtain⟨v,u,rfl,hv,hu⟩:=denL2 l2;obtain⟨a1,vs1,rfl,s1,m1⟩:=a2C e3 hv;obtain⟨a2,vs2,rfl,s2,m2⟩:=a2C e4 hu;have r3:=(r2.more (p:=(y,.ref a2)) hu).more (p:=(x,.ref a1)) hv;refine⟨kd x,kd y,a1,a2,rfl,⟨vs1,s1⟩,⟨vs2,s2⟩,q _ H1 _ r3 (fun p hp=>zL _ (zL _ hp)) fun Y O' L' ρ' σ' Hh hY rr=>?_⟩;have z1:=rr.prot _ zJ;have z2:=rr.prot _ (zL _ zJ);rw[hY] at z1 z2;obtain⟨b1,ws1,ev1,q1,n1⟩:=a2C e3 z1;obtain⟨b2,ws2,ev2,q2,n2⟩:=a2C e4 z2;cases ev1;cases ev2;refine⟨fun i z ez=>?_,ws1,ws2,q1,q2,?_⟩
    ·unfold zipD at ez;rw[List.getElem?_zipWith] at ez;cases g1:xs'[i]? with
     | none=>rw[g1] at ez;cases ez
     | some x0=>
      cases g2:ys'[i]? with
      | none=>rw[g1,g2] at ez;cases ez
      | some y0=>
       rw[g1,g2] at ez;cases ez;obtain⟨v1,k1,t1⟩:=w5 n1 g1;obtain⟨v2,k2,t2⟩:=w5 n2 g2;refine⟨⟨ws1,ws2,v1,v2,q1,q2,k1,k2⟩,fun w H' ⟨T,x1,y1,ew,hT,eH,f1,f2⟩=>?_⟩;subst ew eH;have g3:=f1 ws1 q1;have g4:=f2 ws2 q2;rw[k1] at g3;cases g3;rw[k2] at g4;cases g4;have sm:=i0 hT (.tup [v1,v2]);refine⟨sm,?_⟩;rw[Den];exact⟨T,[v1,v2],rfl,.inl (.inl j3),j6 (L5 sm t1) (j6 (L5 sm t2) j7)⟩
    ·have k1:=c6 n1;have k2:=c6 n2;unfold zipD;rw[List.length_zipWith,yG,yG];walk_at "o"
 ·cases e⟩
end
section
variable {X:Cx}{a b e e' o:Expr}{pos p p2 p3:Pos}{f h:FX}{t u:FT}{fa:FA}
theorem a39 {acc:Array Value}{n:Nat}(h:ItemsOf (fun i v=>∃t,v= .int (0+(i:Int)*1) t) acc n):Vals (((List.range n).map fun(i:Nat)=>(i:Int)).map V.int) acc.toList:=by
 have key:∀(l:List Value) (k:Nat),(∀i v,l[i]? =some v->∃t,v=Value.int ((k+i:Nat):Int) t)->Vals (((List.range' k l.length).map fun i=>((i:Nat):Int)).map V.int) l:=by
  intro l
  induction l with
  | nil=>intro k _;exact .nil
  | cons v l ih=>
   intro k hv;rw[zV,List.range'_succ,zI,zI];refine .cons ?_ (ih (k+1) fun i u e=>?_)
   ·obtain⟨t,e⟩:=hv 0 v rfl;exact⟨t,e⟩
   ·obtain⟨t,e'⟩:=hv (i+1) u (by simpa using e)
    exact⟨t,by rw[e'];congr 2;walk_at "o"⟩
 have z:=key acc.toList 0 fun i v e=>by
  obtain⟨t,ev⟩:=h.2 i v (by rw[<-qC];exact e)
  exact⟨t,by rw[ev];congr 1;walk_at "o"⟩
 rw[List.range_eq_range'];rw[zW,h.1] at z;exact z
def fListR (fa:FA):FX:=fun ρ=>(fa ρ).bind fun p=>match p.1 with
 | [.v (.int n)]=>if 0<=n/\n<=1000 then some (.o (.lst (rngD 0 n.toNat)),p.2) else none
 | _=>none
theorem a6d (n:Nat):rngD 0 n=((List.range n).map fun(i:Nat)=>(i:Int)).map D.int:=by
 unfold rngD;rw[jA];apply xE;intro i _;simp
theorem a8y (hc:X.calm=true)(hmL:X.mg "list"=none)(hmR:X.mg "range"=none)(ha:QA X [a] fa)(hbL:bootBuiltins "list"=some (.type "list"):=by rfl)(hgL:Gl X "list":=by rfl)(hgR:Gl X "range":=by rfl)
  (h1:starEach [.Call (.Name "range" p2) [a] [] p3] X.env=[(false,eval (.Call (.Name "range" p2) [a] [] p3) X.env)]:=by rfl) (h2:starEach [a] X.env=[(false,eval a X.env)]:=by rfl):
  QX X (.Call (.Name "list" p) [.Call (.Name "range" p2) [a] [] p3] [] pos) (fListR fa):=⟨fun pins s σ H Q I h0=>tXe h0 fun P O L ρ w ρ' rp e q=>by
 unfold fListR at e;obtain⟨⟨ws,ρ1⟩,e1,e⟩:=obs e;dsimp only at e;split at e
 ·rename_i n;split at e
  ·rename_i hn;cases e;refine xV (R3 I hgL hmL hbL ?_ (by decide) (by decide))
   refine jV ?_ h1 rfl;rw[h1];refine Calls.spliced_cons ?_;refine xV (R3 I hgR hmR boot_range ?_ (by decide) (by decide))
   refine jV (zR (ha.to p3 pins s σ H (fun vs H1=>Rep X P O L ρ' σ H1/\vs=[.int n]) I ⟨P,O,L,ρ,_,_,rp,e1,fun vs H1 r1 l1=>⟨r1,?_⟩⟩) (fun us s1 ⟨vs,H1,I1,r1,rp1,l1⟩=>?_) fun _ _ z=>z) h2 rfl
   ·obtain⟨v,rs,rfl,h1,l1⟩:=l1;have l1:rs=[]:=l1;have h1:Den X.K (AvO O ρ' σ) H1 (.int n) v:=h1;subst l1;rw[D9.mp h1]
   subst l1;obtain⟨u,rfl,t,rfl⟩:=vals1 r1;refine call_range_1 (Calls.spliced_nil ?_);have I2:Inv X pins σ H1 {s1 with heap:=s1.heap.push {cls:=.type "range",data:=.fields #[.int 0 s1.toks,.int n t,.int 1 (s1.toks+1)]},toks:=s1.toks+1+1}:=I1.kept fun b o e=>zD _ e
   refine call_list_range (n:=n.toNat) (I.ok.hd hc) (IsRange.new ..) (small_one (by walk_at "o") (by walk_at "o") (by walk_at "o") (by walk_at "o")) (by rw[rangeSize_one];split<;>walk_at "o") (by walk_at "o") fun h' tk acc ep kp hl it=>?_
   have hv:=a39 it;refine⟨.ref _,_,I2.laid (t':=tk) (o:=.lst (((List.range n.toNat).map fun(i:Nat)=>(i:Int)).map V.int)) kp (zE _) ?_,rfl,q _ H1 _ rp1 (i0 (I2.hok.fresh (zE _)) _) (by rw[a6d];exact G4 (I2.hok.fresh (zE _)) (C0 _))⟩
   refine⟨?_,acc.toList,ep,hv,by rw[Array.toArray_toList];exact hl⟩
   rw[zH,zH,length_range,qR];walk_at "o"
  ·cases e
 ·cases e⟩
def fCnt (f:FX) (fa:FA):FX:=fun ρ=>(f ρ).bind fun p=>(dr p.2 p.1.fz).bind fun d=>match d with
 | .tup _=>(fa p.2).bind fun q=>(dr q.2 p.1.fz).bind fun y=>match y,q.1 with
  | .tup xs,[.v (.int i)]=>(intsOf xs).map fun ns=>(.v (.int (ns.count i:Nat)),q.2)
  | _,_=>none
 | _=>none
def fDNew:FX:=fun ρ=>some (.o (.dK [] []),ρ)
def fDNewT:FX:=fun ρ=>some (.o (.dT [] []),ρ)
theorem a8X:QX X (.Dict [] [] pos) fDNew:=⟨PE.weak a7d fun σ H Q h0=>tXe h0 fun P O L ρ w ρ' r e q=>by
 cases e
 exact fun p hp=>q _ H _ r (i0 hp _) ⟨p,rfl,hp,[],j3,rfl,j7⟩⟩
theorem a73:QX X (.Dict [] [] pos) fDNewT:=⟨PE.weak a7f fun σ H Q h0=>tXe h0 fun P O L ρ w ρ' r e q=>by
 cases e
 exact fun p hp=>q _ H _ r (i0 hp _) ⟨p,rfl,hp,[],j3,rfl,j7⟩⟩
end
section
variable {f g:FX}{t:FT}{fa:FA}{ρ ρ1 ρ2:Ev}{w z:W}{ws:List W}{d e x y:D}{xs ys:List D}{i k:Nat}{m n:Int}{b:Bool}
theorem it_t:items (.tup xs)=some xs:=rfl
theorem it_l:items (.lst xs)=some xs:=rfl
def iz2:Option (List W×Ev)->Option (List D×Ev)
 | some p=>(takeAll p.2 p.1).bind fun q=>match q.1 with
  | [x,y]=>(items x).bind fun xs=>(items y).map fun ys=>(zipD xs ys,q.2)
  | _=>none
 | none=>none
def iz3:Option (List D×Ev)->Option (List D×Ev)
 | some q=>match q.1 with
  | [x,y]=>(items x).bind fun xs=>(items y).map fun ys=>(zipD xs ys,q.2)
  | _=>none
 | none=>none
def iz4 (ρ:Ev):Option (List D)->Option (List D)->Option (List D×Ev)
 | some xs,some ys=>some (zipD xs ys,ρ)
 | _,_=>none
theorem r_iz:fiZip fa ρ=iz2 (fa ρ):=by unfold fiZip iz2;cases fa ρ<;>rfl
theorem b0g:iz2 (some (ws,ρ))=iz3 (takeAll ρ ws):=by unfold iz2 iz3;dsimp only;cases takeAll ρ ws<;>rfl
theorem b0E:iz3 (some ([x,y],ρ))=iz4 ρ (items x) (items y):=by unfold iz3 iz4;dsimp only;cases items x<;>cases items y<;>rfl
theorem b0S:iz4 ρ (some xs) (some ys)=some (zipD xs ys,ρ):=rfl
def ie2:Option (List W×Ev)->Option (List D×Ev)
 | some p=>(takeAll p.2 p.1).bind fun q=>match q.1 with
  | [x]=>(items x).map fun xs=>(enumD xs,q.2)
  | _=>none
 | none=>none
def ie3:Option (List D×Ev)->Option (List D×Ev)
 | some q=>match q.1 with
  | [x]=>(items x).map fun xs=>(enumD xs,q.2)
  | _=>none
 | none=>none
theorem r_ie:fiEnum fa ρ=ie2 (fa ρ):=by unfold fiEnum ie2;cases fa ρ<;>rfl
theorem r_ie2:ie2 (some (ws,ρ))=ie3 (takeAll ρ ws):=by unfold ie2 ie3;dsimp only;cases takeAll ρ ws<;>rfl
theorem r_ie3_t:ie3 (some ([.tup xs],ρ))=some (enumD xs,ρ):=rfl
theorem r_ie3_l:ie3 (some ([.lst xs],ρ))=some (enumD xs,ρ):=rfl
def jr1:Option (List W×Ev)->Option (List D×Ev)
 | some p=>match p.1 with
  | [.v (.int n)]=>if -(2^62)<=n/\n<2^62 then some (rngD 0 n.toNat,p.2) else none
  | _=>none
 | none=>none
def jr2:Option (List W×Ev)->Option (List D×Ev)
 | some p=>match p.1 with
  | [.v (.int m),.v (.int n)]=>if(-(2^62)<=m/\m<2^62)/\-(2^62)<=n/\n<2^62 then some (rngD m (n-m).toNat,p.2) else none
  | _=>none
 | none=>none
def lr2:Option (List W×Ev)->Option (W×Ev)
 | some p=>match p.1 with
  | [.v (.int n)]=>if 0<=n/\n<=1000 then some (.o (.lst (rngD 0 n.toNat)),p.2) else none
  | _=>none
 | none=>none
theorem r_r1:fiR1 fa ρ=jr1 (fa ρ):=by unfold fiR1 jr1;cases fa ρ<;>rfl
theorem b0I:jr1 (some ([.v (.int n)],ρ))=if -(2^62)<=n/\n<2^62 then some (rngD 0 n.toNat,ρ) else none:=rfl
theorem r_r2:fiR2 fa ρ=jr2 (fa ρ):=by unfold fiR2 jr2;cases fa ρ<;>rfl
theorem r_r2s:jr2 (some ([.v (.int m),.v (.int n)],ρ))=if(-(2^62)<=m/\m<2^62)/\-(2^62)<=n/\n<2^62 then some (rngD m (n-m).toNat,ρ) else none:=rfl
theorem r_lr:fListR fa ρ=lr2 (fa ρ):=by unfold fListR lr2;cases fa ρ<;>rfl
theorem b0C:lr2 (some ([.v (.int n)],ρ))=if 0<=n/\n<=1000 then some (.o (.lst (rngD 0 n.toNat)),ρ) else none:=rfl
def cn2 (fa:FA):Option (W×Ev)->Option (W×Ev)
 | some p=>(dr p.2 p.1.fz).bind fun d=>match d with
  | .tup _=>(fa p.2).bind fun q=>(dr q.2 p.1.fz).bind fun y=>match y,q.1 with
   | .tup xs,[.v (.int i)]=>(intsOf xs).map fun ns=>(.v (.int (ns.count i:Nat)),q.2)
   | _,_=>none
  | _=>none
 | none=>none
def cn3 (fa:FA) (w:W) (ρ:Ev):Option D->Option (W×Ev)
 | some (.tup _)=>(fa ρ).bind fun q=>(dr q.2 w.fz).bind fun y=>match y,q.1 with
   | .tup xs,[.v (.int i)]=>(intsOf xs).map fun ns=>(.v (.int (ns.count i:Nat)),q.2)
   | _,_=>none
 | _=>none
def cn4 (w:W):Option (List W×Ev)->Option (W×Ev)
 | some q=>(dr q.2 w.fz).bind fun y=>match y,q.1 with
   | .tup xs,[.v (.int i)]=>(intsOf xs).map fun ns=>(.v (.int (ns.count i:Nat)),q.2)
   | _,_=>none
 | _=>none
def cn5 (ws:List W) (ρ:Ev):Option D->Option (W×Ev)
 | some y=>match y,ws with
   | .tup xs,[.v (.int i)]=>(intsOf xs).map fun ns=>(.v (.int (ns.count i:Nat)),ρ)
   | _,_=>none
 | _=>none
theorem r_cn:fCnt f fa ρ=cn2 fa (f ρ):=by unfold fCnt cn2;cases f ρ<;>rfl
theorem r_cn2:cn2 fa (some (w,ρ))=cn3 fa w ρ (dr ρ w.fz):=by
 unfold cn2 cn3;dsimp only;cases dr ρ w.fz with
 | none=>rfl
 | some d=>cases d<;>rfl
theorem r_cn3:cn3 fa w ρ (some (.tup xs))=cn4 w (fa ρ):=by unfold cn3 cn4;cases fa ρ<;>rfl
theorem r_cn4:cn4 w (some (ws,ρ))=cn5 ws ρ (dr ρ w.fz):=by unfold cn4 cn5;dsimp only;cases dr ρ w.fz<;>rfl
theorem a8n:fDNew ρ=some (.o (.dK [] []),ρ):=rfl
def ch2 (o o':D->D->Option W) (g h:FX):Option (W×Ev)->Option (W×Ev)
 | some p=>fChain o o' (fun _=>some p) g h p.2
 | none=>none
def ch3 (o o':D->D->Option W) (w:W) (h:FX):Option (W×Ev)->Option (W×Ev)
 | some q=>(dr q.2 w.fz).bind fun x=>(dr q.2 q.1.fz).bind fun y=>(o x y).bind fun d=>match d with
  | .v (.bl k)=>if k=true then(h q.2).bind fun z=>(dr z.2 q.1.fz).bind fun y=>(dr z.2 z.1.fz).bind fun z'=>(o' y z').map fun w=>(w,z.2) else some (.v (.bl false),q.2)
  | _=>none
 | none=>none
def ch4 (o o':D->D->Option W) (h:FX) (w:W) (ρ:Ev):Option D->Option D->Option (W×Ev)
 | some x,some y=>(o x y).bind fun d=>match d with
  | .v (.bl k)=>if k=true then(h ρ).bind fun z=>(dr z.2 w.fz).bind fun y=>(dr z.2 z.1.fz).bind fun z'=>(o' y z').map fun w=>(w,z.2) else some (.v (.bl false),ρ)
  | _=>none
 | _,_=>none
def ch5 (o':D->D->Option W) (h:FX) (w:W) (ρ:Ev):Option W->Option (W×Ev)
 | some (.v (.bl k))=>if k=true then bin3 o' w (h ρ) else some (.v (.bl false),ρ)
 | _=>none
theorem r_ch {o o':D->D->Option W}{h:FX}:fChain o o' f g h ρ=ch2 o o' g h (f ρ):=by unfold ch2;cases e:f ρ with
 | none=>unfold fChain;rw[e];rfl
 | some p=>unfold fChain;rw[e]
theorem b0U {o o':D->D->Option W}{h:FX}:ch2 o o' g h (some (w,ρ))=ch3 o o' w h (g ρ):=by unfold ch2 ch3 fChain;dsimp only[bind_some];cases g ρ<;>rfl
theorem b0Z {o o':D->D->Option W}{h:FX}:ch3 o o' w h (some (z,ρ))=ch4 o o' h z ρ (dr ρ w.fz) (dr ρ z.fz):=by
 unfold ch3 ch4;dsimp only;cases dr ρ w.fz<;>cases dr ρ z.fz<;>rfl
theorem b0B {o o':D->D->Option W}{h:FX}:ch4 o o' h w ρ (some x) (some y)=ch5 o' h w ρ (o x y):=by
 unfold ch4 ch5 bin3;dsimp only;cases o x y with
 | none=>rfl
 | some d=>
  dsimp only[bind_some];cases d with
  | v d=>cases d with
   | bl k=>cases h ρ<;>rfl
   | _=>rfl
  | _=>rfl
theorem a5k {o':D->D->Option W}{h:FX}:ch5 o' h w ρ (some (.v (.bl true)))=bin3 o' w (h ρ):=rfl
theorem a5g {o':D->D->Option W}{h:FX}:ch5 o' h w ρ (some (.v (.bl false)))=some (.v (.bl false),ρ):=rfl
def tc2 (k:Nat) (t:FT) (fe:FX):Option Ev->Option Ev
 | some ρ1=>(t ρ1).bind fun p=>if p.1=true then(fe p.2).bind (appTo k) else some p.2
 | none=>none
def tc3 (k:Nat) (fe:FX):Option (Bool×Ev)->Option Ev
 | some p=>if p.1=true then(fe p.2).bind (appTo k) else some p.2
 | none=>none
def tc4 (k:Nat):Option (W×Ev)->Option Ev
 | some p=>appTo k p
 | none=>none
def ap2 (k:Nat):Option (List D×Ev)->Option Ev
 | some q=>match q.1,ownAt q.2 k with
  | [d],some (.lst zs)=>if zs.length<lim then some (setOwn q.2 k (.lst (zs++[d]))) else none
  | _,_=>none
 | none=>none
def ap3 (k:Nat) (d:D) (ρ:Ev):Option D->Option Ev
 | some (.lst zs)=>if zs.length<lim then some (setOwn ρ k (.lst (zs++[d]))) else none
 | _=>none
theorem r_tc {gf:FG}{fe:FX}:turnC k gf t fe d ρ=tc2 k t fe (gf d ρ):=by unfold turnC tc2;cases gf d ρ<;>rfl
theorem r_tc2 {fe:FX}:tc2 k t fe (some ρ)=tc3 k fe (t ρ):=by unfold tc2 tc3;dsimp only;cases t ρ<;>rfl
theorem r_tc3_t {fe:FX}:tc3 k fe (some (true,ρ))=tc4 k (fe ρ):=by unfold tc3 tc4;simp only[qW];cases fe ρ<;>rfl
theorem r_tc3_f {fe:FX}:tc3 k fe (some (false,ρ))=some ρ:=rfl
theorem r_tc4:tc4 k (some (w,ρ))=ap2 k (takeAll ρ [w.fz]):=by
 unfold tc4 appTo ap2;dsimp only;cases takeAll ρ [w.fz]<;>rfl
theorem r_ap2:ap2 k (some ([d],ρ))=ap3 k d ρ (ownAt ρ k):=by
 unfold ap2 ap3;dsimp only;cases ownAt ρ k with
 | none=>rfl
 | some x=>cases x<;>rfl
theorem r_ap3:ap3 k d ρ (some (.lst xs))=if xs.length<lim then some (setOwn ρ k (.lst (xs++[d]))) else none:=rfl
theorem a1w {C:Prop}{b:D->FS}{r:Option R}(e:loopF b xs ρ=r)(I:List D->Ev->Prop)(h0:I [] ρ)(st:∀d x ρ,x∈xs->d.length<xs.length->I d ρ->∃ρ',b x ρ=some (.nx ρ')/\I (d++[x]) ρ')(c:∀ρ',r=some (.nx ρ')->I xs ρ'->C):C:=by
 have key:∀(ys done:List D) (ρ:Ev),(∀y∈ys,y∈xs)->done.length+ys.length=xs.length->I done ρ->∃ρ',loopF b ys ρ=some (.nx ρ')/\I (done++ys) ρ':=by
  intro ys
  induction ys with
  | nil=>intro done ρ _ _ h;exact⟨ρ,rfl,by rw[yT];exact h⟩
  | cons y ys ih=>
   intro done ρ hm hl h;rw[zV] at hl;obtain⟨ρ1,e1,i1⟩:=st done y ρ (hm y zJ) (by walk_at "o") h
   obtain⟨ρ2,e2,i2⟩:=ih (done++[y]) ρ1 (fun a ha=>hm a (zL _ ha)) (by rw[qK,length_singleton];walk_at "o") i1
   exact⟨ρ2,by rw[loopF,e1];exact e2,by rw[List.append_assoc] at i2;exact i2⟩
 obtain⟨ρ',e',i⟩:=key xs [] ρ (fun _ h=>h) (by simp) h0
 exact c ρ' (e.symm.trans e') (by simpa using i)
theorem l0 (ns:List Int):lfL (ns.map D.int)=true:=by
 induction ns with
 | nil=>rfl
 | cons n ns ih=>rw[zI,lfL,ih];rfl
theorem T6 (m:Int)(n:Nat):(rngD m n).length=n:=by unfold rngD;simp
theorem a2D {m:Int}{n:Nat}(h:x∈rngD m n):∃i:Int,x= .int i/\m<=i/\i<m+n:=by
 unfold rngD at h;obtain⟨i,hi,rfl⟩:=qG.mp h;rw[xB] at hi;exact⟨_,rfl,by walk_at "o",by walk_at "o"⟩
theorem T1 (h:0<n)(h2:n.natAbs<2^64):dOk n:=⟨h,zF h2 (jK (by decide) (by decide))⟩
end
theorem a3c {o:Option D}:freeO (o.map W.v)=true:=by cases o<;>rfl
def isI:D->Bool
 | .int _=>true
 | .bl _=>true
 | _=>false
def isB:D->Bool
 | .bl _=>true
 | _=>false
def isT:D->Bool
 | .tup _=>true
 | _=>false
def isL:D->Bool
 | .lst _=>true
 | _=>false
def whole:D->Bool
 | .int _=>true
 | _=>false
theorem b15 {d:D}(h:isX d=false):oIsi "int" d=some (.v (.bl (isI d))):=by cases d<;>first|rfl|cases h
theorem a9E {d:D}(h:isX d=false):oIsi "bool" d=some (.v (.bl (isB d))):=by cases d<;>first|rfl|cases h
theorem a0s {d:D}(h:isX d=false):oIsi "tuple" d=some (.v (.bl (isT d))):=by cases d<;>first|rfl|cases h
theorem a9W {d:D}(h:isX d=false):oIsi "list" d=some (.v (.bl (isL d))):=by cases d<;>first|rfl|cases h
def rise:List Int->Bool
 | a::b::r=>decide (a<b)&&rise (b::r)
 | _=>true
def lt2:D->Bool
 | .tup [.int a,.int b]=>decide (a<b)
 | _=>false
theorem sIx1 (n:Nat):HT.sIx n 0 (some 1)=min 1 n:=by
 unfold HT.sIx;simp
theorem a7G (xs:List D):cutD xs (some 1) none=xs.drop 1:=by
 unfold cutD;rw[sIx1];cases xs with
 | nil=>rfl
 | cons x xs=>
  rw[zV,show min 1 (xs.length+1)=1 by walk_at "o"]
  simp[HT.sIx]
theorem a4b {r:List Bool->Bool}{xs:List D}{bs:List Bool}(h:boolsOf xs=some bs):gBools r (.lst xs)=some (.v (.bl (r bs))):=by unfold gBools;simp only[h,jZ]
theorem a3L (f:D->Bool)(xs:List D):lfL (xs.map fun d=>D.bl (f d))=true:=by
 induction xs with
 | nil=>rfl
 | cons n ns ih=>rw[zI,lfL,ih];rfl
theorem L6 (f:D->Bool)(xs:List D):boolsOf (xs.map fun d=>D.bl (f d))=some (xs.map f):=by
 have:(xs.map fun d=>D.bl (f d))=(xs.map f).map D.bl:=by rw[jA];rfl
 rw[this,a0a]
theorem S5 {α:Type}(f:α->Bool)(xs:List α):(xs.map f).all id=xs.all f:=by rw[List.all_map];rfl
def pers (n:Int):D->Bool
 | .int i=>decide (0<=i)&&decide (i<n)
 | _=>false
theorem a3a {ns:List Int}{x:D}(h:x∈ns.map D.int):∃i∈ns,x= .int i:=by
 obtain⟨i,hi,rfl⟩:=qG.mp h;exact⟨i,hi,rfl⟩
theorem a9A (xs ys:List D):(zipD xs ys).length=min xs.length ys.length:=by unfold zipD;simp
theorem b07 {xs:List D}{i:Int}{d:D}(h:0<=i)(e:xs[i.toNat]? =some d):atI xs i=some d:=by
 have:=t7 (j:=i.toNat) e
 rwa [show((i.toNat:Nat):Int)=i by walk_at "o"] at this
theorem Q1 {ns:List Int}{i:Int}(h:0<=i)(l:i<ns.length):atI (ns.map D.int) i=some (.int (ns.getD i.toNat 0)):=by
 refine b07 h ?_;rw[qH,qL,qT (by walk_at "o")]
 rfl
theorem V6:∀{xs:List D},(∀x∈xs,lf x=true)->lfL xs=true
 | [],_=>rfl
 | x::xs,h=>by rw[lfL,h x zJ,V6 fun y hy=>h y (zL _ hy)];rfl
section
variable {d:D}{ds:List D}{x0:D}{x1:D}{x2:D}{x3:D}{x4:D}{x5:D}{x6:D}{x7:D}{x8:D}{x9:D}{x10:D}{x11:D}{x12:D}
theorem a_3:atI (x0::x1::x2::d::ds) 3=some d:=t7 (j:=3) rfl
theorem a_4:atI (x0::x1::x2::x3::d::ds) 4=some d:=t7 (j:=4) rfl
theorem a_5:atI (x0::x1::x2::x3::x4::d::ds) 5=some d:=t7 (j:=5) rfl
theorem a_6:atI (x0::x1::x2::x3::x4::x5::d::ds) 6=some d:=t7 (j:=6) rfl
theorem a_7:atI (x0::x1::x2::x3::x4::x5::x6::d::ds) 7=some d:=t7 (j:=7) rfl
theorem a_8:atI (x0::x1::x2::x3::x4::x5::x6::x7::d::ds) 8=some d:=t7 (j:=8) rfl
theorem a_9:atI (x0::x1::x2::x3::x4::x5::x6::x7::x8::d::ds) 9=some d:=t7 (j:=9) rfl
theorem a_10:atI (x0::x1::x2::x3::x4::x5::x6::x7::x8::x9::d::ds) 10=some d:=t7 (j:=10) rfl
theorem a_11:atI (x0::x1::x2::x3::x4::x5::x6::x7::x8::x9::x10::d::ds) 11=some d:=t7 (j:=11) rfl
theorem a_12:atI (x0::x1::x2::x3::x4::x5::x6::x7::x8::x9::x10::x11::d::ds) 12=some d:=t7 (j:=12) rfl
theorem a_13:atI (x0::x1::x2::x3::x4::x5::x6::x7::x8::x9::x10::x11::x12::d::ds) 13=some d:=t7 (j:=13) rfl
theorem ix_0 {n:Nat}:ixN (n+1) 0=some 0:=by unfold ixN;rw[if_pos (Int.le_refl _),if_pos (by walk_at "o")];rfl
end
def dkey:D->Option Key
 | .int i=>some (Sum.inl i)
 | .str x=>some (Sum.inr x)
 | _=>none
def dkeys:List D->Option (List Key)
 | []=>some []
 | d::ds=>(dkey d).bind fun k=>(dkeys ds).map fun ks=>k::ks
def tkey:D->Option (List Key)
 | .tup ds=>dkeys ds
 | _=>none
def look {κ:Type} [DecidableEq κ]:List κ->List D->κ->Option D
 | k'::ks,x::xs,k=>if k'=k then some x else look ks xs k
 | _,_,_=>none
def putKs {κ:Type} [DecidableEq κ] (ks:List κ) (k:κ):List κ:=if k∈ks then ks else ks++[k]
def putX {κ α:Type} [DecidableEq κ] (ks:List κ) (xs:List α) (k:κ) (d:α):List α:=if k∈ks then List.zipWith (fun k' x=>if k'=k then d else x) ks xs else xs++[d]
theorem a21 {K:PySem.W.Frag}{A:Av}{H:Hp}{d:D}{k:Key}{v:V}(e:dkey d=some k)(h:DenR K A H d v):v=kV k:=by
 cases d with
 | int i=>cases e;exact j9 h
 | str x=>cases e;exact a0A h
 | _=>cases e
theorem Y4 {K:PySem.W.Frag}{A:Av}{H:Hp}:∀{ds:List D} {ks:List Key} {vs:List V},dkeys ds=some ks->DenL K A H ds vs->vs=ks.map kV
 | [],ks,vs,e,l=>by cases e;rw[DenL] at l;rw[l];rfl
 | d::ds,ks,vs,e,l=>by
  rw[DenL] at l;obtain⟨v,r,rfl,h,l⟩:=l;rw[dkeys] at e;cases e1:dkey d with
  | none=>rw[e1] at e;cases e
  | some k=>
   cases e2:dkeys ds with
   | none=>rw[e1,e2] at e;cases e
   | some js=>
    rw[e1,e2] at e;cases e;rw[zI,<-a21 e1 (F4 h),<-Y4 e2 l]
theorem a6A {K:PySem.W.Frag}{A:Av}{H:Hp}{d:D}{k:List Key}{v:V}(e:tkey d=some k)(h:DenR K A H d v):∃b,v= .ref b/\SqT K H b (k.map kV):=by
 cases d with
 | tup ds=>
  obtain⟨b,vs,ev,hq,l⟩:=A3 h;rw[Y4 e l] at hq;exact⟨b,ev,hq⟩
 | _=>cases e
theorem a0C {κ:Type} [DecidableEq κ] {K:PySem.W.Frag}{A:Av}{H:Hp}:∀{ks:List κ} {xs:List D} {vs:List V} {k:κ} {x:D},DenL K A H xs vs->look ks xs k=some x->∃v,valV (ks.zip vs) k=some v/\Den K A H x v
 | [],_,_,_,_,_,e=>by simp[look] at e
 | _::_,[],_,_,_,_,e=>by simp[look] at e
 | k'::ks,x0::xs,vs,k,x,l,e=>by
  rw[DenL] at l;obtain⟨v,r,rfl,h,l⟩:=l;simp only[look] at e;rw[jS];split at e
  ·rename_i q;cases e;exact⟨v,U2 (by simpa using q),h⟩
  ·rename_i q;rw[M6 (by simpa using q)]
   exact a0C l e
theorem Y3 {κ:Type} [DecidableEq κ] {K:PySem.W.Frag}{A:Av}{H:Hp}:∀{ks:List κ} {xs:List D} {vs:List V} {k:κ},DenL K A H xs vs->ks.length=xs.length->look ks xs k=none->valV (ks.zip vs) k=none
 | [],_,_,_,_,_,_=>by simp[valV]
 | _::_,[],_,_,_,hl,_=>by simp at hl
 | k'::ks,x0::xs,vs,k,l,hl,e=>by
  rw[DenL] at l;obtain⟨v,r,rfl,h,l⟩:=l;simp only[look] at e;rw[jS];split at e
  ·cases e
  ·rename_i q;rw[M6 (by simpa using q)]
   exact Y3 l (by simpa using hl) e
theorem a4C {κ:Type} [DecidableEq κ]:∀{ks:List κ} {vs:List V} {k:κ},ks.length=vs.length->((ks.zip vs).any fun kv=>decide (kv.1=k))=decide (k∈ks)
 | [],_,_,_=>by simp
 | _::_,[],_,hl=>by simp at hl
 | k'::ks,v::vs,k,hl=>by
  rw[jS,any_cons,a4C (by simpa using hl)]
  by_cases q:k'=k
  ·simp[q]
  ·have q2:¬k=k':=fun z=>q z.symm;simp[q,q2]
theorem a9K {κ:Type} [DecidableEq κ] {ks:List κ}{vs:List V}{k:κ}{v:V}(hl:ks.length=vs.length):putK (ks.zip vs) k v=(putKs ks k).zip (putX ks vs k v):=by
 unfold putK putKs putX;rw[a4C hl]
 by_cases q:k∈ks
 ·rw[if_pos (by simpa using q),if_pos q,if_pos q]
  clear q
  induction ks generalizing vs with
  | nil=>simp
  | cons k' ks ih=>
   cases vs with
   | nil=>simp at hl
   | cons w vs=>
    have ih':=ih (vs:=vs) (by simpa using hl)
    rw[jS,zI,vD,jS,ih']
    by_cases q:k'=k
    ·simp[q]
    ·simp[q]
 ·rw[if_neg (by simpa using q),if_neg q,if_neg q,List.zip_append hl]
  rfl
theorem a3E {κ α:Type} [DecidableEq κ] {ks:List κ}{xs:List α}{k:κ}{d:α}(hl:ks.length=xs.length):(putKs ks k).length=(putX ks xs k d).length:=by
 unfold putKs putX
 split
 ·rw[List.length_zipWith,hl];simp
 ·simp[hl]
theorem a7M {κ:Type} [DecidableEq κ] {K:PySem.W.Frag}{A:Av}{H:Hp}{ks:List κ}{xs:List D}{vs:List V}{k:κ}{d:D}{v:V}(l:DenL K A H xs vs)(h:Den K A H d v):DenL K A H (putX ks xs k d) (putX ks vs k v):=by
 unfold putX
 split
 ·rename_i q;clear q
  induction ks generalizing xs vs with
  | nil=>simp;exact j7
  | cons k' ks ih=>
   cases xs with
   | nil=>rw[DenL] at l;subst l;simp;exact j7
   | cons x xs=>
    rw[DenL] at l;obtain⟨u,r,rfl,hx,l⟩:=l;rw[vD,vD];refine j6 ?_ (ih l)
    split
    ·exact h
    ·exact hx
 ·exact v4 l (j6 h j7)
section
variable {X:Cx}{a b c e o:Expr}{es:List Expr}{pos p:Pos}{f g h:FX}{t u:FT}{fa:FA}{x:Str}
theorem a2t {pins:List (Addr×PySem.Obj)}{σ:L2.St}{H:Hp}{s:Shared}{b:Addr}{ks:List Key}(I:Inv X pins σ H s)(q:SqT X.K H b (ks.map kV)):(tupleKind (mixKind X.prog X.w)).is s.heap ks b:=by
 obtain⟨its,r,⟨o,h1,h2,n,h3⟩,_⟩:=I.tuple q;exact⟨o,its.toArray,n,h1,h2,h3,by simpa using O9 r⟩
def DGe (K:PySem.W.Frag) (H:Hp) (a:Addr) (y:V) (r:Option V):Prop:=
 (∃kvs k,H a=some (.dK kvs)/\y=kV k/\r=valV kvs k)\/∃kvs k b,H a=some (.dT kvs)/\y= .ref b/\SqT K H b (k.map kV)/\r=valV kvs k
def lookG (x y:D):Option (Option D):=match x with
 | .dT ks xs=>(tkey y).map fun k=>look ks xs k
 | .dK ks xs=>(dkey y).map fun k=>look ks xs k
 | _=>none
def LkOk (K:PySem.W.Frag) (A:Av) (H:Hp):Option D->Option V->Prop
 | some d,w=>∃z,w=some z/\Den K A H d z
 | none,w=>w=none
theorem a1A {A:Av}{H:Hp}{x y:D}{r:Option D}{v u:V}(e:lookG x y=some r)(hx:DenR X.K A H x v)(hy:DenR X.K A H y u):∃a w,v= .ref a/\DGe X.K H a u w/\LkOk X.K A H r w:=by
 cases x with
 | dT ks xs=>
  simp only[lookG] at e;cases e1:tkey y with
  | none=>rw[e1] at e;cases e
  | some k=>
   rw[e1] at e;obtain⟨b,rfl,hb⟩:=a6A e1 hy;obtain⟨a,vs,rfl,ha,hl,l⟩:=hx;refine⟨a,_,rfl,.inr ⟨_,k,b,ha,rfl,hb,rfl⟩,?_⟩;cases(show look ks xs k=r from jC e);cases e2:look ks xs k with
   | none=>exact Y3 l hl e2
   | some d=>exact a0C l e2
 | dK ks xs=>
  simp only[lookG] at e;cases e1:dkey y with
  | none=>rw[e1] at e;cases e
  | some k=>
   rw[e1] at e;obtain⟨a,vs,rfl,ha,hl,l⟩:=hx;refine⟨a,_,rfl,.inl ⟨_,k,ha,a21 e1 hy,rfl⟩,?_⟩;cases(show look ks xs k=r from jC e);cases e2:look ks xs k with
   | none=>exact Y3 l hl e2
   | some d=>exact a0C l e2
 | _=>cases e
def rIxD (K:PySem.W.Frag):R2:=fun x y H Q=>∃a v,x= .ref a/\DGe K H a y (some v)/\Q v H
theorem a88 {k:Nat}(hr:Room k X.A):IxR X (rIxD X.K):=by
 intro value slice pins s σ H x y v u Q I rx ry h hs;obtain⟨a,z,rfl,hg,q⟩:=h;cases rx;rcases hg with ⟨kvs,k,ha,rfl,hv⟩|⟨kvs,k,b,ha,rfl,hq,hv⟩
 ·obtain⟨_,hd,vs,rel,dd⟩:=a70 I.hok ha;obtain⟨w',hw,rw'⟩:=RelO.some_of (v:=z) (o:=valueAt vs k) (by rw[hv];exact rel.val k)
  refine yW (x:=w') dd.typeIs PySem.F.slot_dict_getitem.lookup ?_ hs;exact wpAny_getItem_of (a3y ry) dd.mapOf hw ⟨rfl,z,H,I.tok _,rw',q⟩
 ·cases(show u=Value.ref b from ry);obtain⟨_,hd,xs,rel,dd⟩:=a7i I.kIn I.hok ha;obtain⟨w',hw,rw'⟩:=RelO.some_of (v:=z) (o:=(atKey xs k).map (·.2)) (by rw[hv];exact rel.val k)
  obtain⟨p,hp,hp2⟩:=Option.map_eq_some_iff.mp hw;refine yW (x:=w') dd.typeIs PySem.F.slot_dict_getitem.lookup ?_ hs;refine wpAny_getItem_heap (tupleKind_room_in1 (a4Y hr)) (a2t I hq) dd hp ?_;rw[hp2];exact⟨rfl,z,H,I.tok _,rw',q⟩
def isDi:D->Bool
 | .dT _ _=>true
 | .dK _ _=>true
 | _=>false
def oIxG (x y:D):Option W:=if isDi x=true then(lookG x y).bind fun r=>r.map .v else oIx x y
theorem k7 {k:Nat}(hr:Room k X.A)(ha:QX X a f)(hb:QX X b g)(hs:PlainIx b:=by intro _ _;rfl):QX X (.Subscript a b pos) (fBin oIxG f g):=⟨PE.weak (pe_ix (b1x.or (a88 hr)) ha.to hb.to hs) (V5 (by
 intro A x y w v u H Q hA e hx hy q;unfold oIxG at e;split at e
 ·obtain⟨r,e1,e⟩:=obs e;obtain⟨a,w',rfl,hg,hm⟩:=a1A e1 hx hy;cases r with
  | none=>cases e
  | some d=>
   cases e;obtain⟨z,rfl,dz⟩:=hm;exact .inr ⟨a,z,rfl,hg,q z H (Same.refl H) dz⟩
 ·exact .inl (k_ix A x y w v u H Q hA e hx hy q)))⟩
def rInD (K:PySem.W.Frag) (neg:Bool):R2:=fun y x H Q=>∃a r,x= .ref a/\DGe K H a y r/\Q (.bl (if neg then !r.isSome else r.isSome)) H
theorem b09 {k:Nat}(hr:Room k X.A):OpR X (compareOp .In) (rInD X.K false):=by
 intro pins s σ H y x u v Q I ry rx h;obtain⟨a,r,rfl,hg,q⟩:=h;cases rx;rcases hg with ⟨kvs,k,e,rfl,rfl⟩|⟨kvs,k,b,e,rfl,hq,rfl⟩
 ·obtain⟨_,hd,vs,rel,dd⟩:=a70 I.hok e;refine wpAny_in_of (a3y ry) hd dd.mapOf ?_;rw[<-(rel.val k).isSome_eq];exact⟨.bl _,H,I.tok _,rfl,q⟩
 ·cases(show u=Value.ref b from ry);obtain⟨_,hd,xs,rel,dd⟩:=a7i I.kIn I.hok e;refine wpAny_in_heap (tupleKind_room_in1 (a4Y hr)) (a2t I hq) hd dd ?_;have z:=(rel.val k).isSome_eq;rw[isSome_map] at z;rw[<-z];exact⟨.bl _,H,I.tok _,rfl,q⟩
theorem a6q {k:Nat}(hr:Room k X.A):OpR X (compareOp .NotIn) (rInD X.K true):=by
 intro pins s σ H y x u v Q I ry rx h;obtain⟨a,r,rfl,hg,q⟩:=h;cases rx;rcases hg with ⟨kvs,k,e,rfl,rfl⟩|⟨kvs,k,b,e,rfl,hq,rfl⟩
 ·obtain⟨_,hd,vs,rel,dd⟩:=a70 I.hok e;refine wpAny_notIn_of (a3y ry) hd dd.mapOf ?_;rw[<-(rel.val k).isSome_eq];exact⟨.bl _,H,I.tok _,rfl,q⟩
 ·cases(show u=Value.ref b from ry);obtain⟨_,hd,xs,rel,dd⟩:=a7i I.kIn I.hok e;refine wpAny_notIn_heap (tupleKind_room_in1 (a4Y hr)) (a2t I hq) hd dd ?_;have z:=(rel.val k).isSome_eq;rw[isSome_map] at z;rw[<-z];exact⟨.bl _,H,I.tok _,rfl,q⟩
def intV:Value->Int
 | .int i _=>i
 | _=>0
def readI (h:Heap):Value->Option (List Int)
 | .ref a=>match h.get? a with
  | some o=>match o.data with
   | .seq its _=>some (its.toList.map intV)
   | _=>none
  | none=>none
 | _=>none
theorem a16:∀{k:List Int} {its:List Value},Vals (k.map V.int) its->its.map intV=k
 | [],_,r=>by cases r;rfl
 | i::k,_,r=>by
  cases r with
  | cons r1 r2=>
   obtain⟨t,rfl⟩:=r1;rw[zI,a16 r2];rfl
theorem a1E {m:Nat}:∀(a b:List Int),deqL (deq m) (a.map D.int) (b.map D.int)=some (decide (a=b))
 | [],[]=>rfl
 | [],_::_=>rfl
 | _::_,[]=>rfl
 | x::a,y::b=>by
  have ih:=a1E (m:=m) a b;have e:deq m (.int x) (.int y)=some (x==y):=by cases m<;>rfl
  simp only[zI,deqL,e,ih,bind_some,jZ];congr 1
  by_cases h:x=y
  ·simp[h]
  ·simp[h]
def tupI (k:List Int):D:=.tup (k.map D.int)
theorem a3J {m:Nat}(a b:List Int):deq (m+1) (tupI a) (tupI b)=some (decide (a=b)):=a1E a b
def tupsOf:List D->Option (List (List Int))
 | []=>some []
 | .tup ds::xs=>(intsOf ds).bind fun k=>(tupsOf xs).map fun ks=>k::ks
 | _=>none
theorem a1J:∀{ds:List D} {ks:List (List Int)},tupsOf ds=some ks->ds=ks.map tupI
 | [],ks,e=>by cases e;rfl
 | .tup d::ds,ks,e=>by
  rw[tupsOf] at e;cases e1:intsOf d with
  | none=>rw[e1] at e;cases e
  | some k=>
   cases e2:tupsOf ds with
   | none=>rw[e1,e2] at e;cases e
   | some js=>rw[e1,e2] at e;cases e;rw[zI,<-a1J e2,v6 e1];rfl
 | .non::ds,_,e=>by cases e
 | .bl _::ds,_,e=>by cases e
 | .int _::ds,_,e=>by cases e
 | .str _::ds,_,e=>by cases e
 | .lst _::ds,_,e=>by cases e
 | .dT _ _::ds,_,e=>by cases e
 | .dK _ _::ds,_,e=>by cases e
 | .exn _::ds,_,e=>by cases e
 | .fn _::ds,_,e=>by cases e
theorem Q9:∀ks:List (List Int),tupsOf (ks.map tupI)=some ks
 | []=>rfl
 | k::ks=>by rw[zI,show tupI k= .tup (k.map D.int) from rfl,tupsOf,m6,Q9 ks];rfl
def rInT (K:PySem.W.Frag) (neg:Bool):R2:=fun x y H Q=>∃(A:Av) (k:List Int) (ks:List (List Int)) (p:Addr) (vs:List V),DenR K A H (tupI k) x/\y= .ref p/\(SqL K H p vs\/SqT K H p vs)/\DenL K A H (ks.map tupI) vs/\Q (.bl (if neg then !decide (k∈ks) else decide (k∈ks))) H
theorem O4 {k0:Nat}{A:Av}(hr:Room k0 X.A){pins:List (Addr×PySem.Obj)}{σ:L2.St}{H:Hp}{s:Shared}(I:Inv X pins σ H s){k:List Int}{x:V}{v:Value}(hx:DenR X.K A H (tupI k) x)(rx:RelV x v):∀{ks:List (List Int)} {vs:List V} {us:List Value},DenL X.K A H (ks.map tupI) vs->Vals vs us->
  (∀y∈us,SeqAt.EqAt X.A.in1 s y v (decide (readI s.heap y=some k)))/\(us.any fun y=>decide (readI s.heap y=some k))=decide (k∈ks)
 | [],vs,us,l,r=>by
  rw[xN,DenL] at l;subst l;cases r;exact⟨fun y hy=>by simp at hy,by simp⟩
 | k'::ks,vs,us,l,r=>by
  rw[zI,DenL] at l;obtain⟨z,rs,rfl,hz,l⟩:=l;cases r with
  | cons r1 r2=>
   rename_i u us;obtain⟨i1,i2⟩:=O4 hr I hx rx l r2;have hz':=hz;rw[show tupI k'= .tup (k'.map D.int) from rfl,Den] at hz';obtain⟨c,ws,rfl,hq,lw⟩:=hz';rw[q9 lw] at hq;cases(show u=Value.ref c from r1);obtain⟨its,r3,⟨o,ho,_,n,hd⟩,_⟩:=I.tuple hq;have er:readI s.heap (.ref c)=some k':=by
    unfold readI;dsimp only;rw[ho];dsimp only;rw[hd];dsimp only;rw[a16 r3]
   have eq:SeqAt.EqAt X.A.in1 s (.ref c) v (decide (readI s.heap (.ref c)=some k)):=by
    rw[er];have z:=(a2w I 20 X.A.in1 (by have:=hr.units;show X.A.units+1+20+1<_;walk_at "o") (tupI k') (tupI k) (.ref c) x (.ref c) v _ (a3J k' k) (F4 hz) hx rfl rx).1
    have e2:decide (some k'=some k)=decide (k'=k):=by simp
    rw[e2];exact z
   refine⟨fun y hy=>?_,?_⟩
   ·rcases zN.mp hy with rfl|hy
    ·exact eq
    ·exact i1 y hy
   ·rw[any_cons,i2,er]
    by_cases h:k'=k
    ·simp[h]
    ·have h':¬k=k':=fun z=>h z.symm;simp[h,h']
theorem b1b {k0:Nat}(hr:Room k0 X.A):OpR X (compareOp .In) (rInT X.K false):=by
 intro pins s σ H x y v u Q I rx ry ⟨A,k,ks,p,vs,hx,ey,hq,l,q⟩;subst ey;cases ry;rcases hq with hq|hq
 ·obtain⟨its,r,pl,hz⟩:=I.list hq;obtain⟨c1,c2⟩:=O4 hr I hx rx l r;refine SeqAt.in_listAt (fun y=>decide (readI s.heap y=some k)) pl.isList (fun w hw=>c1 w (by simpa using hw)) ⟨.bl _,H,I,rfl,?_⟩
  rw[show(its.toArray.any fun y=>decide (readI s.heap y=some k))=(its.any fun y=>decide (readI s.heap y=some k)) by simp,c2]
  exact q
 ·obtain⟨its,r,pl,hz⟩:=I.tuple hq;obtain⟨c1,c2⟩:=O4 hr I hx rx l r;refine SeqAt.in_tupleAt (fun y=>decide (readI s.heap y=some k)) pl (fun w hw=>c1 w (by simpa using hw)) ⟨.bl _,H,I,rfl,?_⟩
  rw[show(its.toArray.any fun y=>decide (readI s.heap y=some k))=(its.any fun y=>decide (readI s.heap y=some k)) by simp,c2]
  exact q
theorem a5U {k0:Nat}(hr:Room k0 X.A):OpR X (compareOp .NotIn) (rInT X.K true):=by
 intro pins s σ H x y v u Q I rx ry ⟨A,k,ks,p,vs,hx,ey,hq,l,q⟩;subst ey;cases ry;rcases hq with hq|hq
 ·obtain⟨its,r,pl,hz⟩:=I.list hq;obtain⟨c1,c2⟩:=O4 hr I hx rx l r;refine SeqAt.notIn_listAt (fun y=>decide (readI s.heap y=some k)) pl.isList (fun w hw=>c1 w (by simpa using hw)) ⟨.bl _,H,I,rfl,?_⟩
  rw[show(its.toArray.any fun y=>decide (readI s.heap y=some k))=(its.any fun y=>decide (readI s.heap y=some k)) by simp,c2]
  exact q
 ·obtain⟨its,r,pl,hz⟩:=I.tuple hq;obtain⟨c1,c2⟩:=O4 hr I hx rx l r;refine SeqAt.notIn_tupleAt (fun y=>decide (readI s.heap y=some k)) pl (fun w hw=>c1 w (by simpa using hw)) ⟨.bl _,H,I,rfl,?_⟩
  rw[show(its.toArray.any fun y=>decide (readI s.heap y=some k))=(its.any fun y=>decide (readI s.heap y=some k)) by simp,c2]
  exact q
def nb (neg k:Bool):W:=.v (.bl (if neg then !k else k))
def oInG (neg:Bool) (x y:D):Option W:=if isDi y=true then(lookG y x).map fun r=>nb neg r.isSome else match x with
 | .int i=>(items y).bind fun ys=>(intsOf ys).map fun ns=>nb neg (decide (i∈ns))
 | .tup ds=>(intsOf ds).bind fun k=>(items y).bind fun ys=>(tupsOf ys).map fun ks=>nb neg (decide (k∈ks))
 | _=>none
theorem kInG {neg:Bool}:Pr2 X (oInG neg) (fun x y H Q=>rIn X.K neg x y H Q\/rInD X.K neg x y H Q\/rInT X.K neg x y H Q):=by
 intro A x y w v u H Q hA e hx hy q;unfold oInG at e;split at e
 ·obtain⟨r,e1,e⟩:=oms e;cases e;obtain⟨a,w',rfl,hg,hm⟩:=a1A e1 hy hx;have es:w'.isSome=r.isSome:=by
   cases r with
   | none=>rw[show w'=none from hm];rfl
   | some d=>obtain⟨z,rfl,_⟩:=hm;rfl
  refine .inr (.inl ⟨a,w',rfl,hg,?_⟩);rw[es];exact q _ H (Same.refl H) t5
 ·split at e
  ·rename_i i;refine .inl (kInI A (.int i) y w v u H Q hA ?_ hx hy q);unfold oInI;exact e
  ·rename_i ds;cases e1:intsOf ds with
   | none=>rw[e1] at e;cases e
   | some k=>
    rw[e1] at e;simp only[bind_some] at e;cases e2:items y with
    | none=>rw[e2] at e;cases e
    | some ys=>
     rw[e2] at e;simp only[bind_some] at e;obtain⟨ks,e3,e⟩:=oms e;cases e;obtain⟨p,vs,rfl,hq,l⟩:=P3 e2 hy;rw[a1J e3] at l;rw[v6 e1] at hx;exact .inr (.inr ⟨A,k,ks,p,vs,hx,rfl,hq,l,q _ H (Same.refl H) t5⟩)
  ·cases e
theorem a61 {k:Nat}(hr:Room k X.A)(ha:QX X a f)(hb:QX X b g)(hm:behindInMarks .In b=false:=by rfl):QT X (.Compare a [.In] [b] pos) (fTest (fBin (oInG false) f g)):=R6 (a57.or ((b09 hr).or (b1b hr))) kInG ha hb hm
theorem F2 {k:Nat}(hr:Room k X.A)(ha:QX X a f)(hb:QX X b g)(hm:behindInMarks .NotIn b=false:=by rfl):QT X (.Compare a [.NotIn] [b] pos) (fTest (fBin (oInG true) f g)):=R6 (a2H.or ((a6q hr).or (a5U hr))) kInG ha hb hm
def fGet (f:FX) (fa:FA):FX:=fun ρ=>(f ρ).bind fun p=>(dr p.2 p.1.fz).bind fun d=>if isDi d=true then(fa p.2).bind fun q=>(takeAll q.2 q.1).bind fun z=>(dr z.2 p.1.fz).bind fun x=>match z.1 with
  | [y,e]=>(lookG x y).map fun r=>(.v (r.getD e),z.2)
  | _=>none
 else none
end
open PySem PySem.W PyProof.Rows
def TWp {α:Type} (n:Nat) (lt:Nat->Nat->Bool):KasT α->(α->Prop)->Prop
 | .ret a,Q=>Q a
 | .ask i j k,Q=>i<n/\j<n/\TWp n lt (k (lt i j)) Q
theorem F5 {α β:Type}{n:Nat}{lt:Nat->Nat->Bool}{g:α->KasT β}{Q:β->Prop}:∀(t:KasT α),TWp n lt t (fun a=>TWp n lt (g a) Q)->TWp n lt (t.bind g) Q
 | .ret _,h=>h
 | .ask i j k,⟨h1,h2,h⟩=>⟨h1,h2,F5 (k (lt i j)) h⟩
theorem a48 {α:Type}{n:Nat}{lt:Nat->Nat->Bool}{cmp:Nat->Nat->(Bool->Shared->Prop)->Shared->Prop}{s:Shared}{Q:α->Shared->Prop}
  (hc:∀i j (C:Bool->Shared->Prop),i<n->j<n->C (lt i j) s->cmp i j C s):∀(t:KasT α),TWp n lt t (fun a=>Q a s)->t.kasWp cmp Q s
 | .ret a,h=>h
 | .ask i j k,⟨h1,h2,h⟩=>hc i j _ h1 h2 (a48 hc (k (lt i j)) h)
section
variable {O:KeyOrd}{f:Nat->O.α}{n:Nat}
def Ky (f:Nat->O.α) (p:Array Nat) (i:Nat):O.α:=f (p.getD i 0)
def SoTo (f:Nat->O.α) (p:Array Nat) (k:Nat):Prop:=∀i j,i<=j->j<k->O.kle (Ky f p i) (Ky f p j)
def NoIn (f:Nat->O.α) (p:Array Nat) (k:Nat):Prop:=∀i j,i<=j->j<k->O.kle (Ky f p j) (Ky f p i)
structure PB (n:Nat) (p:Array Nat):Prop where
 perm:p.Perm (List.toArray (List.range n))
 pos:0<n
theorem PB.size {p:Array Nat}(h:PB n p):p.size=n:=by rw[h.perm.size_eq];simp
theorem PB.lt {p:Array Nat}(h:PB n p)(i:Nat):p.getD i 0<n:=by
 by_cases q:i<p.size
 ·have e:p.getD i 0=p[i]:=by simp[Array.getD,q]
  rw[e];have m:p[i]∈p.toList:=by simp
  have:=(Array.perm_iff_toList_perm.mp h.perm).mem_iff.mp m
  simpa using this
 ·have e:p.getD i 0=0:=by simp[Array.getD,q]
  rw[e];exact h.pos
theorem N7 {p q:Array Nat}{i j:Nat}(h:p[i]? =q[j]?):Ky f p i=Ky f q j:=by
 unfold Ky;congr 1;rw[jU,jU,h]
theorem a1X {xs:Array Nat}{src d:Nat}(hs:src<xs.size)(hd:d<=src)(k:Nat):
  Ky f (bubble xs src d) k=if k=src-d then Ky f xs src else if src-d<k/\k<=src then Ky f xs (k-1) else Ky f xs k:=by
 have e:=getElem?_bubble hs d hd k
 by_cases h1:k=src-d
 ·rw[if_pos h1] at e ⊢;exact N7 e
 ·rw[if_neg h1] at e ⊢
  by_cases h2:src-d<k/\k<=src
  ·rw[if_pos h2] at e ⊢;exact N7 e
  ·rw[if_neg h2] at e ⊢;exact N7 e
theorem X7 {xs:Array Nat}{i j:Nat}(hj:j<=xs.size)(k:Nat):
  Ky f (kas_rev xs i j) k=if i<=k/\k<j then Ky f xs (i+j-1-k) else Ky f xs k:=by
 have e:=getElem?_mirror_all (i:=i) hj k;unfold kas_rev
 by_cases h1:i<=k/\k<j
 ·rw[if_pos h1] at e ⊢;exact N7 e
 ·rw[if_neg h1] at e ⊢;exact N7 e
theorem u6 {xs:Array Nat}{i j:Nat}(hj:j<=xs.size)(heq:∀k,i<=k->k<j->Ky f xs k=Ky f xs (j-1))(k:Nat):Ky f (kas_rev xs i j) k=Ky f xs k:=by
 rw[X7 hj]
 split
 ·rw[heq _ (by omega) (by omega),heq k (by omega) (by omega)]
 ·rfl
theorem PB.rev {p:Array Nat}(h:PB n p)(i j:Nat):PB n (kas_rev p i j):=⟨(mirror_perm _ _ _ _).trans h.perm,h.pos⟩
theorem PB.bub {p:Array Nat}(h:PB n p)(i j:Nat):PB n (bubble p i j):=⟨(bubble_perm _ _ _).trans h.perm,h.pos⟩
abbrev ltK (f:Nat->O.α):Nat->Nat->Bool:=fun i j=>O.blt (f i) (f j)
theorem a2o {p:Array Nat}(hB:PB n p){Q:Nat->Prop}:∀(c a:Nat),1<=a->SoTo f p a->(∀m,a<=m->m<=a+c->SoTo f p m->(m=a+c\/O.klt (Ky f p m) (Ky f p (m-1)))->Q m)->TWp n (ltK f) (kas_asc p c a) Q
 | 0,a,_,hs,h=>h a (zE _) (zE _) hs (.inl rfl)
 | c+1,a,h1,hs,h=>by
  refine⟨hB.lt _,hB.lt _,?_⟩;cases hless:O.blt (Ky f p a) (Ky f p (a-1))
  case true=>
   rw[show ltK f (p.getD a 0) (p.getD (a-1) 0)=true from hless];dsimp only;rw[if_pos rfl];exact h a (zE _) (by walk_at "o") hs (.inr hless)
  case false=>
   rw[show ltK f (p.getD a 0) (p.getD (a-1) 0)=false from hless];dsimp only;rw[if_neg (by simp)]
   refine a2o hB c (a+1) (by walk_at "o") (fun i j hij hj=>?_) fun m x1 x2 x3 x4=>h m (by walk_at "o") (by walk_at "o") x3 (x4.imp (fun q=>by walk_at "o") id)
   by_cases hjx:j<a
   ·exact hs i j hij hjx
   ·have hj':j=a:=by walk_at "o"
    subst hj'
    by_cases hi':i=j
    ·subst hi';exact xJ _
    ·exact KeyOrd.kle_trans (hs i (j-1) (by walk_at "o") (by walk_at "o")) hless
theorem a1Z {p:Array Nat}(hB:PB n p){Q:Nat×Array Nat->Prop}{a m:Nat}(h1:1<=a)(ha:a<=m)(hm:m<=n)(hs:NoIn f p a)(h:∀k q,PB n q->1<=k->k<=m->SoTo f q k->Q (k,q)):TWp n (ltK f) (kas_tail3 a m p) Q:=by
 have hsz:a<=p.size:=by rw[hB.size];walk_at "o"
 refine F5 _ (a2o (hB.rev 0 a) (m-a) a h1 (fun i j hij hj=>?_) fun k x1 x2 x3 _=>h k _ (hB.rev 0 a) (by walk_at "o") (by walk_at "o") x3)
 rw[X7 hsz,X7 hsz,if_pos (by walk_at "o"),if_pos (by walk_at "o")]
 exact hs _ _ (by walk_at "o") (by walk_at "o")
theorem V2 {Q:Array Nat×Nat×Nat->Prop}{m:Nat}(hm:m<=n):∀(c:Nat) (p:Array Nat) (a q:Nat),a+c=m->PB n p->1<=a->NoIn f p a->q+1<=a->(∀i,a-(q+1)<=i->i<a->Ky f p i=Ky f p (a-1))->
  (∀k r p',PB n p'->a<=k->k<=m->NoIn f p' k->r+1<=k->(∀i,k-(r+1)<=i->i<k->Ky f p' i=Ky f p' (k-1))->Q (p',k,r))->TWp n (ltK f) (kas_desc c p a q) Q
 | 0,p,a,q,hc,hB,h1,hs,hq,he,h=>h a q p hB (zE _) (by walk_at "o") hs hq he
 | c+1,p,a,q,hc,hB,h1,hs,hq,he,h=>by
  have hsz:a<=p.size:=by rw[hB.size];walk_at "o"
  refine⟨hB.lt _,hB.lt _,?_⟩;cases hless:O.blt (Ky f p a) (Ky f p (a-1))
  case true=>
   rw[show ltK f (p.getD a 0) (p.getD (a-1) 0)=true from hless];dsimp only;rw[if_pos rfl];have step1:∀xs:Array Nat,(∀k,Ky f xs k=Ky f p k)->NoIn f xs (a+1):=by
    intro xs hk i j hij hj;rw[hk,hk]
    by_cases hjx:j<a
    ·exact hs i j hij hjx
    ·have hj':j=a:=by walk_at "o"
     subst hj'
     by_cases hi':i=j
     ·subst hi';exact xJ _
     ·exact KeyOrd.kle_trans (KeyOrd.kle_of_klt hless) (hs i (j-1) (by walk_at "o") (by walk_at "o"))
   by_cases hneq:q>0
   ·rw[if_pos hneq];exact V2 hm c _ (a+1) 0 (by walk_at "o") (hB.rev _ _) (by walk_at "o") (step1 _ (u6 hsz he)) (by walk_at "o") (fun i h1 h2=>by congr 1;walk_at "o") fun k r p' x1 x2=>h k r p' x1 (by walk_at "o")
   ·rw[if_neg hneq];exact V2 hm c _ (a+1) 0 (by walk_at "o") hB (by walk_at "o") (step1 _ (fun _=>rfl)) (by walk_at "o") (fun i h1 h2=>by congr 1;walk_at "o") fun k r p' x1 x2=>h k r p' x1 (by walk_at "o")
  case false=>
   rw[show ltK f (p.getD a 0) (p.getD (a-1) 0)=false from hless];dsimp only;rw[if_neg (by simp)]
   refine⟨hB.lt _,hB.lt _,?_⟩;cases hlarger:O.blt (Ky f p (a-1)) (Ky f p a)
   case true=>
    rw[show ltK f (p.getD (a-1) 0) (p.getD a 0)=true from hlarger];dsimp only;rw[if_pos rfl];exact h a q p hB (zE _) (by walk_at "o") hs hq he
   case false=>
    rw[show ltK f (p.getD (a-1) 0) (p.getD a 0)=false from hlarger];dsimp only;rw[if_neg (by simp)]
    have heqx:Ky f p a=Ky f p (a-1):=KeyOrd.kle_antisymm hlarger hless;refine V2 hm c p (a+1) (q+1) (by walk_at "o") hB (by walk_at "o") (fun i j hij hj=>?_) (by walk_at "o") (fun i h1 h2=>?_) fun k r p' x1 x2=>h k r p' x1 (by walk_at "o")
    ·by_cases hjx:j<a
     ·exact hs i j hij hjx
     ·have hj':j=a:=by walk_at "o"
      subst hj'
      by_cases hi':i=j
      ·subst hi';exact xJ _
      ·rw[heqx];exact hs i (j-1) (by walk_at "o") (by walk_at "o")
    ·rw[show a+1-1=a by walk_at "o"]
     by_cases hix:i=a
     ·subst hix;rfl
     ·rw[heqx];exact he i (by walk_at "o") (by walk_at "o")
theorem V8 {p:Array Nat}(hB:PB n p){Q:Nat×Array Nat->Prop}{a m:Nat}(ha:a+1<=m)(hm:m<=n)(hs:NoIn f p (a+1))(h:∀k q,PB n q->1<=k->k<=m->SoTo f q k->Q (k,q)):TWp n (ltK f) (kas_descPart a m p) Q:=by
 refine F5 _ (V2 hm (m-(a+1)) p (a+1) 0 (by walk_at "o") hB (by walk_at "o") hs (by walk_at "o") (fun i h1 h2=>by congr 1;walk_at "o") fun k r p' hB' x2 x3 hs' x5 he=>?_)
 have hsz:k<=p'.size:=by rw[hB'.size];walk_at "o"
 dsimp only
 by_cases hneq:r>0
 ·rw[if_pos hneq];refine a1Z (hB'.rev _ _) (by walk_at "o") x3 hm (fun i j hij hj=>?_) h
  rw[u6 hsz he,u6 hsz he];exact hs' i j hij hj
 ·rw[if_neg hneq];exact a1Z hB' (by walk_at "o") x3 hm hs' h
theorem a6f {p:Array Nat}(hB:PB n p){Q:Nat×Array Nat->Prop}{m:Nat}(h1:1<=m)(hm:m<=n)(h:∀k q,PB n q->1<=k->k<=m->SoTo f q k->Q (k,q)):TWp n (ltK f) (kas_count m p) Q:=by
 refine F5 _ (a2o hB (m-1) 1 (zE 1) (fun i j hij hj=>by have:i=j:=(by walk_at "o");subst this;exact xJ _) fun a ha1 ha2 hsn hor=>?_)
 by_cases hnn:a=m
 ·rw[if_pos (by simpa using hnn)]
  exact h a p hB ha1 (by walk_at "o") hsn
 ·rw[if_neg (by simpa using hnn)]
  have hlt:O.klt (Ky f p a) (Ky f p (a-1)):=hor.resolve_left (by walk_at "o")
  by_cases hgt:a>1
  ·rw[if_pos hgt];refine⟨hB.lt _,hB.lt _,?_⟩;cases hrose:O.blt (Ky f p 0) (Ky f p (a-1))
   case true=>
    rw[show ltK f (p.getD 0 0) (p.getD (a-1) 0)=true from hrose];dsimp only;rw[if_pos rfl];exact h a p hB ha1 (by walk_at "o") hsn
   case false=>
    rw[show ltK f (p.getD 0 0) (p.getD (a-1) 0)=false from hrose];dsimp only;rw[if_neg (by simp)]
    have hsz:a<=p.size:=by rw[hB.size];walk_at "o"
    have hall:∀k,0<=k->k<a->Ky f p k=Ky f p (a-1):=by
     intro k _ hk;have a1:=hsn 0 k (by walk_at "o") hk
     have a2:=hsn k (a-1) (by walk_at "o") (by walk_at "o")
     exact KeyOrd.kle_antisymm a2 (KeyOrd.kle_trans hrose a1)
    refine V8 (hB.rev _ _) (by walk_at "o") hm (fun i j hij hj=>?_) h
    rw[u6 hsz hall,u6 hsz hall]
    by_cases hjn:j<a
    ·rw[hall i (by walk_at "o") (by walk_at "o"),hall j (by walk_at "o") hjn];exact xJ _
    ·have hj':j=a:=by walk_at "o"
     subst hj'
     by_cases hi':i=j
     ·subst hi';exact xJ _
     ·rw[hall i (by walk_at "o") (by walk_at "o")];exact KeyOrd.kle_of_klt hlt
  ·rw[if_neg hgt];have hn1':a=1:=by walk_at "o"
   subst hn1';refine V8 hB (by walk_at "o") hm (fun i j hij hj=>?_) h
   by_cases hi':i=j
   ·subst hi';exact xJ _
   ·have hi0:i=0:=by walk_at "o"
    have hj1:j=1:=by walk_at "o"
    subst hi0;subst hj1;exact KeyOrd.kle_of_klt hlt
theorem X2 {p:Array Nat}(hB:PB n p){Q:Nat->Prop}{k:Nat}(hk:k<n)(hs:SoTo f p k)
  (h:∀l,l<=k->(∀i,i<l->O.kle (Ky f p i) (Ky f p k))->(∀i,l<=i->i<k->O.klt (Ky f p k) (Ky f p i))->Q l):
  ∀(c l r:Nat),l<=r->r<=k->r-l<=c->(∀i,i<l->O.kle (Ky f p i) (Ky f p k))->(∀i,r<=i->i<k->O.klt (Ky f p k) (Ky f p i))->TWp n (ltK f) (kas_place p k c l r) Q
 | 0,l,r,hlr,hrk,hc,hlo,hhi=>h l (by omega) hlo (fun i h1 h2=>hhi i (by omega) h2)
 | c+1,l,r,hlr,hrk,hc,hlo,hhi=>by
  unfold kas_place
  by_cases hge:l≥r
  ·rw[if_pos hge]
   have:l=r:=by omega
   subst this;exact h l hrk hlo hhi
  ·rw[if_neg hge];refine⟨hB.lt _,hB.lt _,?_⟩;cases hless:O.blt (Ky f p k) (Ky f p ((l+r)/2))
   case true=>
    rw[show ltK f (p.getD k 0) (p.getD ((l+r)/2) 0)=true from hless];dsimp only;rw[if_pos rfl];exact X2 hB hk hs h c l ((l+r)/2) (by omega) (by omega) (by omega) hlo fun i h1 h2=>KeyOrd.klt_of_klt_of_kle hless (hs _ _ h1 h2)
   case false=>
    rw[show ltK f (p.getD k 0) (p.getD ((l+r)/2) 0)=false from hless];dsimp only;rw[if_neg (by simp)]
    exact X2 hB hk hs h c ((l+r)/2+1) r (by omega) (by omega) (by omega) (fun i h1=>KeyOrd.kle_trans (hs i ((l+r)/2) (by omega) (by omega)) (show O.kle _ _ from hless)) hhi
theorem a5m {Q:Array Nat->Prop}(h:∀p,PB n p->SoTo f p n->Q p):∀(c k:Nat) (p:Array Nat),c+k=n->PB n p->SoTo f p k->TWp n (ltK f) (kas_bin c p k) Q
 | 0,k,p,hc,hB,hs=>h p hB (by rw[<-hc];rw[Nat.zero_add];exact hs)
 | c+1,k,p,hc,hB,hs=>by
  refine F5 _ (X2 hB (by walk_at "o") hs (fun l hlk hlo hhi=>?_) k 0 k (by walk_at "o") (by walk_at "o") (by walk_at "o") (fun i hi=>by walk_at "o") fun i h1 h2=>by walk_at "o")
  refine a5m h c (k+1) _ (by walk_at "o") (hB.bub _ _) fun i j hij hj=>?_
  have hks:k<p.size:=by rw[hB.size];walk_at "o"
  rw[a1X hks (by walk_at "o"),a1X hks (by walk_at "o"),show k-(k-l)=l by walk_at "o"]
  repeat' split
  all_goals first
   | (exfalso;walk_at "o")
   | exact xJ _
   | exact hlo _ (by walk_at "o")
   | exact KeyOrd.kle_of_klt (hhi _ (by walk_at "o") (by walk_at "o"))
   | exact hs _ _ (by walk_at "o") (by walk_at "o")
theorem a7Q {Q:Array Nat->Prop}(hn:1<=n)(h:∀p,PB n p->SoTo f p n->Q p):TWp n (ltK f) (kas_sort n) Q:=by
 refine F5 _ (a6f ⟨Array.Perm.refl _,hn⟩ hn (zE _) fun k q hB x1 x2 hs=>?_);dsimp only
 split
 ·rw[show max k 1=k by walk_at "o"]
  exact a5m h (n-k) k q (by walk_at "o") hB hs
 ·exact h q hB (by rw[show n=k by walk_at "o"];exact hs)
end
def DRaw (h:Heap) (d:Addr) (es:Array DictEntry) (ep:Nat):Prop:=∃o,h.get? d=some o/\o.ExactDict/\o.data= .dict es ep
theorem DRaw.typeIs {s:Shared}{d:Addr}{es:Array DictEntry}{ep:Nat}(x:DRaw s.heap d es ep):s.TypeIs (.ref d) "dict":=let ⟨o,e,c,_⟩:=x;⟨o,e,c.1⟩
theorem DRaw.lt {h:Heap}{d:Addr}{es:Array DictEntry}{ep:Nat}(x:DRaw h d es ep):d<h.objs.size:=let ⟨_,e,_⟩:=x;zO e
theorem DRaw.on {h h':Heap}{d:Addr}{es:Array DictEntry}{ep:Nat}(x:DRaw h d es ep)(k:∀o,h.get? d=some o->h'.get? d=some o):DRaw h' d es ep:=let ⟨o,e,r⟩:=x;⟨o,k o e,r⟩
section
variable {prog:Program}{w:World}{A:Around}{E:Value->Shared->Prop}{s:Shared}{it d:Addr}{es:Array DictEntry}{i ep:Nat}
theorem a6z {Q:Value->Shared->Prop}(ns:(d==sysModules)=false)(hm:DRaw s.heap d es ep)
  (q:Q (.ref s.heap.objs.size) {s with heap:=s.heap.push {cls:=.type "dict_keyiterator",data:=.fields #[.ref d,.int 0 0,.int es.size 0,.int ep 0]}}):wpAny (model prog w) A (pyIter (.ref d)) Q E s:=by
 obtain⟨o,g0,gx,gd⟩:=id hm;have T:=hm.typeIs;refine wpAny_pyIter_slot T F.slot_dict_iter (qA F.slot_dict_iter T F.entry_dict_iter ?_ (F.args_dict_iter_1 _));unfold Builtin.«dict.__iter__»;refine zA ?_;unfold Builtin.Dict.dictSlotNone;refine zA (wpAny_notOrdered_dict T (zC ?_));show wpAny _ _ (Builtin.Dict.showsAll d >>=_) _ _ s;unfold Builtin.Dict.showsAll;rw[if_neg (by rw[ns];simp)]
 refine zA (zC (zA (wpAny_dictEntries g0 gd (zA (wpAny_dictEpoch g0 gd ?_)))));refine zA (qD (zC ⟨_,rfl,"dict_keyiterator",_,⟨_,zK _ rfl,rfl⟩,F.slot_dict_keyiterator_next.lookup,?_⟩));simpa [rawInt] using q
theorem a7x {Q:Option Value->Shared->Prop}{e:DictEntry}(hit:s.heap.IsKeyIter it d i es.size ep)(hm:DRaw s.heap d es ep)(he:es[i]? =some e)
  (q:∀h',h'.IsKeyIter it d (i+1) es.size ep->Heap.SameBut it s.heap h'->Q (some e.key) {s with heap:=h'}):wpAny (model prog w) A (pyNext (.ref it)) Q E s:=by
 obtain⟨o,t0,tc,td⟩:=id hit;obtain⟨od,g0,gx,gd⟩:=id hm;unfold pyNext;refine zA (wpAny_attempt (qJ (name:=Str.ofString "__next__") hit.typeIs jT (qA jT hit.typeIs F.entry_dict_keyiterator_next ?_ (F.args_dict_keyiterator_next_1 _))));refine zA (zC (zA (zA ?_)))
 first|refine zA (xO hit.typeIs (zC (zA (vG t0 td ?_))))|refine zA (yL hit.typeIs (zC (zA (vG t0 td ?_))))
 have own:Builtin.Dict_items.ownsTuple "dict_keyiterator"=false:=by decide
 simp only[own,zZ,qY];show wpAny _ _ (if(Value.ref d==Value.none)=true then _ else _) _ _ s;rw[if_neg (show ¬((Value.ref d==Value.none)=true) from zT)];refine zA (zC (zA (wpAny_dictEntries g0 gd ?_)));rw[if_neg (by simp)]
 refine zA (zC (zA (wpAny_dictEpoch g0 gd ?_)));rw[if_neg (by simp)]
 refine zC ?_;have lt:i<es.size:=by
  rcases Nat.lt_or_ge i es.size with z|z
  ·exact z
  ·rw[jN z] at he;cases he
 simp only[show ¬((i:Int)<0) from by walk_at "o",qY,xM,he]
 refine zA ?_
 first|refine zA (xO hit.typeIs (zC (zA (wpAny_isOneOf_keyiter hit.typeIs ?_))))|refine zA (yL hit.typeIs (zC (zA (wpAny_isOneOf_keyiter hit.typeIs ?_))))
 show wpAny _ _ (setField (.ref it) 1 (rawInt ((i:Int)+1)) >>=_) _ _ s;refine zA (wpAny_setField t0 td (by simp) ?_)
 have up:(s.heap.update it (PySem.Obj.mapFields (·.setIfInBounds 1 (rawInt ((i:Int)+1))))).IsKeyIter it d (i+1) es.size ep:=⟨_,jL _ t0 (Obj.isFreed_of_fields (Obj.data_mapFields td _)),(Obj.cls_mapFields ..).trans tc,by rw[Obj.data_mapFields td];simp[rawInt]⟩
 refine zA (qE (zA (wpAny_isOneOf_keyiter (s:={s with heap:=s.heap.update it (PySem.Obj.mapFields (·.setIfInBounds 1 (rawInt ((i:Int)+1))))}) up.typeIs ?_)))
 show wpAny _ _ (pure e.key) _ _ _;exact zC (zC ⟨_,rfl,zC (q _ up (qF ..))⟩)
theorem a9F {Q:Option Value->Shared->Prop}(hh:A.handled=none)(hit:s.heap.IsKeyIter it d i es.size ep)(hm:DRaw s.heap d es ep)(he:es[i]? =none)
  (q:∀h',Heap.ExtBut it s.heap h'->Q none {s with heap:=h'}):wpAny (model prog w) A (pyNext (.ref it)) Q E s:=by
 obtain⟨o,t0,tc,td⟩:=id hit;obtain⟨od,g0,gx,gd⟩:=id hm;unfold pyNext;refine zA (wpAny_attempt (qJ (name:=Str.ofString "__next__") hit.typeIs jT (qA jT hit.typeIs F.entry_dict_keyiterator_next ?_ (F.args_dict_keyiterator_next_1 _))));refine zA (zC (zA (zA ?_)))
 first|refine zA (xO hit.typeIs (zC (zA (vG t0 td ?_))))|refine zA (yL hit.typeIs (zC (zA (vG t0 td ?_))))
 have own:Builtin.Dict_items.ownsTuple "dict_keyiterator"=false:=by decide
 simp only[own,zZ,qY];show wpAny _ _ (if(Value.ref d==Value.none)=true then _ else _) _ _ s;rw[if_neg (show ¬((Value.ref d==Value.none)=true) from zT)];refine zA (zC (zA (wpAny_dictEntries g0 gd ?_)));rw[if_neg (by simp)]
 refine zA (zC (zA (wpAny_dictEpoch g0 gd ?_)));rw[if_neg (by simp)]
 refine zC ?_;simp only[show ¬((i:Int)<0) from by walk_at "o",qY,xM,he]
 refine zA ?_
 first|refine zA (xO hit.typeIs (zC ?_))|refine zA (yL hit.typeIs (zC ?_))
 show wpAny _ _ (setField (.ref it) 0 .none >>=_) _ _ s;refine zA (wpAny_setField t0 td (by simp) ?_)
 show wpAny _ _ (newExc (.type "StopIteration") [] >>=_) _ _ _;refine zA ?_;simp only[newExc,newTuple];refine zA (qD ?_ (by size_fits))
 refine zA (m:=firstArgMember _ _) (wpAny_of_eq (a:=Value.none) (by first|rfl|(simp only[firstArgMember];rfl)) (qD ?_ (by size_fits)))
 simp only[raiseNew];refine zA (wpAny_handled ?_);rw[show A.in1.handled=none from hh];refine zA (zC (wpAny_throw ?_));refine zA (wpAny_isInstance (b:=true) (T:="StopIteration") ⟨_,zK _ rfl,rfl⟩ isSubtype_stop ?_);exact zC (q _ (((qF ..).extBut.push _).push _))
theorem a5B (hh:A.handled=none)(I d:Addr)(hne:d≠I)(es:Array DictEntry)(ep:Nat):
  Walks prog w A I [I,d] [I] es.size (fun i v=>∃e,es[i]? =some e/\v=e.key) (fun i h=>h.IsKeyIter I d i es.size ep/\DRaw h d es ep) where
 sub:=fun b hb=>by simp at hb;simp[hb]
 frame:=fun _ _ _ st hk=>⟨st.1.at fun o e=>hk I (by simp) o e,st.2.on fun o e=>hk d (by simp) o e⟩
 item:=fun i s Q E hi st hQ=>a7x st.1 st.2 (e:=es[i]) (by simp[hi]) fun h' h1 h2=>hQ _ h' s.toks ⟨_,by simp[hi],rfl⟩ ⟨h1,st.2.on fun o e=>(h2.2 d hne).trans e⟩ fun b o hb e=>(h2.2 b (fun z=>hb (by simp[z]))).trans e
 done:=fun s Q E st hQ=>a9F hh st.1 st.2 (by simp) fun h' x=>hQ h' s.toks fun b o hb e=>x b o (fun z=>hb (by simp[z])) e
 self:=fun _ _ _ _ st hQ=>wpAny_pyIter_keyiter st.1 hQ
theorem a9g (ns:(d==sysModules)=false):KdlSrc prog w "dict" d d es.size (fun i v=>∃e,es[i]? =some e/\v=e.key) (fun h=>DRaw h d es ep) where
 type:=fun _ x=>x.typeIs
 there:=fun _ x=>⟨x.lt,x.lt⟩
 keep:=fun _ _ x hk=>x.on fun o e=>hk d (.inl rfl) o e
 notList:=by decide
 notTuple:=by decide
 hint:=fun _ _ _ _ x q=>kdl_hint_dict x.typeIs q
 iter:=fun _ _ hh x=>⟨_,_,(fun _ _ q=>a6z ns x q),a5B hh _ d (zG x.lt) es ep,⟨⟨_,zK _ rfl,rfl,rfl⟩,x.on fun o e=>zD _ e⟩⟩
end
theorem a0m:∀a:List Int,HT.lexLt a a=false
 | []=>rfl
 | x::a=>by rw[HT.lexLt_cons,if_pos rfl];exact a0m a
theorem W3:∀a b c:List Int,HT.lexLt a b=true->HT.lexLt b c=true->HT.lexLt a c=true
 | [],[],_,h,_=>by cases h
 | [],_::_,[],_,h=>by cases h
 | [],_::_,_::_,_,_=>rfl
 | _::_,[],_,h,_=>by cases h
 | _::_,_::_,[],_,h=>by cases h
 | x::a,y::b,z::c,h,h'=>by
  rw[HT.lexLt_cons] at h h' ⊢
  by_cases e1:x=y
  ·by_cases e2:y=z
   ·rw[if_pos e1] at h;rw[if_pos e2] at h';rw[if_pos (e1.trans e2)];exact W3 a b c h h'
   ·rw[if_neg e2] at h';rw[if_neg (fun q=>e2 (e1.symm.trans q)),e1];exact h'
  ·rw[if_neg e1] at h;have h1:=vA h
   by_cases e2:y=z
   ·rw[if_neg (fun q=>e1 (q.trans e2.symm)),<-e2];exact h
   ·rw[if_neg e2] at h';have h2:=vA h';rw[if_neg (by omega)]
    exact zP (by omega)
theorem a4B:∀a b c:List Int,HT.lexLt a c=true->HT.lexLt a b=true\/HT.lexLt b c=true
 | [],[],_,h=>.inr h
 | [],_::_,_,_=>.inl rfl
 | _::_,_,[],h=>by cases h
 | _::_,[],_::_,_=>.inr rfl
 | x::a,y::b,z::c,h=>by
  rw[HT.lexLt_cons] at h ⊢;rw[HT.lexLt_cons]
  by_cases e1:x=y
  ·by_cases e2:y=z
   ·rw[if_pos (e1.trans e2)] at h;rw[if_pos e1,if_pos e2];exact a4B a b c h
   ·rw[if_neg (fun q=>e2 (e1.symm.trans q))] at h;rw[if_neg e2,<-e1];exact .inr h
  ·rw[if_neg e1]
   by_cases e2:x=z
   ·have e3:¬y=z:=fun q=>e1 (e2.trans q.symm);rw[if_neg e3];rcases Int.lt_or_gt_of_ne e1 with q|q
    ·exact .inl (zP q)
    ·exact .inr (zP (by omega))
   ·rw[if_neg e2] at h;have h1:=vA h;rcases Int.lt_or_gt_of_ne e1 with q|q
    ·exact .inl (zP q)
    ·rw[if_neg (show ¬y=z by omega)];exact .inr (zP (by omega))
theorem a0q:∀a b:List Int,HT.lexLt a b=false->HT.lexLt b a=false->a=b
 | [],[],_,_=>rfl
 | [],_::_,h,_=>by cases h
 | _::_,[],_,h=>by cases h
 | x::a,y::b,h,h'=>by
  rw[HT.lexLt_cons] at h h'
  by_cases e:x=y
  ·rw[if_pos e] at h;rw[if_pos e.symm] at h';rw[e,a0q a b h h']
  ·rw[if_neg e] at h;rw[if_neg (fun q=>e q.symm)] at h';have h1:=of_decide_eq_false h;have h2:=of_decide_eq_false h';walk_at "o"
def lexO:KeyOrd:=⟨List Int,HT.lexLt,a0m,W3,a4B,a0q⟩
inductive Tups (h:Heap):List Value->List (List Int)->Prop where
 | nil:Tups h [] []
 | cons {a:Addr} {its:Array Value} {k:List Int} {vs:List Value} {ks:List (List Int)} (t:IsTup h a its) (i:IntsAre its.toList k) (ne:k≠[]) (r:Tups h vs ks):Tups h (.ref a::vs) (k::ks)
theorem Tups.len {h:Heap}{vs:List Value}{ks:List (List Int)}(t:Tups h vs ks):vs.length=ks.length:=by
 induction t with
 | nil=>rfl
 | cons _ _ _ _ ih=>simp[ih]
theorem Tups.on {h h':Heap}{vs:List Value}{ks:List (List Int)}(t:Tups h vs ks)(k:∀a o,(.ref a)∈vs->h.get? a=some o->h'.get? a=some o):Tups h' vs ks:=by
 induction t with
 | nil=>exact .nil
 | cons x i ne r ih=>
  obtain⟨o,e,c⟩:=x;exact .cons ⟨o,k _ o zJ e,c⟩ i ne (ih fun a o m e=>k a o (zL _ m) e)
theorem Tups.at {h:Heap}{vs:List Value}{ks:List (List Int)}(t:Tups h vs ks):∀{i:Nat},i<vs.length->∃a its,vs.getD i .none= .ref a/\IsTup h a its/\IntsAre its.toList (ks.getD i [])/\ks.getD i []≠[]:=by
 induction t with
 | nil=>intro i hi;simp at hi
 | cons x i ne r ih=>
  intro j hj;cases j with
  | zero=>exact⟨_,_,rfl,x,i,ne⟩
  | succ j=>exact ih (i:=j) (by simpa using hj)
section
variable {prog:Program}{w:World}{A:Around}{E:Value->Shared->Prop}{s:Shared}{h₀:Heap}{L D:Addr}{m:Str->Option Value}{vs:List Value}{ks:List (List Int)}
theorem a8W {fin:Bool}{Q:Bool->Shared->Prop}:∀{us ws:List Value} {ns ms:List Int} {i:Nat},IntsAre us ns->IntsAre ws ms->fin=decide (us.length<ws.length)->
  Q (HT.lexLt ns ms) s->KatLex prog w A true fin Q (us.zip ws) i s
 | [],[],_,_,i,h1,h2,ef,q=>by
  cases h1;cases h2;rw[zip_nil_left];exact kat_nil (by rw[ef];exact q)
 | [],_::_,_,_,i,h1,h2,ef,q=>by
  cases h1;cases h2;rw[zip_nil_left];exact kat_nil (by rw[ef];simpa [HT.lexLt] using q)
 | _::_,[],_,_,i,h1,h2,ef,q=>by
  cases h1;cases h2;rw[List.zip_nil_right];exact kat_nil (by rw[ef];simpa [HT.lexLt] using q)
 | _::us,_::ws,_,_,i,h1,h2,ef,q=>by
  cases h1 with
  | cons a t h1=>
   cases h2 with
   | cons c u h2=>
    rw[jS];rw[HT.lexLt_cons] at q;refine kat_cons (SeqAt.EqAt.int_int a t c u prog w _ _ ?_)
    by_cases e:a=c
    ·rw[if_pos e] at q;rw[show(a==c)=true by simpa using e]
     exact kat_yes (a8W h1 h2 (by rw[ef];simp) q)
    ·rw[if_neg e] at q;rw[show(a==c)=false by simpa using e]
     refine kat_no ?_;cases hb:(true&&i==0) with
     | true=>exact oneLt_int q
     | false=>exact kat_one _ _ (lt_int q)
theorem katTups {h:Heap}{vs:List Value}{ks:List (List Int)}(t:Tups h vs ks):∃fs,KatTups h vs fs/\fs.length=ks.length/\∀v∈fs,∃(i:Int) (u:Tok),v= .int i u:=by
 induction t with
 | nil=>exact⟨[],.nil,rfl,fun v hv=>by cases hv⟩
 | @cons a its k vs ks x i ne r ih=>
  obtain⟨fs,h1,h2,h3⟩:=ih;obtain⟨o,e,c,n,d⟩:=x;obtain⟨its⟩:=its;cases i with
  | nil=>exact absurd rfl ne
  | cons n0 t0 r'=>exact⟨_,.cons e c d (by rfl) h1,by simp[h2],fun v hv=>(zN.mp hv).elim (fun z=>⟨_,_,z⟩) (h3 v)⟩
theorem a9L {s:Shared}(T:Tups s.heap vs ks)(i j:Nat)(C:Bool->Shared->Prop)(hi:i<vs.length)(hj:j<vs.length)(q:C (HT.lexLt (ks.getD i []) (ks.getD j [])) s):kas_ask prog w A (tuples' true) vs i j C s:=by
 obtain⟨a,its,ea,⟨o,h1,h2,n,h3⟩,ia,_⟩:=T.at hi;obtain⟨b,its2,eb,⟨o2,g1,g2,n2,g3⟩,ib,_⟩:=T.at hj;unfold kas_ask;rw[ea,eb];exact kat_lt h1 h3 g1 g3 (a8W ia ib (by simp) q)
theorem a53 {Q:Value->Shared->Prop}(F:Fr h₀ L s.heap m)(hD:s.heap.get? D=some (listOf vs.toArray 0))(hDL:D≠L)(hD0:h₀.get? D=none)(T:Tups s.heap vs ks)(nD:Value.ref D∉vs)(nL:Value.ref L∉vs)(k0:∀b o,h₀.get? b=some o->s.heap.get? b=some o)(h2:2<=vs.length)(h64:vs.length<64)
  (q:∀(h':Heap) (p:Array Nat) (e:Nat),Fr h₀ L h' m->(∀b o,b≠L->b≠D->s.heap.get? b=some o->h'.get? b=some o)->h'.get? D=some (listOf (p.toList.map fun i=>vs.getD i .none).toArray e)->PB vs.length p->SoTo (O:=lexO) (fun i=>ks.getD i []) p vs.length->Q .none {s with heap:=h'}):
  wpAny (model prog w) A (call (.builtin "list.sort") [.ref D]) Q E s:=by
 have kept:=fun{h':Heap} (F':Fr h₀ L h' m) (N':News h₀ L h' (L2.rest h₀ s.heap L D))=>L2.a2g (d:=D) k0 F' N';refine kat_lsort (vs:=vs) F (L2.a9c hDL hD0 hD) (.head L2.a4J) (by simp) h2 h64 fun e1 h' F' N'=>?_
 have K':=kept F' fun p hp=>N' p (zL _ hp);have T':Tups h' vs ks:=T.on fun a o ma e=>K' a o (fun z=>nL (z▸ma)) (fun z=>nD (z▸ma)) e;obtain⟨fs,f1,f2,f3⟩:=katTups T';refine kat_kind (s:={s with heap:=h'}) (T:=.type "int") f1 (by rw[f2,<-T.len];walk_at "o") (fun v hv=>by obtain⟨i,u,rfl⟩:=f3 v hv;exact Looks.of_pure rfl) (by decide) ?_
 have tb:(Value.type "int" != Value.type "tuple")=true:=by decide
 rw[tb];refine a48 (s:={s with heap:=h'}) (n:=vs.length) (lt:=ltK (O:=lexO) fun i=>ks.getD i []) (fun i j C hi hj c=>a9L (s:={s with heap:=h'}) T' i j C hi hj c) _ (a7Q (by walk_at "o") fun p hp hs=>?_)
 refine KasFin.intro F' N' (.head L2.a4J) fun h3 c F3 N3=>?_;exact q h3 p c F3 (kept F3 fun p hp=>N3 p (zL _ hp)) (N3 _ zJ).1 hp hs
theorem a3Z {Q:Value->Shared->Prop}(hD:s.heap.get? D=some (listOf vs.toArray 0))(h2:vs.length<2)
  (q:∀(h':Heap) (e:Nat),(∀b o,b≠D->s.heap.get? b=some o->h'.get? b=some o)->h'.get? D=some (listOf vs.toArray e)->Q .none {s with heap:=h'}):
  wpAny (model prog w) A (call (.builtin "list.sort") [.ref D]) Q E s:=by
 refine qA slot_list_sort ⟨_,hD,rfl⟩ entry_list_sort ?_ (args_list_sort _);rw[list_sort_plain];have lt:D<s.heap.objs.size:=zO hD;refine zA (listItems_at hD rfl (zA (listUpdate_at hD rfl ?_)));obtain⟨e1,k1⟩:∃e1,(s.heap.update D (PySem.Obj.mapSeq fun _=> #[])).get? D=some (seqObj "list" #[] e1):=⟨_,yU hD (fun _=> #[])⟩;refine zA (seqEpoch_at k1 rfl (zA (wpAny_newTuple (zA (wpAny_newList (qE ?_))))));have k2:(((s.heap.update D (PySem.Obj.mapSeq fun _=> #[])).push (seqObj "tuple" vs.toArray 0)).push (seqObj "list" #[] 0)).get? D=some (seqObj "list" #[] e1):=zD _ (zD _ k1);show wpAny (model prog w) _ _ _ E {s with heap:=((s.heap.update D (PySem.Obj.mapSeq fun _=> #[])).push (seqObj "tuple" vs.toArray 0)).push (seqObj "list" #[] 0)}
 dsimp only;have sz:vs.toArray.size<2:=by simpa using h2
 rw[if_pos sz,if_pos sz];refine zA (zC ?_);rw[StateT.run_pure];refine zA (zC ?_);dsimp only;have out:(arrOf (SortSt.mk' general' (vs.toArray.zip vs.toArray) #[] 7 none)).map (·.2)=vs.toArray:=by
  show(vs.toArray.zip vs.toArray).map (·.2)=vs.toArray;have e:(vs.toArray.zip vs.toArray)=(vs.zip vs).toArray:=by simp
  rw[e,List.map_toArray];congr 1;exact List.map_snd_zip (zE _)
 rw[out];refine zA (seqEpoch_at k2 rfl (zA (listUpdate_at k2 rfl ?_ (hsz2:=by rw[qR];walk_at "o"))))
 simp only[bne_self_eq_false,zZ,qY];obtain⟨e2,k3⟩:∃e2,((((s.heap.update D (PySem.Obj.mapSeq fun _=> #[])).push (seqObj "tuple" vs.toArray 0)).push (seqObj "list" #[] 0)).update D (PySem.Obj.mapSeq fun _=>vs.toArray)).get? D=some (seqObj "list" vs.toArray e2):=⟨_,yU k2 (fun _=>vs.toArray)⟩;refine zC ⟨_,rfl,q _ e2 (fun b o hb e=>?_) k3⟩;rw[xR _ _ _ _ hb];refine zD _ (zD _ ?_);rw[xR _ _ _ _ hb];exact e
end
abbrev kleB (a b:List Int):Bool:=!HT.lexLt b a
def sortK (ks:List (List Int)):List (List Int):=ks.mergeSort kleB
theorem p5 (ks:List (List Int)):(sortK ks).Perm ks:=List.mergeSort_perm ks _
theorem t6 (ks:List (List Int)):(sortK ks).Pairwise fun a b=>HT.lexLt b a=false:=by
 have:=List.pairwise_mergeSort (le:=kleB) (fun a b c h1 h2=>by
  simp only[kleB,Bool.not_eq_true'] at *;exact KeyOrd.kle_trans (O:=lexO) h1 h2) (fun a b=>by
  simp only[kleB,Bool.or_eq_true,Bool.not_eq_true'];cases q:HT.lexLt b a with
  | false=>exact .inl rfl
  | true=>exact .inr (KeyOrd.klt_asymm (O:=lexO) q)) ks
 exact this.imp fun h=>by simpa [kleB] using h
theorem G5:∀{l1 l2:List (List Int)},l1.Perm l2->(l1.Pairwise fun a b=>HT.lexLt b a=false)->(l2.Pairwise fun a b=>HT.lexLt b a=false)->l1=l2
 | [],l2,h,_,_=>(List.nil_perm.mp h).symm
 | a::l1,[],h,_,_=>by have:=h.length_eq;simp at this
 | a::l1,b::l2,h,h1,h2=>by
  have h1':=yP.mp h1;have h2':=yP.mp h2;have e:a=b:=by
   have ma:a∈b::l2:=h.mem_iff.mp zJ;have mb:b∈a::l1:=h.mem_iff.mpr zJ;rcases zN.mp ma with z|z
   ·exact z
   ·rcases zN.mp mb with y|y
    ·exact y.symm
    ·exact a0q a b (h2'.1 a z) (h1'.1 b y)
  subst e;rw[G5 ((List.perm_cons a).mp h) h1'.2 h2'.2]
inductive Al (K:PySem.W.Frag) (H:Hp):List Addr->List (List Int)->Prop where
 | nil:Al K H [] []
 | cons {a:Addr} {k:List Int} {as:List Addr} {ks:List (List Int)} (q:SqT K H a (k.map V.int)) (r:Al K H as ks):Al K H (a::as) (k::ks)
section
variable {K:PySem.W.Frag}{H:Hp}
theorem Al.len {as:List Addr}{ks:List (List Int)}(h:Al K H as ks):as.length=ks.length:=by
 induction h with
 | nil=>rfl
 | cons _ _ ih=>simp[ih]
theorem Al.at {as:List Addr}{ks:List (List Int)}(h:Al K H as ks):∀{i:Nat},i<as.length->SqT K H (as.getD i 0) ((ks.getD i []).map V.int):=by
 induction h with
 | nil=>intro i hi;simp at hi
 | cons q r ih=>
  intro i hi;cases i with
  | zero=>exact q
  | succ i=>exact ih (i:=i) (by simpa using hi)
theorem Al.pick {as:List Addr}{ks:List (List Int)}(h:Al K H as ks):∀{l:List Nat},(∀i∈l,i<as.length)->Al K H (l.map fun i=>as.getD i 0) (l.map fun i=>ks.getD i [])
 | [],_=>.nil
 | i::l,hl=>.cons (h.at (hl i zJ)) (h.pick fun j hj=>hl j (zL _ hj))
theorem Al.same {H':Hp}{as:List Addr}{ks:List (List Int)}(h:Al K H as ks)(s:Same H H'):Al K H' as ks:=by
 induction h with
 | nil=>exact .nil
 | cons q r ih=>
  refine .cons ?_ ih;rcases q with (q|⟨o,q⟩)|q
  ·exact .inl (.inl (s _ _ q))
  ·exact .inl (.inr ⟨o,s _ _ q⟩)
  ·exact .inr q
theorem Al.den {O:Av}{as:List Addr}{ks:List (List Int)}(h:Al K H as ks):DenL K O H (ks.map tupI) (as.map V.ref):=by
 induction h with
 | nil=>exact j7
 | cons q r ih=>
  refine j6 ?_ ih;unfold tupI;rw[Den];exact⟨_,_,rfl,q,C0 _⟩
end
theorem S8 {K:PySem.W.Frag}{O:Av}{H:Hp}:∀{ds:List D} {ks:List (List Int)} {vs:List V},tupsOf ds=some ks->DenL K O H ds vs->∃as,vs=as.map V.ref/\Al K H as ks
 | [],ks,vs,e,l=>by rw[DenL] at l;subst l;cases e;exact⟨[],rfl,.nil⟩
 | d::ds,ks,vs,e,l=>by
  rw[DenL] at l;obtain⟨v,r,rfl,h,l⟩:=l;cases d<;>simp only[tupsOf] at e<;>try cases e
  rename_i xs;cases e1:intsOf xs with
  | none=>rw[e1] at e;cases e
  | some k=>
   rw[e1] at e;simp only[bind_some] at e;cases e2:tupsOf ds with
   | none=>rw[e2] at e;cases e
   | some ks'=>
    rw[e2] at e;cases e;obtain⟨as,rfl,a⟩:=S8 e2 l;rw[v6 e1,Den] at h;obtain⟨p,us,rfl,q,lu⟩:=h;rw[q9 lu] at q;exact⟨p::as,rfl,.cons q a⟩
section
variable {X:Cx}{pins:List (Addr×PySem.Obj)}{σ:L2.St}{H:Hp}{s:Shared}
theorem Al.tups {as:List Addr}{ks:List (List Int)}(I:Inv X pins σ H s)(h:Al X.K H as ks)(ne:∀k∈ks,k≠[]):Tups s.heap (as.map Value.ref) ks:=by
 induction h with
 | nil=>exact .nil
 | cons q r ih=>
  obtain⟨its,r1,p1,_⟩:=I.tuple q;exact .cons p1 (J3 r1) (ne _ zJ) (ih fun k hk=>ne k (zL _ hk))
theorem a1N:∀as:List Addr,Vals (as.map V.ref) (as.map Value.ref)
 | []=>.nil
 | a::as=>.cons rfl (a1N as)
theorem J8:∀{as:List Addr} {us:List Value},Vals (as.map V.ref) us->us=as.map Value.ref
 | [],us,r=>by cases r;rfl
 | a::as,us,r=>by
  cases r with
  | cons h t=>cases h;rw[J8 t];rfl
theorem Y0 {A:Around}{E:Value->Shared->Prop}{as:List Addr}{ks:List (List Int)}{Q:VK}(I:Inv X pins σ H s)(a:Al X.K H as ks)(ne:∀k∈ks,k≠[])(h64:ks.length<64)
  (q:∀l bs,H l=none->Al X.K H bs (sortK ks)->Q (.ref l) (upd H l (.lst (bs.map V.ref)))):
  wpAny (model X.prog X.w) A (call (.builtin "list.sort") [.ref s.heap.objs.size]) (fun _ s'=>EP X pins σ Q (.ref s.heap.objs.size) s') E {s with heap:=s.heap.push (PySem.W.listOf (as.map Value.ref).toArray 0)}:=by
 have I2:Inv X pins σ H {s with heap:=s.heap.push (PySem.W.listOf (as.map Value.ref).toArray 0)}:=I.kept (t':=s.toks) fun b o e=>zD _ e
 obtain⟨m,F⟩:=I2.fr;have T:=a.tups I2 ne;have fr:H s.heap.objs.size=none:=I.hok.fresh (zE _);have hD:(s.heap.push (PySem.W.listOf (as.map Value.ref).toArray 0)).get? s.heap.objs.size=some (PySem.W.listOf (as.map Value.ref).toArray 0):=zK _ rfl;have dL:s.heap.objs.size≠X.env.locals:=jX I.lt;have al:=a.len;have fin:∀(h':Heap) (p:List Nat) (ec:Nat),Fr X.base X.env.locals h' m->(∀b o,b≠X.env.locals->b≠s.heap.objs.size->(s.heap.push (PySem.W.listOf (as.map Value.ref).toArray 0)).get? b=some o->h'.get? b=some o)->
   h'.get? s.heap.objs.size=some (PySem.W.listOf (p.map fun i=>Value.ref (as.getD i 0)).toArray ec)->p.Perm (List.range ks.length)->((p.map fun i=>ks.getD i []).Pairwise fun a b=>HT.lexLt b a=false)->EP X pins σ Q (.ref s.heap.objs.size) {s with heap:=h'}:=fun h' p ec F' kp hD' pp ps=>by
  have lt:∀i∈p,i<as.length:=fun i hi=>by have:=pp.mem_iff.mp hi;rw[al];simpa using this
  have ek:(p.map fun i=>ks.getD i [])=sortK ks:=by
   refine G5 (((pp.map _).trans ?_).trans (p5 ks).symm) ps (t6 ks)
   have:(List.range ks.length).map (fun i=>ks.getD i [])=ks:=by
    apply ext_getElem?;intro i
    by_cases hi:i<ks.length
    ·rw[qH,getElem?_range hi];simp[hi]
    ·rw[jR (by simp;walk_at "o"),jR (by walk_at "o")]
   rw[this]
  have pk:=a.pick lt;rw[ek] at pk;have kept:∀b o,b≠X.env.locals->s.heap.get? b=some o->h'.get? b=some o:=fun b o hb e=>kp b o hb (zG (zO e)) (zD _ e);have nD:∀b o,s.heap.get? b=some o->b≠s.heap.objs.size:=fun b o e=>zG (zO e);have nH:∀b u,H b=some u->b≠s.heap.objs.size:=fun b u e=>o9 e fr;have nLH:∀b u,H b=some u->b≠X.env.locals:=fun b u e z=>by rw[z,I.free] at e;cases e
  refine⟨.ref s.heap.objs.size,upd H s.heap.objs.size (.lst ((p.map fun i=>as.getD i 0).map V.ref)),?_,rfl,q _ _ fr pk⟩;refine I.step (g':=s.gens) (t':=s.toks) (d':=s.drawn) (ch:=[]) (fun _ z=>nomatch z) (fun b o hL _ _ e _=>kept b o hL e) (fun b o hL _ _ e _=>⟨o.slots,kept b o hL e⟩) (fun b o _ e n=>by rw[c9 (nD b o e)];exact n) (fun b o _ e=>?_)
   (fun b xs e=>by rw[c9 (nH _ _ e)];exact e) (fun b o u e=>by rw[c9 (nH _ _ e)];exact e) (fun b ps e=>⟨#[],by rw[c9 (nH _ _ e),e];simp⟩) (fun m' hm=>?_) (fun b u e=>?_) I.bare
  ·by_cases hL:b=X.env.locals
   ·obtain⟨o',_,_,e',_⟩:=F'.ns;rw[hL];exact⟨o',e'⟩
   ·exact⟨o,kept b o hL e⟩
  ·have e1:m'=m:=by
    have z1:(s.heap.push (PySem.W.listOf (as.map Value.ref).toArray 0)).Ns X.env.locals m':=by
     obtain⟨o,es,ep,e,r⟩:=hm;exact⟨o,es,ep,zD _ e,r⟩
    rw[z1.eq_nsMap,F.ns.eq_nsMap]
   rw[e1];exact F'.ns
  ·by_cases hb:b=s.heap.objs.size
   ·subst hb;rw[j3] at e;cases e;refine⟨?_,(p.map fun i=>as.getD i 0).map Value.ref,ec,a1N _,?_⟩
    ·rw[zH,zH,pp.length_eq,length_range,qR];walk_at "o"
    ·rw[hD'];simp[jA,Function.comp_def]
   ·rw[c9 hb] at e
    refine(I.hok b u e).stay (fun c v hc z=>kept c v (by
     rcases hc with w|w
     ·rw[w];exact nLH b u e
     ·exact nLH c _ w) z) (fun c z=>by rw[c9 (nH _ _ z)];exact z) fun c ys z=>z.upd (z.elim (nH _ _) fun⟨_,q⟩=>nH _ _ q)
 have gr:∀p:List Nat,(∀i∈p,i<as.length)->(p.map fun i=>(as.map Value.ref).getD i .none)=p.map fun i=>Value.ref (as.getD i 0):=fun p hp=>xE fun i hi=>by simp[hp i hi]
 have tp:∀{vs:List Value} {ks:List (List Int)},Tups s.heap vs ks->∀a,Value.ref a∈vs->∃its,IsTup s.heap a its:=fun{vs ks} t=>by
  induction t with
  | nil=>intro a z;cases z
  | cons x i ne r ih=>
   intro a z;rcases zN.mp z with z|z
   ·cases z;exact⟨_,x⟩
   ·exact ih a z
 have tp:=tp (a.tups I ne)
 by_cases h2:ks.length<2
 ·refine a3Z hD (by rw[zH,al];exact h2) fun h' e kp hD'=>fin h' (List.range ks.length) e ⟨?_,fun b o eb=>kp b o (fun z=>?_) (F.keep b o eb),F.above⟩ (fun b o _ hb eb=>kp b o hb eb) ?_ (List.Perm.refl _) ?_
  ·obtain⟨o,es,ep,e1,r⟩:=F.ns;exact⟨o,es,ep,kp _ o (qM dL) e1,r⟩
  ·have:=I.bk b o eb
   exact absurd (zO this) (by rw[z];exact jE _)
  ·rw[hD',<-al];congr 3;apply ext_getElem?;intro i
   by_cases hi:i<as.length
   ·rw[qH,qH,getElem?_range hi];simp[hi]
   ·rw[jR (by simp;walk_at "o"),jR (by simp;walk_at "o")]
  ·match ks,h2 with
   | [],_=>exact .nil
   | [k],_=>exact List.pairwise_singleton _ _
 ·refine a53 F hD dL ?_ T (fun z=>?_) (fun z=>?_) F.keep (by rw[zH,al];walk_at "o") (by rw[zH,al];walk_at "o") fun h' p e F' kp hD' hp hs=>?_
  ·cases q0:X.base.get? s.heap.objs.size with
   | none=>rfl
   | some o=>exact absurd (zO (I.bk _ o q0)) (jE _)
  ·obtain⟨its,o,e1,_⟩:=tp _ z;exact absurd (zO e1) (jE _)
  ·obtain⟨its,o,e1,_,n,d1⟩:=tp _ z;obtain⟨m2,⟨o2,es,ep,e2,d2,_⟩,_⟩:=id I.loc;rw[e1] at e2;cases e2;rw[d1] at d2;cases d2
  ·have pp:p.toList.Perm (List.range ks.length):=by
    have:=Array.perm_iff_toList_perm.mp hp.perm
    rw[zH,al] at this;simpa using this
   have sz:p.size=ks.length:=by rw[hp.size,zH,al]
   refine fin h' p.toList e F' kp ?_ pp ?_
   ·rw[hD',gr p.toList fun i hi=>by have:=pp.mem_iff.mp hi;rw[al];simpa using this]
   ·rw[List.pairwise_iff_getElem];intro i j hi hj hij;have hj':j<p.size:=by simpa using hj
    have hi':i<p.size:=by simpa using hi
    have z:=hs i j (Nat.le_of_lt hij) (by rw[zH,al,<-sz];exact hj')
    simp only[List.getElem_map,Array.getElem_toList];unfold Ky at z;have g1:p.getD i 0=p[i]:=by simp[Array.getD,hi']
    have g2:p.getD j 0=p[j]:=by simp[Array.getD,hj']
    rw[g1,g2] at z;exact z
end
def SrcT (K:PySem.W.Frag) (H:Hp) (p:Addr) (ks:List (List Int)):Prop:=(∃as,SqL K H p (as.map V.ref)/\Al K H as ks)\/∃vs,H p=some (.dT ((ks.map fun k=>k.map Sum.inl).zip vs))/\ks.length=vs.length
theorem b1s (k:List Int):(k.map (Sum.inl:Int->Key)).map kV=k.map V.int:=by rw[jA];rfl
theorem b0z {K:PySem.W.Frag}{H:Hp}:∀{ks:List (List Int)} {vs:List V} {xs:List (List Key×Addr×Value)},ks.length=vs.length->KT K H ((ks.map fun k=>k.map Sum.inl).zip vs) xs->Al K H (xs.map (·.2.1)) ks
 | [],vs,xs,hl,r=>by
  rw[xN,zip_nil_left] at r;cases r;exact .nil
 | k::ks,[],xs,hl,r=>by simp at hl
 | k::ks,v::vs,xs,hl,r=>by
  rw[zI,jS] at r;cases r with
  | cons h t=>
   obtain⟨h1,h2,_⟩:=h;rw[zI];refine .cons ?_ (b0z (by simpa using hl) t)
   rw[<-b1s];exact h2
section
variable {X:Cx}{e:Expr}{pos p:Pos}{fa:FA}
theorem a2E (hc:X.calm=true):CallR X (.builtin "sorted") (fun xs H Q=>∃p ks,xs=[.ref p]/\SrcT X.K H p ks/\ks.length<64/\(∀k∈ks,k≠[])/\∀l bs,H l=none->Al X.K H bs (sortK ks)->Q (.ref l) (upd H l (.lst (bs.map V.ref)))):=by
 intro pins s σ H xs us Q I r h;obtain⟨p,ks,rfl,src,h64,ne,q⟩:=h;obtain⟨u,rfl,ru⟩:=vals1 r;cases ru;refine yF kind_sorted plain_sorted entry_sorted (args_sorted1 _) ?_;unfold Builtin.«sorted»;refine zA (m:=checkCount "sorted" 1 1 _) (zC ?_);rcases src with ⟨as,hq,al⟩|⟨vs,hq,hl⟩
 ·have len:=al.len;obtain⟨its,rv,⟨o,m,h1,h2,_,h4⟩,hz⟩:=I.list hq;have ei:=J8 rv;subst ei;have hL:s.heap.IsList p (as.map Value.ref).toArray:=⟨o,h1,h2,m,h4⟩;have sz:(as.map Value.ref).length<=sizeLine:=by rw[zH,len,qR];walk_at "o"
  refine zA (collect_list hL ?_ sz);refine zA (wpAny_newList ?_ sz);have I1:Inv X pins σ H {s with heap:=(s.heap.push (seqObj "list" #[] 0)).update s.heap.objs.size (PySem.Obj.mapSeq (· ++ (as.map Value.ref).toArray))}:=I.kept (t':=s.toks) fun b o e=>by
   rw[xR _ _ _ _ (zG (zO e))];exact zD _ e
  refine zA (qE (zR (Y0 I1 al ne h64 q) (fun _ s' x=>?_) fun _ _ z=>z));exact zC ⟨_,rfl,x⟩
 ·obtain⟨z,hs,xs,rel,o,es,h1,h2,h3,h4,h5⟩:=(show ObjOk X.K X.prog X.w H s.heap p (.dT ((ks.map fun k=>k.map Sum.inl).zip vs)) from I.hok p _ hq);have al:=b0z (K:=X.K) hl rel;have len:=al.len;have sz:es.size=ks.length:=by rw[<-len,zH,<-zW,h4,zH]
  have szl:es.size<=sizeLine:=by rw[sz,qR];walk_at "o"
  refine zA (PySem.W.kdu_collect (a9g (es:=es) hs) (show X.A.in1.handled=none from I.ok.hd hc) ⟨o,h1,h2,h3⟩ szl fun h' tk acc hk hacc=>?_);have ea:acc.toList=(xs.map (·.2.1)).map Value.ref:=by
   have e0:(xs.map (·.2.1)).map Value.ref=es.toList.map (·.key):=by rw[h4,jA,jA];rfl
   rw[e0];apply ext_getElem?;intro i;rw[qC,qH,qC]
   by_cases hi:i<es.size
   ·have hi2:i<acc.size:=by rw[hacc.1];exact hi
    obtain⟨e,he,hv⟩:=hacc.2 i acc[i] (by simp[hi2])
    rw[he,Array.getElem?_eq_getElem hi2,hv];rfl
   ·rw[jN (by rw[hacc.1];walk_at "o"),jN (by walk_at "o")];rfl
  rw[ea];refine zA (wpAny_newList ?_ (by rw[zH,len,<-sz];exact szl))
  have I1:Inv X pins σ H {s with heap:=h',toks:=tk}:=I.kept (t':=tk) hk
  refine zA (qE (zR (Y0 I1 al ne h64 q) (fun _ s' x=>?_) fun _ _ z=>z));exact zC ⟨_,rfl,x⟩
def inlK:List Key->Option (List Int)
 | []=>some []
 | Sum.inl i::k=>(inlK k).map fun j=>i::j
 | Sum.inr _::_=>none
def inlKs:List (List Key)->Option (List (List Int))
 | []=>some []
 | k::ks=>(inlK k).bind fun j=>(inlKs ks).map fun js=>j::js
theorem a4E:∀{k:List Key} {j:List Int},inlK k=some j->k=j.map Sum.inl
 | [],j,e=>by cases e;rfl
 | Sum.inr _::_,j,e=>by cases e
 | Sum.inl i::k,j,e=>by
  rw[inlK] at e;cases e1:inlK k with
  | none=>rw[e1] at e;cases e
  | some js=>rw[e1] at e;cases e;rw[zI,<-a4E e1]
theorem a3k:∀{ks:List (List Key)} {js:List (List Int)},inlKs ks=some js->ks=js.map fun k=>k.map Sum.inl
 | [],js,e=>by cases e;rfl
 | k::ks,js,e=>by
  rw[inlKs] at e;cases e1:inlK k with
  | none=>rw[e1] at e;cases e
  | some j=>
   cases e2:inlKs ks with
   | none=>rw[e1,e2] at e;cases e
   | some js'=>rw[e1,e2] at e;cases e;rw[zI,<-a3k e2,<-a4E e1]
theorem a3p:∀k:List Int,inlK (k.map Sum.inl)=some k
 | []=>rfl
 | i::k=>by rw[zI,inlK,a3p k];rfl
theorem a1I:∀ks:List (List Int),inlKs (ks.map fun k=>k.map Sum.inl)=some ks
 | []=>rfl
 | k::ks=>by rw[zI,inlKs,a3p,a1I ks];rfl
def keysOf:D->Option (List (List Int))
 | .dT ks _=>inlKs ks
 | .lst ds=>tupsOf ds
 | _=>none
def gSortT (d:D):Option W:=(keysOf d).bind fun ks=>if ks.length<64/\(∀k∈ks,k≠[]) then some (.o (.lst ((sortK ks).map tupI))) else none
def gSort (d:D):Option W:=match gSortI d with
 | some w=>some w
 | none=>gSortT d
theorem a3N {K:PySem.W.Frag}{A:Av}{H:Hp}{d:D}{ks:List (List Int)}{v:V}(e:keysOf d=some ks)(h:DenR K A H d v):∃p,v= .ref p/\SrcT K H p ks:=by
 cases d with
 | dT js xs=>
  obtain⟨a,vs,rfl,hq,hl,l⟩:=h;have ej:=a3k e;subst ej;exact⟨a,rfl,.inr ⟨vs,hq,by rw[<-c6 l,<-hl,zH]⟩⟩
 | lst ds=>
  obtain⟨a,vs,rfl,hq,l⟩:=h;obtain⟨as,rfl,al⟩:=S8 e l;exact⟨a,rfl,.inl ⟨as,hq,al⟩⟩
 | _=>cases e
theorem a7c:PrA X (k1 gSortT) (fun xs H Q=>∃p ks,xs=[.ref p]/\SrcT X.K H p ks/\ks.length<64/\(∀k∈ks,k≠[])/\∀l bs,H l=none->Al X.K H bs (sortK ks)->Q (.ref l) (upd H l (.lst (bs.map V.ref)))):=pr1 fun A d w v H Q e h q=>by
 unfold gSortT at e;cases e1:keysOf d with
 | none=>rw[e1] at e;cases e
 | some ks=>
  rw[e1] at e;simp only[bind_some] at e;split at e
  ·rename_i hl;cases e;obtain⟨a,rfl,src⟩:=a3N e1 h;exact⟨a,ks,rfl,src,hl.1,hl.2,fun l bs hp al=>q _ _ (i0 hp _) (G4 hp al.den)⟩
  ·cases e
theorem a9w:PrA X (k1 gSort) (fun xs H Q=>(∃(p:Addr) (ns:List Int),xs=[.ref p]/\SqL X.K H p (ns.map V.int)/\ns.length<64/\∀l,H l=none->Q (.ref l) (upd H l (.lst ((sortI ns).map V.int))))\/
  ∃p ks,xs=[.ref p]/\SrcT X.K H p ks/\ks.length<64/\(∀k∈ks,k≠[])/\∀l bs,H l=none->Al X.K H bs (sortK ks)->Q (.ref l) (upd H l (.lst (bs.map V.ref)))):=fun A ds w vs H Q hA e l q=>by
 match ds,e,l with
 | [d],e,l=>
  have e:gSort d=some w:=e;unfold gSort at e;cases e1:gSortI d with
  | some w'=>rw[e1] at e;cases e;exact .inl (a6C A [d] w vs H Q hA e1 l q)
  | none=>rw[e1] at e;exact .inr (a7c A [d] w vs H Q hA e l q)
theorem a10 {k:Nat}(hr:Room k X.A)(hc:X.calm=true)(hm:X.mg "sorted"=none)(ha:QA X [e] fa)(hv:bootBuiltins "sorted"=some (.builtin "sorted"):=by rfl)(hg:Gl X "sorted":=by rfl)
  (he:starEach [e] X.env=(false,eval e X.env)::starEach [] X.env:=by rfl):QX X (.Call (.Name "sorted" p) [e] [] pos) (fCall (k1 gSort) fa):=a3e (a2x.or (a2E hc)) a9w hv hm ha hg (by decide) (by decide) he rfl
end
def putTo (k j:Nat) (p:List W×Ev):Option Ev:=(takeAll p.2 p.1).bind fun q=>(dkeys q.1).bind fun kk=>match q.2[j]? with
 | some (some (.v d))=>match ownAt q.2 k with
  | some (.dT ks zs)=>if ks.length<lim/\q.1.length<=lim then some (setOwn q.2 k (.dT (putKs ks kk) (putX ks zs kk d))) else none
  | _=>none
 | _=>none
def turnCD (k:Nat) (gf:FG) (t:FT) (fa:FA) (j:Nat):D->Ev->Option Ev:=fun x ρ=>(gf x ρ).bind fun ρ1=>(t ρ1).bind fun p=>if p.1=true then(fa p.2).bind (putTo k j) else some p.2
section
variable {X:Cx}{a b e o:Expr}{es:List Expr}{pos p p2 apos:Pos}{f g h:FX}{t u:FT}{fa:FA}{x:Str}
theorem a9x:MtR X "int.bit_length" (fun x xs H Q=>∃i,x= .int i/\xs=[]/\Q (.int (Builtin.Int.intBits i:Nat)) H):=by
 intro pins s σ H x xs v us Q I rx rs h;obtain⟨i,rfl,rfl,q⟩:=h;obtain⟨t,rfl⟩:=rx;cases rs;exact call_gives PySem.F.slot_int_bit_length (typeIs_int s i t) PySem.F.entry_int_bit_length (PySem.F.args_int_bit_length_1 _) (AutoIntG2.int_bit_length_int_0 i t) ⟨.int _,H,I.tok _,⟨_,rfl⟩,q⟩
def oBits:D->Option W
 | .int i=>some (.v (.int (Builtin.Int.intBits i:Nat)))
 | _=>none
theorem a9T (ha:QX X a f)(hbase:attributeBase a "bit_length" X.env (eval a X.env)=eval a X.env:=by rfl)(hline:(apos.endLine==pos.line)=true:=by rfl):QX X (.Call (.Attribute a "bit_length" apos) [] [] pos) (fUn oBits f):=
 ⟨PE.weak (b1y PySem.F.plainAttrs_int PySem.F.slot_int_bit_length PySem.F.type_int_bit_length a9x ha.to hbase hline) fun σ H Q h=>by
 have z:=P7 (r:=fun v H Q=>∃i,v= .int i/\Q (.int (Builtin.Int.intBits i:Nat)) H) (X:=X) (op:=oBits) (f:=f) (by
  intro A x w v H Q _ e hx q;cases x with
  | int i=>cases e;exact⟨i,j9 hx,q _ H (Same.refl H) D3⟩
  | _=>cases e) σ H Q h
 obtain⟨P,O,L,ρ,w,ρ',r,e,q⟩:=z
 exact⟨P,O,L,ρ,w,ρ',r,e,fun v H1 H' r1 s1 d1=>by
  obtain⟨i,rfl,q'⟩:=q v H1 H' r1 s1 d1
  exact⟨rfl,i,rfl,rfl,q'⟩⟩⟩
def fDPutT (fd:FX) (fk:FA) (fv:FX):FS:=fun ρ=>(fv ρ).bind fun p=>(fd p.2).bind fun q=>match q.1 with
 | .r i=>(fk q.2).bind fun z=>(takeAll z.2 (p.1.fz::z.1)).bind fun y=>match y.1 with
  | d::ds=>(dkeys ds).bind fun k=>match ownAt y.2 i with
   | some (.dT ks xs)=>if ks.length<lim/\ds.length<=lim then some (.nx (setOwn y.2 i (.dT (putKs ks k) (putX ks xs k d)))) else none
   | _=>none
  | _=>none
 | _=>none
theorem a7V {k:Nat}{x1}{p1 p2:Pos}(hr:Room k X.A)(hd:QX X o f)(ha:QA X es fa)(hv:QX X e g)(hs:swapsWith e (some (.Subscript o (.Tuple es x1 p1) p2)) pos.line X.env=pure false:=by rfl):
  QS X (.Assign [.Subscript o (.Tuple es x1 p1) p2] e pos) (fDPutT f fa g):=by
 refine⟨PS.weak (a89 (a4Y hr) hd.to (a4h ha.to) hv.to hs) fun E σ H h0=>tSe h0 fun P O L ρ r rp e q=>?_⟩;unfold fDPutT at e;obtain⟨⟨w1,ρ1⟩,e1,e⟩:=obs e;dsimp only at e;obtain⟨⟨w2,ρ2⟩,e2,e⟩:=obs e;dsimp only at e;split at e
 ·rename_i i;obtain⟨⟨ws,ρ3⟩,e3,e⟩:=obs e;dsimp only at e;obtain⟨⟨dl,ρ4⟩,e4,e⟩:=obs e;dsimp only at e;split at e
  ·rename_i d ds;cases e5:dkeys ds with
   | none=>rw[e5] at e;cases e
   | some kk=>
    rw[e5] at e;simp only[bind_some] at e;split at e
    ·rename_i ks xs e6;split at e
     ·rename_i hl;cases e;refine⟨P,O,L,ρ,w1,ρ1,rp,e1,fun v H1 H1' r1 s1 d1=>?_⟩;obtain⟨P',r1',k1⟩:=hold (r1.grow s1) (d1.fz r1 s1);refine⟨P',O,L,ρ1,_,ρ2,r1',e2,fun v2 H2 H2' r2 s2 d2=>?_⟩;have d2:σ[i]? =some (some v2):=d2;refine⟨P',O,L,ρ2,ws,ρ3,r2.grow s2,e3,fun us H3 r3 l3=>?_⟩;obtain⟨r3',d3⟩:=k1 _ H3 r3;obtain⟨r4,l4,_⟩:=r0 (vs:=v::us) r3' e4 ⟨v,us,rfl,d3,l3⟩;rw[DenL] at l4;obtain⟨v',us',ev,hd',ld⟩:=l4;cases ev;have ek:=Y4 e5 ld;refine⟨?_,fun p hp=>?_⟩
      ·rw[<-c6 ld];exact zX hl.2 v7
      ·have sm:=i0 hp (.tup us);have r5:=r4.grow sm;obtain⟨w0,q0,ow⟩:=u7 e6;obtain⟨a,h1,vs,h4,hkl,lz⟩:=r5.obj q0 ow;rw[d2] at h1;cases h1;have hlv:ks.length=vs.length:=by rw[hkl,c6 lz]
       refine⟨a,_,rfl,DPut.t (k:=kk) h4 (.of (by rw[<-ek];exact j3)) ?_,?_⟩
       ·rw[List.length_zip,hlv,Nat.min_self,<-hlv];exact zF hl.1 v7
       ·rw[a9K hlv];have g0:∀u,Go (AvO O ρ4 σ) (AvO O ρ4 σ) (fun b=>b=a) (upd H3 p (.tup us)) (upd (upd H3 p (.tup us)) a u):=fun u=>⟨fun b o eb nb=>by rw[c9 nb];exact eb,fun b z=>by rw[z];exact⟨.inr ⟨i,w0,_,q0,ow,d2⟩,_,h4,trivial⟩,fun b z=>.inl z⟩
        exact q σ _ (r5.mut (d:=.dT (putKs ks kk) (putX ks xs kk d)) e6 d2 (fun b o eb nb=>by rw[c9 nb];exact eb) ⟨_,j3,a3E hkl,t8 (g0 _) _ _ (a7M lz (L5 sm hd'))⟩)
     ·cases e
    ·cases e
  ·cases e
 ·cases e
end
def kd1:Key->D
 | .inl i=>.int i
 | .inr x=>.str x
def keyD (k:List Key):D:=.tup (k.map kd1)
theorem a9I {K:PySem.W.Frag}{A:Av}{H:Hp}(k:Key):Den K A H (kd1 k) (kV k):=by
 cases k with
 | inl i=>exact D9.mpr rfl
 | inr x=>exact a0o.mpr rfl
theorem a3v {K:PySem.W.Frag}{A:Av}{H:Hp}:∀ks:List Key,DenL K A H (ks.map kd1) (ks.map kV)
 | []=>j7
 | k::ks=>by rw[zI,zI];exact j6 (a9I k) (a3v ks)
inductive KeysAt (K:PySem.W.Frag) (H:Hp):List (List Key)->List Addr->Prop where
 | nil:KeysAt K H [] []
 | cons {k:List Key} {ks:List (List Key)} {b:Addr} {bs:List Addr} (q:SqT K H b (k.map kV)) (r:KeysAt K H ks bs):KeysAt K H (k::ks) (b::bs)
theorem KeysAt.den {K:PySem.W.Frag}{A:Av}{H:Hp}:∀{ks:List (List Key)} {bs:List Addr},KeysAt K H ks bs->DenL K A H (ks.map keyD) (bs.map V.ref)
 | _,_,.nil=>j7
 | _,_,.cons q r=>by
  rw[zI,zI];refine j6 ?_ r.den;unfold keyD;rw[Den];exact⟨_,_,rfl,q,a3v _⟩
section
variable {o:Expr}
def gListD:D->Option W
 | .dT ks _=>some (.o (.lst (ks.map keyD)))
 | d=>gList d
def mExt (xs ds:List D):Option (W×List D):=match ds with
 | [d]=>(items d).bind fun ys=>if xs.length+ys.length<=lim then some (.v .non,xs++ys) else none
 | _=>none
end
section
variable {f g h:FX}{t:FT}{fa:FA}{ρ ρ1:Ev}{w z:W}{ws:List W}{d e x y:D}{ds xs ys:List D}{i j k:Nat}{m n:Int}{b:Bool}{kl:List (List Key)}{kk:List Key}{kq:List Key}
theorem a7o:oIxG (.tup xs) d=oIx (.tup xs) d:=rfl
theorem a8j:oIxG (.lst xs) d=oIx (.lst xs) d:=rfl
theorem b1J (hk:tkey d=some kk)(hl:look kl xs kk=some e):oIxG (.dT kl xs) d=some (.v e):=by
 unfold oIxG;simp only[isDi,qW,lookG,hk,jZ,bind_some,hl]
theorem a8Y {ns:List Int}(hi:intsOf xs=some ns):oInG b (.int n) (.tup xs)=some (nb b (decide (n∈ns))):=by
 unfold oInG;simp only[isDi,zZ,qY,items,bind_some,hi,jZ]
theorem a0n {ns:List Int}(hi:intsOf xs=some ns):oInG b (.int n) (.lst xs)=some (nb b (decide (n∈ns))):=by
 unfold oInG;simp only[isDi,zZ,qY,items,bind_some,hi,jZ]
theorem a90 {ns:List Int}{js:List (List Int)}(hx:intsOf ds=some ns)(hi:tupsOf xs=some js):oInG b (.tup ds) (.lst xs)=some (nb b (decide (ns∈js))):=by
 unfold oInG;simp only[isDi,zZ,qY,hx,items,bind_some,hi,jZ]
theorem nb_f {k:Bool}:nb false k= .v (.bl k):=rfl
theorem nb_t {k:Bool}:nb true k= .v (.bl (!k)):=rfl
def ge2 (fa:FA):Option (W×Ev)->Option (W×Ev)
 | some p=>fGet (fun _=>some p) fa p.2
 | none=>none
def ge3 (fa:FA) (w:W) (ρ:Ev):Option D->Option (W×Ev)
 | some d=>if isDi d=true then(fa ρ).bind fun q=>(takeAll q.2 q.1).bind fun z=>(dr z.2 w.fz).bind fun x=>match z.1 with
  | [y,e]=>(lookG x y).map fun r=>(.v (r.getD e),z.2)
  | _=>none
  else none
 | none=>none
def ge4 (w:W):Option (List W×Ev)->Option (W×Ev)
 | some q=>(takeAll q.2 q.1).bind fun z=>(dr z.2 w.fz).bind fun x=>match z.1 with
  | [y,e]=>(lookG x y).map fun r=>(.v (r.getD e),z.2)
  | _=>none
 | none=>none
def ge5 (w:W):Option (List D×Ev)->Option (W×Ev)
 | some z=>(dr z.2 w.fz).bind fun x=>match z.1 with
  | [y,e]=>(lookG x y).map fun r=>(.v (r.getD e),z.2)
  | _=>none
 | none=>none
def ge6 (y e:D) (ρ:Ev):Option D->Option (W×Ev)
 | some x=>(lookG x y).map fun r=>(.v (r.getD e),ρ)
 | none=>none
theorem r_ge:fGet f fa ρ=ge2 fa (f ρ):=by unfold ge2;cases e:f ρ with
 | none=>unfold fGet;rw[e];rfl
 | some p=>unfold fGet;rw[e]
theorem r_ge2:ge2 fa (some (w,ρ))=ge3 fa w ρ (dr ρ w.fz):=by unfold ge2 ge3 fGet;dsimp only[bind_some];cases dr ρ w.fz<;>rfl
theorem r_ge3_T:ge3 fa w ρ (some (.dT kl xs))=ge4 w (fa ρ):=by unfold ge3 ge4;simp only[isDi,qW];cases fa ρ<;>rfl
theorem r_ge3_K:ge3 fa w ρ (some (.dK kq xs))=ge4 w (fa ρ):=by unfold ge3 ge4;simp only[isDi,qW];cases fa ρ<;>rfl
theorem r_ge4:ge4 w (some (ws,ρ))=ge5 w (takeAll ρ ws):=by unfold ge4 ge5;dsimp only;cases takeAll ρ ws<;>rfl
theorem r_ge5:ge5 w (some ([y,e],ρ))=ge6 y e ρ (dr ρ w.fz):=by unfold ge5 ge6;dsimp only;cases dr ρ w.fz<;>rfl
theorem a09:∀ns:List Int,dkeys (ns.map D.int)=some (ns.map Sum.inl)
 | []=>rfl
 | n::ns=>by rw[zI,dkeys,a09 ns];rfl
theorem a9l (ns:List Int):tkey (tupI ns)=some (ns.map Sum.inl):=a09 ns
def dp2 (fd:FX) (fk:FA):Option (W×Ev)->Option R
 | some p=>fDPutT fd fk (fun _=>some p) p.2
 | none=>none
def dp3 (w:W) (fk:FA):Option (W×Ev)->Option R
 | some q=>match q.1 with
  | .r i=>(fk q.2).bind fun z=>(takeAll z.2 (w.fz::z.1)).bind fun y=>match y.1 with
   | d::ds=>(dkeys ds).bind fun k=>match ownAt y.2 i with
    | some (.dT ks xs)=>if ks.length<lim/\ds.length<=lim then some (.nx (setOwn y.2 i (.dT (putKs ks k) (putX ks xs k d)))) else none
    | _=>none
   | _=>none
  | _=>none
 | none=>none
def dp4 (w:W) (i:Nat):Option (List W×Ev)->Option R
 | some z=>(takeAll z.2 (w.fz::z.1)).bind fun y=>match y.1 with
   | d::ds=>(dkeys ds).bind fun k=>match ownAt y.2 i with
    | some (.dT ks xs)=>if ks.length<lim/\ds.length<=lim then some (.nx (setOwn y.2 i (.dT (putKs ks k) (putX ks xs k d)))) else none
    | _=>none
   | _=>none
 | none=>none
def dp5 (i:Nat):Option (List D×Ev)->Option R
 | some y=>match y.1 with
   | d::ds=>(dkeys ds).bind fun k=>match ownAt y.2 i with
    | some (.dT ks xs)=>if ks.length<lim/\ds.length<=lim then some (.nx (setOwn y.2 i (.dT (putKs ks k) (putX ks xs k d)))) else none
    | _=>none
   | _=>none
 | none=>none
def dp6 (i:Nat) (d:D) (ds:List D) (ρ:Ev):Option (List Key)->Option D->Option R
 | some k,some (.dT ks xs)=>if ks.length<lim/\ds.length<=lim then some (.nx (setOwn ρ i (.dT (putKs ks k) (putX ks xs k d)))) else none
 | _,_=>none
theorem r_dp:fDPutT f fa g ρ=dp2 f fa (g ρ):=by unfold dp2;cases e:g ρ with
 | none=>unfold fDPutT;rw[e];rfl
 | some p=>unfold fDPutT;rw[e]
theorem b0L:dp2 f fa (some (w,ρ))=dp3 w fa (f ρ):=by unfold dp2 dp3 fDPutT;dsimp only[bind_some];cases f ρ<;>rfl
theorem b0R:dp3 w fa (some (.r i,ρ))=dp4 w i (fa ρ):=by unfold dp3 dp4;dsimp only;cases fa ρ<;>rfl
theorem a93:dp4 w i (some (ws,ρ))=dp5 i (takeAll ρ (w.fz::ws)):=by unfold dp4 dp5;dsimp only;cases takeAll ρ (w.fz::ws)<;>rfl
theorem b0h:dp5 i (some (d::ds,ρ))=dp6 i d ds ρ (dkeys ds) (ownAt ρ i):=by
 unfold dp5 dp6;dsimp only;cases dkeys ds with
 | none=>cases ownAt ρ i<;>rfl
 | some k=>
  dsimp only[bind_some];cases ownAt ρ i with
  | none=>rfl
  | some x=>cases x<;>rfl
theorem b0H:dp6 i d ds ρ (some kk) (some (.dT kl xs))=if kl.length<lim/\ds.length<=lim then some (.nx (setOwn ρ i (.dT (putKs kl kk) (putX kl xs kk d)))) else none:=rfl
theorem b0N:dkeys []=some []:=rfl
theorem b0b:dkeys (.int m::ds)=(dkeys ds).map fun ks=>Sum.inl m::ks:=by rw[dkeys];rfl
theorem b0w:fDNewT ρ=some (.o (.dT [] []),ρ):=rfl
theorem a9p (h:kk∉kl):putKs kl kk=kl++[kk]/\putX kl xs kk d=xs++[d]:=⟨if_neg h,if_neg h⟩
theorem a2A:oBits (.int n)=some (.v (.int (Builtin.Int.intBits n:Nat))):=by cases n<;>exact rfl
theorem r_ext:mExt xs [d]=(items d).bind fun ys=>if xs.length+ys.length<=lim then some (.v .non,xs++ys) else none:=rfl
theorem b2f:gListD (.dT kl xs)=some (.o (.lst (kl.map keyD))):=rfl
theorem b2a:gListD (.lst xs)=some (.o (.lst xs)):=rfl
theorem b19:gListD (.tup xs)=some (.o (.lst xs)):=rfl
theorem a9Q (h:n.natAbs<2^k):Builtin.Int.intBits n<=k:=by
 unfold Builtin.Int.intBits
 split
 ·walk_at "o"
 ·rename_i h0;have h0':n.natAbs≠0:=by intro z;apply h0;simp;walk_at "o"
  have:=(Nat.log2_lt h0').mpr h
  walk_at "o"
def td2 (k j:Nat) (t:FT) (fa:FA):Option Ev->Option Ev
 | some ρ1=>(t ρ1).bind fun p=>if p.1=true then(fa p.2).bind (putTo k j) else some p.2
 | none=>none
def td3 (k j:Nat) (fa:FA):Option (Bool×Ev)->Option Ev
 | some p=>if p.1=true then(fa p.2).bind (putTo k j) else some p.2
 | none=>none
def td4 (k j:Nat):Option (List W×Ev)->Option Ev
 | some p=>putTo k j p
 | none=>none
def pt2 (k j:Nat):Option (List D×Ev)->Option Ev
 | some q=>(dkeys q.1).bind fun kk=>match q.2[j]? with
  | some (some (.v d))=>match ownAt q.2 k with
   | some (.dT ks zs)=>if ks.length<lim/\q.1.length<=lim then some (setOwn q.2 k (.dT (putKs ks kk) (putX ks zs kk d))) else none
   | _=>none
  | _=>none
 | none=>none
def pt3 (k:Nat) (n:Nat) (ρ:Ev):Option (List Key)->Option (Option W)->Option D->Option Ev
 | some kk,some (some (.v d)),some (.dT ks zs)=>if ks.length<lim/\n<=lim then some (setOwn ρ k (.dT (putKs ks kk) (putX ks zs kk d))) else none
 | _,_,_=>none
theorem r_td {gf:FG}:turnCD k gf t fa j d ρ=td2 k j t fa (gf d ρ):=by unfold turnCD td2;cases gf d ρ<;>rfl
theorem r_td2:td2 k j t fa (some ρ)=td3 k j fa (t ρ):=by unfold td2 td3;dsimp only;cases t ρ<;>rfl
theorem r_td3:td3 k j fa (some (true,ρ))=td4 k j (fa ρ):=by unfold td3 td4;simp only[qW];cases fa ρ<;>rfl
theorem r_td4:td4 k j (some (ws,ρ))=pt2 k j (takeAll ρ ws):=by unfold td4 putTo pt2;dsimp only;cases takeAll ρ ws<;>rfl
theorem r_pt2:pt2 k j (some (ds,ρ))=pt3 k ds.length ρ (dkeys ds) ρ[j]? (ownAt ρ k):=by
 unfold pt2 pt3;dsimp only;cases dkeys ds with
 | none=>rfl
 | some kk=>
  dsimp only[bind_some];cases ρ[j]? with
  | none=>rfl
  | some o=>
   cases o with
   | none=>rfl
   | some w=>
    cases w with
    | v d=>
     cases ownAt ρ k with
     | none=>rfl
     | some x=>cases x<;>rfl
    | _=>rfl
theorem r_pt3 {n:Nat}:pt3 k n ρ (some kk) (some (some (.v d))) (some (.dT kl xs))=if kl.length<lim/\n<=lim then some (setOwn ρ k (.dT (putKs kl kk) (putX kl xs kk d))) else none:=rfl
end
abbrev Tie:=Int×Int×Int
def tieD (t:Tie):D:=.tup [.int t.1,.int t.2.1,.int t.2.2]
def webD (n:Int) (ts:List Tie):D:=.tup [.int n,.tup (ts.map tieD)]
def tkK (t:Tie):List Key:=[Sum.inl t.1,Sum.inl t.2.1]
structure WebOk (n:Int) (ts:List Tie):Prop where
 n1:1<=n/\n<=8
 t:∀t∈ts,0<=t.1/\t.1<t.2.1/\t.2.1<n/\1<=t.2.2/\t.2.2<=10^15
 nd:(ts.map fun t=>(t.1,t.2.1)).Nodup
 len:ts.length<=55
def gainOf:List Tie->List Int->Int
 | [],_=>0
 | t::ts,k=>if[t.1,t.2.1]=k then t.2.2 else gainOf ts k
theorem a9y {a b:List Int}(h:a.map (Sum.inl:Int->Key)=b.map Sum.inl):a=b:=by
 induction a generalizing b with
 | nil=>cases b with|nil=>rfl|cons _ _=>cases h
 | cons x a ih=>cases b with
  | nil=>cases h
  | cons y b=>rw[zI,zI] at h;injection h with h1 h2;injection h1 with h1;rw[h1,ih h2]
theorem b1X (t:Tie):tkK t=[t.1,t.2.1].map Sum.inl:=rfl
theorem Q7:∀{ts:List Tie} {k:List Int},k∈(ts.map fun t=>[t.1,t.2.1])->look (ts.map tkK) (ts.map fun t=>D.int t.2.2) (k.map Sum.inl)=some (.int (gainOf ts k))
 | [],k,h=>by cases h
 | t::ts,k,h=>by
  rw[zI,zI,look,gainOf]
  by_cases e:[t.1,t.2.1]=k
  ·rw[if_pos (by rw[b1X,e]),if_pos e]
  ·rw[if_neg (show ¬tkK t=k.map Sum.inl from fun z=>e (a9y z)),if_neg e];rcases zN.mp h with rfl|h
   ·exact absurd rfl e
   ·exact Q7 h
theorem P5 (ts:List Tie):lfL (ts.map tieD)=true:=V6 fun x hx=>by
 obtain⟨t,_,rfl⟩:=qG.mp hx;rfl
theorem a9z (k:List Int):lf (tupI k)=true:=l0 k
theorem U8 (ks:List (List Int)):lfL (ks.map tupI)=true:=V6 fun x hx=>by
 obtain⟨k,_,rfl⟩:=qG.mp hx;exact a9z k
theorem U3 {C:Prop}{b:D->FS}{xs:List D}{ρ:Ev}{r:Option R}(e:loopF b xs ρ=r)(I:Nat->Ev->Prop)(h0:I 0 ρ)(st:∀i x ρ,xs[i]? =some x->I i ρ->∃ρ',b x ρ=some (.nx ρ')/\I (i+1) ρ')(c:∀ρ',r=some (.nx ρ')->I xs.length ρ'->C):C:=by
 have key:∀(ys:List D) (k:Nat) (ρ:Ev),xs.drop k=ys->I k ρ->k<=xs.length->∃ρ',loopF b ys ρ=some (.nx ρ')/\I xs.length ρ':=by
  intro ys
  induction ys with
  | nil=>
   intro k ρ hk h hl
   have:k=xs.length:=by
    have:=List.drop_eq_nil_iff.mp hk;walk_at "o"
   exact⟨ρ,rfl,this▸h⟩
  | cons y ys ih=>
   intro k ρ hk h hl;have hx:xs[k]? =some y:=by
    have:=congrArg (·[0]?) hk
    simpa using this
   have lt:=(zQ.mp hx).1;obtain⟨ρ1,e1,i1⟩:=st k y ρ hx h;obtain⟨ρ2,e2,i2⟩:=ih (k+1) ρ1 (by rw[<-List.drop_drop,hk];rfl) i1 lt
   exact⟨ρ2,by rw[loopF,e1];exact e2,i2⟩
 obtain⟨ρ',e',i⟩:=key xs 0 ρ (by simp) h0 (jG _)
 exact c ρ' (e.symm.trans e') i
theorem a3Q {m:Int}{n i:Nat}{x:D}(h:(rngD m n)[i]? =some x):x= .int (m+i)/\i<n:=by
 unfold rngD at h;rw[qH] at h
 by_cases hi:i<n
 ·rw[getElem?_range hi] at h;cases h;exact⟨rfl,hi⟩
 ·rw[jR (by simpa using hi)] at h;cases h
def Sm (n:Int):Prop:=0<n/\n.natAbs<2^390
theorem Sm.pos {n:Int}(h:Sm n):0<n:=h.1
theorem Sm.bits {n:Int}(h:Sm n):Builtin.Int.intBits n<=390:=a9Q h.2
def Pot (b:Nat) (d:D):Prop:=∃r c s:Int,d= .lst [.int r,.int c,.int s]/\0<=c/\c<=b/\0<=s/\s<2147483647
theorem Pot.mono {b b':Nat}{d:D}(h:Pot b d)(hb:b<=b'):Pot b' d:=by
 obtain⟨r,c,s,e,h1,h2,h3⟩:=h;exact⟨r,c,s,e,h1,by walk_at "o",h3⟩
theorem Pot.lf {b:Nat}{d:D}(h:Pot b d):lfC d=true:=by obtain⟨r,c,s,rfl,_⟩:=h;rfl
section
variable {ρ:Ev}{i:Nat}{d:D}{xs:List D}
def fn2 (ρ:Ev):Option (Option W)->Option (List D×Ev)
 | some (some (.v d))=>(items d).map fun xs=>(xs,ρ)
 | some (some (.r _))=>none
 | some (some w)=>match w.own with
  | some (.lst xs)=>some (xs,ρ)
  | _=>none
 | _=>none
def fn3 (ρ:Ev):Option (List D)->Option (List D×Ev)
 | some xs=>some (xs,ρ)
 | none=>none
theorem r_fn:fiName i ρ=fn2 ρ ρ[i]?:=by
 unfold fiName fn2;cases ρ[i]? with
 | none=>rfl
 | some o=>cases o with
  | none=>rfl
  | some w=>cases w<;>rfl
theorem a8P:fn2 ρ (some (some (.v d)))=fn3 ρ (items d):=by
 show(items d).map _=_;unfold fn3;cases items d<;>rfl
theorem a74:fn2 ρ (some (some (.o (.lst xs))))=some (xs,ρ):=rfl
theorem r_fn_l:fn2 ρ (some (some (.l (.lst xs))))=some (xs,ρ):=rfl
theorem b0e:fn3 ρ (some xs)=some (xs,ρ):=rfl
end
mutual
def toP:D->PyData
 | .non=>.none
 | .bl b=>.bool b
 | .int i=>.int i
 | .str x=>.str x
 | .tup xs=>.tuple (toPs xs)
 | .lst xs=>.list (toPs xs)
 | _=>.none
def toPs:List D->List PyData
 | []=>[]
 | x::xs=>toP x::toPs xs
end
section
open Classical in
end
section
variable {X:Cx}{a:Expr}{f:FX}{pos:Pos}
theorem a9J {ta:TE}(ha:PE X a ta):PE X (.UnaryOp .Not a pos) (fun σ H Q=>ta σ H fun x H'=>∃k,TruV X.K x H' k/\Q (.bl (!k)) H'):=by
 intro pins s σ H Q I h;refine UnaryOp_ (thn (ha pins s σ H _ I h) fun v s1 ⟨x,H1,I1,r1,q1⟩=>?_);obtain⟨k,q1,q2⟩:=q1;exact not_of (zR (a6H pins s1 σ H1 x v (fun k' H'=>Q (.bl (!k')) H') I1 r1 ⟨k,q1,q2⟩) (fun b s2 ⟨H2,I2,q3⟩=>⟨.bl (!b),H2,I2,rfl,q3⟩) (fun _ _ z=>z))
def fNotT (f:FX):FX:=fun ρ=>(fTru f ρ).map fun p=>(.v (.bl (!p.1)),p.2)
theorem a5r (ha:QX X a f):QX X (.UnaryOp .Not a pos) (fNotT f):=⟨PE.weak (a9J ha.to) fun σ H Q h0=>tXe h0 fun P O L ρ w0 ρ' r e q=>by
 unfold fNotT fTru at e;cases e1:f ρ with
 | none=>rw[e1] at e;cases e
 | some p=>
  obtain⟨w,ρ1⟩:=p;rw[e1] at e;simp only[bind_some] at e;cases e2:dr ρ1 w.fz with
  | none=>rw[e2] at e;cases e
  | some d=>
   rw[e2] at e;simp only[bind_some] at e;cases e3:truth d with
   | none=>rw[e3] at e;cases e
   | some k'=>
    rw[e3] at e;cases e
    exact⟨P,O,L,ρ,w,_,r,e1,fun v H1 H' r1 s1 d1=>⟨k',a49 e3 (C6 (r1.grow s1) e2 (d1.fz r1 s1)),q _ H' H' (r1.grow s1) (Same.refl _) t5⟩⟩⟩
end
section
variable {f:FX}{ρ:Ev}{k:Bool}
def nt2:Option (Bool×Ev)->Option (W×Ev)
 | some p=>some (.v (.bl (!p.1)),p.2)
 | none=>none
theorem r_nt:fNotT f ρ=nt2 (tru2 (f ρ)):=by unfold fNotT;rw[a7w];unfold nt2;cases tru2 (f ρ)<;>rfl
theorem b0X:nt2 (some (k,ρ))=some (.v (.bl (!k)),ρ):=rfl
end
def key2 (t:Tie):List Int:=[t.1,t.2.1]
theorem a7k {t u:Tie}(h:key2 t=key2 u):t.1=u.1/\t.2.1=u.2.1:=by
 unfold key2 at h;injection h with h1 h2
 injection h2 with h2 _
 exact⟨h1,h2⟩
theorem a81 {ts:List Tie}:(ts.map fun t=>(t.1,t.2.1)).Nodup↔(ts.map key2).Nodup:=by
 rw[List.Nodup,xU,List.Nodup,xU];constructor
 ·exact fun h=>h.imp fun{a b} hab z=>hab (by obtain⟨z1,z2⟩:=a7k z;rw[z1,z2])
 ·exact fun h=>h.imp fun{a b} hab z=>hab (by injection z with z1 z2;unfold key2;rw[z1,z2])
theorem a0R:∀{ts:List Tie},(ts.map key2).Nodup->∀{t:Tie},t∈ts->gainOf ts (key2 t)=t.2.2
 | [],_,t,h=>by cases h
 | u::ts,nd,t,h=>by
  rw[zI,nodup_cons] at nd;rw[gainOf];rcases zN.mp h with rfl|h
  ·exact if_pos rfl
  ·rw[if_neg fun z=>nd.1 (by rw[show key2 u=key2 t from z];exact qG.mpr ⟨t,h,rfl⟩)]
   exact a0R nd.2 h
def tieOf (ts:List Tie) (k:List Int):Tie:=(k.getD 0 0,k.getD 1 0,gainOf ts k)
def resort (ts:List Tie):List Tie:=(sortK (ts.map key2)).map (tieOf ts)
theorem M7 {ts:List Tie}(nd:(ts.map key2).Nodup):(resort ts).Perm ts:=by
 unfold resort;refine((p5 (ts.map key2)).map (tieOf ts)).trans ?_;rw[jA]
 have:ts.map (tieOf ts∘key2)=ts:=by
  conv=>rhs;rw[<-map_id ts]
  apply xE;intro t ht;show(t.1,t.2.1,gainOf ts (key2 t))=t;rw[a0R nd ht]
 rw[this]
theorem WebOk.perm {n:Int}{ts us:List Tie}(h:WebOk n us)(p:ts.Perm us):WebOk n ts where
 n1:=h.n1
 t:=fun t ht=>h.t t (p.mem_iff.mp ht)
 nd:=(p.map _).nodup_iff.mpr h.nd
 len:=by rw[p.length_eq];exact h.len
theorem WebOk.nk {n:Int}{ts:List Tie}(h:WebOk n ts):(ts.map key2).Nodup:=a81.mp h.nd
structure Bq (m:Nat) (q:Rat):Prop where
 nn:0<=q
 le:q<=((10^12:Int):Rat)
 dn:q.den<2^m
theorem Bq.sz {m:Nat}{q:Rat}(h:Bq m q):Sz (m+41) q:=by
 refine⟨?_,zF h.dn (jK (by decide) (by walk_at "o"))⟩
 have h1:=Rat.num_nonneg.mpr h.nn;have h2:=(Rat.le_iff _ _).mp h.le;rw[Rat.num_intCast,Rat.den_intCast] at h2;have h3:q.num<=10^12*(q.den:Int):=by
  have:q.num*((1:Nat):Int)=q.num:=by walk_at "o"
  rw[this] at h2;exact h2
 have h4:(q.num.natAbs:Int)<=10^12*(q.den:Int):=by walk_at "o"
 have h5:q.num.natAbs<=10^12*q.den:=by exact_mod_cast h4
 have h6:10^12*q.den<2^41*2^m:=Nat.mul_lt_mul'' (by decide) h.dn
 rw[<-Nat.pow_add,Nat.add_comm] at h6;walk_at "o"
theorem a4f {C:Prop}{c:FT}{b:FS}{ρ:Ev}{r:Option R}(e:whileV c b ρ=r)(I J:Ev->Prop)(μ:Ev->Nat)(h0:I ρ)(st:∀ρ,I ρ->(∃ρ1,c ρ=some (false,ρ1)/\J ρ1)\/∃ρ1 ρ2,c ρ=some (true,ρ1)/\b ρ1=some (.nx ρ2)/\I ρ2/\μ ρ2<μ ρ)(fin:∀ρ',r=some (.nx ρ')->J ρ'->C):C:=by
 have key:∀(k:Nat) (ρ:Ev),μ ρ<=k->I ρ->∃m ρ',whileF c b m ρ=some (.nx ρ')/\J ρ':=by
  intro k
  induction k with
  | zero=>
   intro ρ hk hi;rcases st ρ hi with ⟨ρ1,e1,j⟩|⟨ρ1,ρ2,e1,e2,i2,lt⟩
   ·exact⟨1,ρ1,by rw[whileF,e1];rfl,j⟩
   ·walk_at "o"
  | succ k ih=>
   intro ρ hk hi;rcases st ρ hi with ⟨ρ1,e1,j⟩|⟨ρ1,ρ2,e1,e2,i2,lt⟩
   ·exact⟨1,ρ1,by rw[whileF,e1];rfl,j⟩
   ·obtain⟨m,ρ',e3,j⟩:=ih ρ2 (by walk_at "o") i2
    exact⟨m+1,ρ',by rw[whileF,e1];simp only[bind_some,qW,e2];exact e3,j⟩
 obtain⟨m,ρ',e',j⟩:=key _ ρ (zE _) h0;exact fin ρ' (e.symm.trans (a6h e')) j
def up (m:Nat):List Int:=(List.range m).map fun(i:Nat)=>0+(i:Int)
theorem a4d (m:Nat):rngD 0 m=(up m).map D.int:=by unfold rngD up;rw[jA];rfl
theorem J9 {m:Nat}{x:Int}:x∈up m↔0<=x/\x<m:=by
 unfold up;rw[qG];constructor
 ·rintro⟨i,hi,rfl⟩;rw[xB] at hi;walk_at "o"
 ·intro h;exact⟨x.toNat,xB.mpr (by walk_at "o"),by walk_at "o"⟩
theorem a2d (m:Nat):(up m).length=m:=by unfold up;simp
theorem P1 (m:Nat):(up m).Pairwise (· < ·):=by
 unfold up;rw[xU];exact List.pairwise_lt_range.imp fun h=>by walk_at "o"
theorem a8f (m:Nat):(up m).Nodup:=(P1 m).imp fun h=>by walk_at "o"
theorem a8I {K:PySem.W.Frag}{P:Program}{w:World}{H:Hp}{h:Heap}{a:Addr}{o:HO}(x:ObjOk K P w H h a o):∃ob,h.get? a=some ob:=by
 cases o with
 | lst xs=>obtain⟨_,_,_,_,e⟩:=x;exact⟨_,e⟩
 | tup xs=>obtain⟨_,_,_,_,e,_⟩:=x;exact⟨_,e⟩
 | dK kvs=>obtain⟨_,_,_,_,o,_,e,_⟩:=x;exact⟨_,e⟩
 | dT kvs=>obtain⟨_,_,_,_,o,_,e,_⟩:=x;exact⟨_,e⟩
 | set S n=>obtain⟨o,_,_,_,e,_⟩:=x;exact⟨_,e⟩
 | ins C dx fs=>obtain⟨_,_,_,e,_⟩:=x;exact⟨_,e⟩
 | own y=>obtain⟨_,e⟩:=x;exact⟨_,e⟩
 | xd fs=>obtain⟨_,⟨_,_,_,e,_⟩,_⟩:=x;exact⟨_,e⟩
 | rng lo hi=>obtain⟨_,_,_,e⟩:=x;exact⟨_,e⟩
 | frz ob u=>obtain⟨e,_⟩:=x;exact⟨_,e⟩
 | tbl ps=>exact⟨_,(show h.get? a=some _ from x)⟩
 | met f y=>exact⟨_,(show h.get? a=some _ from x)⟩
 | ext φ=>obtain⟨_,e,_⟩:=x;exact e
structure Fly (K:PySem.W.Frag) (P:Program) (w:World) (l:List Env) (H:Hp) (s:Shared) (C x:Addr) (H':Hp) (s':Shared):Prop where
 os:s'.os=s.os
 bare:AllBare s'.gens
 un:Un (frs l) [] H H' s.heap s'.heap
 hok:HOk K P w H' s'.heap
 fly:∃B a0,Heap.FlyingW B l x (.ref C) a0 s'.heap/\∀b o,s'.heap.get? b=some o->b∉frs l->((∃o0,s.heap.get? b=some o0)\/H' b≠none)->B.get? b=some o
def CXE (K:PySem.W.Frag) (P:Program) (w:World):CXT:=fun l H s E e s'=>∃C x H',e= .ref x/\Fly K P w l H s C x H' s'/\E e (some C) H'
section
variable {X:Cx}{pins:List (Addr×PySem.Obj)}{σ:L2.St}{H H':Hp}{s s':Shared}{h'' B:Heap}{x C:Addr}{a0:Value}
theorem a4g (I:Inv X pins σ H' s')(hex:X.ex=[])(sl:∀b o,s'.heap.get? b=some o->b∈frs X.outer->∃t,h''.get? b=some {o with slots:=t})(hfl:Heap.FlyingW B X.outer x (.ref C) a0 h'')
  (hB:∀b o,s'.heap.get? b=some o->b∉frs X.stack->((∃o0,X.s₀.heap.get? b=some o0)\/H' b≠none)->B.get? b=some o):
  Fly X.K X.prog X.w X.outer X.H₀ X.s₀ C x H' {s' with heap:=h''}:=by
 have nex:∀b,b∉X.ex:=fun b z=>by rw[hex] at z;cases z
 have inB:∀b o,s'.heap.get? b=some o->b∉frs X.stack->((∃o0,X.s₀.heap.get? b=some o0)\/H' b≠none)->h''.get? b=some o:=fun b o e hb hc=>hfl.1 b o (hB b o e hb hc);have nl:∀b o,X.s₀.heap.get? b=some o->b≠X.env.locals:=fun b o e=>zG (zF (zO e) I.ok.above);have ns:∀b,b≠X.env.locals->b∉frs X.outer->b∉frs X.stack:=fun b n hb z=>(zN.mp (I.stkSub b z)).elim n hb;refine⟨I.os,I.bare,⟨fun b o e n hb _=>inB b o (I.base.keep b o e n hb (nex b)) (ns b (nl b o e) hb) (.inl ⟨o,e⟩),fun b o e n hb _=>?_,fun b o e n _=>I.base.free b o e n (nex b),fun b o e _=>?_,I.base.tups,I.base.frzs,I.base.tbls⟩,fun b u q=>?_,B,a0,hfl,fun b o e hb hc=>?_⟩
 ·obtain⟨t,e1⟩:=I.base.slot b o e n hb (nex b);obtain⟨t',e2⟩:=sl b _ e1 hb;exact⟨t',e2⟩
 ·obtain⟨o',e1⟩:=I.base.there b o e (nex b)
  by_cases hb:b∈frs X.outer
  ·obtain⟨t',e2⟩:=sl b _ e1 hb;exact⟨_,e2⟩
  ·exact⟨o',inB b o' e1 (ns b (nl b o e) hb) (.inl ⟨o,e⟩)⟩
 ·refine(I.hok b u q).stay (fun c v hc e=>?_) (fun _ q=>q) fun _ _ q=>q;have tr:H' c≠none:=by
   rcases hc with z|z
   ·rw[z,q];exact fun z=>nomatch z
   ·rw[z];exact fun z=>nomatch z
  exact inB c v e (fun z=>tr (I.stkFree c z)) (.inr tr)
 ·have nlb:b≠X.env.locals:=by
   rcases hc with ⟨o0,e0⟩|z
   ·exact nl b o0 e0
   ·exact fun y=>z (by rw[y];exact I.free)
  have hb':=ns b nlb hb;obtain⟨o',e1⟩:∃o',s'.heap.get? b=some o':=by
   rcases hc with ⟨o0,e0⟩|z
   ·exact I.base.there b o0 e0 (nex b)
   ·cases q:H' b with
    | none=>exact absurd q z
    | some u=>exact a8I (I.hok b u q)
  have e2:=hB b o' e1 hb' hc;have e3:=hfl.1 b o' e2;rw[show({s' with heap:=h''}:Shared).heap=h'' from rfl] at e
  rw[e3] at e;cases e;exact e2
theorem a91 (I:Inv X pins σ H' s')(hsm:s'.heap.UpToSlots h''):∀b o,s'.heap.get? b=some o->b∈frs X.outer->∃t,h''.get? b=some {o with slots:=t}:=fun b o e hb=>by
 obtain⟨o',e',nf⟩:=(I.funs.mem hb).2;rw[e] at e';cases e';exact hsm b o e nf
theorem Fly.inv (I:Inv X pins σ H s)(F:Fly X.K X.prog X.w X.stack H s C x H' s'):Inv X pins σ H' s':=by
 obtain⟨hh,g,d,t,os'⟩:=s';obtain rfl:os'=s.os:=F.os;exact I.call (h':=hh) (g':=g) (d':=d) (t':=t) (ch:=[]) F.un F.hok F.bare (fun b z=>absurd z (by simp))
def Thr (X:Cx) (C:Addr) (v:Value) (s':Shared):Prop:=∃pins σ x H1 s1,v= .ref x/\Inv X pins σ H1 s1/\Same X.H₀ H1/\
 ((∃h' args,Heap.MadeExcOf s1.heap h' x (.ref C) args/\s'={s1 with heap:=h'})\/(∃H',Same H1 H'/\Fly X.K X.prog X.w X.stack H1 s1 C x H' s')\/
   ∃h' B a0,s'={s1 with heap:=h'}/\Heap.HeldW B X.stack x (.ref C) a0 X.env.locals h'/\(∀b o,s1.heap.get? b=some o->b∈frs X.outer->∃t,h'.get? b=some {o with slots:=t})/\
   ∀b o,s1.heap.get? b=some o->b∉frs X.stack->((∃o0,X.s₀.heap.get? b=some o0)\/H1 b≠none)->B.get? b=some o)
theorem a5Z {M:Model}{E:Value->Shared->Prop}{Q:Unit->Shared->Prop}{v:Value}(T:Thr X C v s')(hst:X.stack=X.env::X.outer)(hf:X.env.frame=some X.env.locals)(hex:X.ex=[])
  (hQ:∀x H' s'',v= .ref x->Same X.H₀ H'->Fly X.K X.prog X.w X.outer X.H₀ X.s₀ C x H' s''->Q () s''):wpAny M X.A (leaving X.env v) Q E s':=by
 obtain⟨pins,σ,x,H1,s1,rfl,I,sm,h⟩:=T;have fr:X.A.frames=some (X.env::X.outer):=by rw[I.ok.frames,hst]
 rcases h with ⟨h',args,hx,rfl⟩|⟨H',sm',F⟩|⟨h',B,a0,rfl,hh,hsl,hB⟩
 ·refine wpAny_leaves_madeW (base:=PySem.W.hideAll s1.heap (frs X.stack)) (h:=s1.heap) fr hf (fun b o q=>PySem.W.of_hideAll _ q) ?_ hx fun h'' t x1 x2 x3 x4=>?_
  ·rw[<-hst];exact PySem.W.funFrames_hide I.stack fun env he a ha=>yQ.mpr ⟨env,he,ha⟩
  ·have F:=a4g (X:=X) (h'':=h'') (s':=s1) I hex (a91 I ((Heap.UpToSlots.of_keeps hx.keeps).trans x4)) x1 (fun b o e hb _=>PySem.W.hideAll_get _ e hb);exact hQ x H1 _ rfl sm F
 ·obtain⟨B,a0,hfl,hB⟩:=F.fly;have I':=F.inv I;refine wpAny_leaves_onW fr hf (by rw[<-hst];exact hfl) fun h'' hfl'' hsm=>?_
  have G:=a4g (X:=X) (h'':=h'') (s':=s') I' hex (a91 I' hsm) hfl'' (fun b o e hb hc=>hB b o e hb (hc.imp (fun⟨o0,e0⟩=>I.base.there b o0 e0 (fun z=>by rw[hex] at z;cases z)) id))
  exact hQ x H' _ rfl (sm.trans sm') G
 ·unfold leaving;refine zA (wpAny_noteFrame_againW hf hh.2.2.2 (wpAny_landsW hh fun h'' hfl hsm=>?_));rw[hst] at hfl;obtain⟨k1,k2,⟨_,_,k3⟩,k4⟩:=hfl;refine hQ x H1 _ rfl sm (a4g (X:=X) (h'':=h'') (s':=s1) I hex (fun b o e hb=>?_) ⟨k1,k2,k3,k4⟩ hB);obtain⟨o',e',nf⟩:=(I.funs.mem hb).2;rw[e] at e';cases e';obtain⟨t,e1⟩:=hsl b o e hb;obtain⟨t',e2⟩:=hsm b {o with slots:=t} e1 nf
  exact⟨t',e2⟩
end
abbrev bmV:List Value:=[.type "ValueError",.type "Exception",.type "BaseException",.type "object"]
abbrev nwV:String:="ValueError.__new__"
theorem a86 {K:PySem.W.Frag}{h:Heap}{C:Addr}{bmB:List Value}{newId:String}(X:K.In h)(q:PySem.W.excIn K C bmB newId=true):
  ∃bm N nm qn bs hd sn sub ab col dd k0 k1 k2 k3 k5 mN,h.get? C=some (excClassObj nm qn C N bs bm hd sn sub ab col dd k0 k1 k2 k3 k5 newId)/\h.Ns N mN/\mN "__init__"=none/\OwnTail h bmB bm:=by
 unfold PySem.W.excIn at q;split at q
 ·rename_i dd cd sl ho;split at q
  ·rename_i C' bm k0 k1 k2 k3 n k5 hm hs;simp only[jQ,beq_iff_eq,Bool.not_eq_true'] at q;obtain⟨⟨⟨⟨⟨rfl,rfl⟩,hdel⟩,ht⟩,hok⟩,hni⟩:=q;obtain⟨nm,bs,mro,ns,qn,hd,sn,sub,ab,col,del⟩:=cd;dsimp only at hm hdel hok hni;subst hm hdel;have hsl:sl= #[k0,k1,k2,k3,some (.builtin n),k5]:=by
    obtain⟨l⟩:=sl;simp only at hs;rw[hs]
   subst hsl;exact⟨bm,ns,nm,qn,bs,hd,sn,sub,ab,col,dd,k0,k1,k2,k3,k5,_,X _ _ ho,.of_isNs (PySem.W.isNs_of_in X hok),PySem.W.nsMap_none_of_in X hok hni,PySem.W.tail_of_in X ht⟩
  ·cases q
 ·cases q
abbrev inx (X:Cx) (v:Value):Cx:={X with A:=X.A.mark (some v),calm:=false,xe:=fun _ _=>False}
section
variable {X:Cx}{pins:List (Addr×PySem.Obj)}{σ:L2.St}{H H1 H':Hp}{s s1 s':Shared}{h5 B:Heap}{x C:Addr}{v:Value}
theorem b1e (ok:X.Ok):(inx X v).Ok:=
 ⟨ok.mod,ok.kind,ok.glob,ok.blt,ok.above,ok.inj,ok.has,ok.cab,(fun z=>nomatch z),ok.frames,ok.stk,ok.exf,ok.bs,ok.bsz,ok.noex,ok.exfs,ok.funs,ok.frf⟩
theorem a4t (I:Inv X pins σ H s):Inv (inx X v) pins σ H s:=⟨b1e I.ok,I.os,I.bare,I.base,I.loc,I.cell,I.free,I.freeC,I.pin,I.hok,I.len⟩
theorem b1k (ok:X.Ok)(I:Inv (inx X v) pins σ H s):Inv X pins σ H s:=⟨ok,I.os,I.bare,I.base,I.loc,I.cell,I.free,I.freeC,I.pin,I.hok,I.len⟩
theorem a3I (I1:Inv X pins σ H1 s1)(I:Inv X pins σ H' s')(hst:X.stack=X.env::X.outer)(hf:X.env.frame=some X.env.locals)(hex:X.ex=[])
  (hB:∀b o,s'.heap.get? b=some o->b∉frs X.stack->((∃o0,s1.heap.get? b=some o0)\/H' b≠none)->B.get? b=some o) (st:B.StaysIn h5) (sm:s'.heap.UpToSlots h5):Inv X pins σ H' {s' with heap:=h5}:=by
 have nex:∀b,b∉X.ex:=fun b z=>by rw[hex] at z;cases z
 have inB:∀b o,s'.heap.get? b=some o->b∉frs X.stack->((∃o0,s1.heap.get? b=some o0)\/H' b≠none)->h5.get? b=some o:=fun b o e hb hc=>st b o (hB b o e hb hc);have nl:∀b o,X.s₀.heap.get? b=some o->b≠X.env.locals:=fun b o e=>zG (zF (zO e) I.ok.above);have ns:∀b,b≠X.env.locals->b∉frs X.outer->b∉frs X.stack:=fun b n hb z=>(zN.mp (I.stkSub b z)).elim n hb;have sub:∀b,b∈frs X.outer->b∈frs X.stack:=fun b hb=>by rw[hst];unfold frs at hb ⊢;rw[xQ,hf];exact zL _ hb
 have sl:∀b o,s'.heap.get? b=some o->b∈frs X.stack->∃t,h5.get? b=some {o with slots:=t}:=fun b o e hb=>by
  obtain⟨o',e',nf⟩:=(I.stack.mem hb).2;rw[e] at e';cases e';exact sm b o e nf
 have cellK:∀c v,s'.heap.IsCell c v->h5.IsCell c v:=fun c v ⟨o,ho,hd⟩=>by
  obtain⟨t,e⟩:=sm c o ho (fun vs z=>by rw[hd] at z;cases z)
  exact⟨_,e,hd⟩
 refine⟨I.ok,I.os,I.bare,⟨fun b o e n hb hx=>inB b o (I.base.keep b o e n hb hx) (ns b (nl b o e) hb) (.inl (I1.base.there b o e hx)),fun b o e n hb hx=>?_,I.base.free,fun b o e hx=>?_,I.base.tups,I.base.frzs,I.base.tbls⟩,?_,fun y c e=>?_,I.free,I.freeC,fun p hp=>?_,fun b u q=>?_,I.len⟩
 ·obtain⟨t,e1⟩:=I.base.slot b o e n hb hx;obtain⟨t',e2⟩:=sl b _ e1 (sub b hb);exact⟨t',e2⟩
 ·obtain⟨o',e1⟩:=I.base.there b o e hx
  by_cases hb:b∈frs X.stack
  ·obtain⟨t',e2⟩:=sl b _ e1 hb;exact⟨_,e2⟩
  ·exact⟨o',inB b o' e1 hb (.inl (I1.base.there b o e hx))⟩
 ·obtain⟨m,hn,hl⟩:=I.loc;refine⟨m,sm.ns hn,fun i y v e1 e2 e3=>?_⟩;obtain⟨u,r,l⟩:=hl i y v e1 e2 e3;refine⟨u,r,?_⟩;rcases l with l|⟨k,c,e,z⟩
  ·exact .inl l
  ·exact .inr ⟨k,c,e,cellK c _ z⟩
 ·obtain⟨v,z⟩:=I.cell y c e;exact⟨v,cellK c v z⟩
 ·obtain⟨e,n,ne,nf,d⟩:=I.pin p hp;exact⟨inB p.1 p.2 e (ns p.1 ne nf) (.inl ⟨_,(I1.pin p hp).1⟩),n,ne,nf,d⟩
 ·refine(I.hok b u q).stay (fun c v hc e=>?_) (fun _ q=>q) fun _ _ q=>q;have tr:H' c≠none:=by
   rcases hc with z|z
   ·rw[z,q];exact fun z=>nomatch z
   ·rw[z];exact fun z=>nomatch z
  exact inB c v e (fun z=>tr (I.stkFree c z)) (.inr tr)
theorem a5Q (I:Inv X pins σ H s)(hx:H x=none)(h0:X.s₀.heap.get? x=none)(hL:x≠X.env.locals)(hc:∀y c,X.env.cells.lookup y=some c->c≠x)(hp:∀p∈X.pn++pins,p.1≠x)(e:ExcAt x C s.heap):
  Inv X pins σ (upd H x (.ext (ExcAt x C))) s:=by
 have ne:∀b u,H b=some u->b≠x:=fun b u q z=>by rw[z,hx] at q;cases q
 refine⟨I.ok,I.os,I.bare,⟨I.base.keep,I.base.slot,fun b o q n hx'=>?_,I.base.there,fun b xs q=>?_,fun b o u q=>?_,fun b ps q=>?_⟩,I.loc,I.cell,?_,fun y c q=>?_,fun p q=>?_,fun b u q=>?_,I.len⟩
 ·rw[c9 (fun z=>by rw[z,h0] at q;cases q)];exact I.base.free b o q n hx'
 ·have:=I.base.tups b xs q;rw[c9 (ne _ _ this)];exact this
 ·have:=I.base.frzs b o u q;rw[c9 (ne _ _ this)];exact this
 ·obtain⟨m,this⟩:=I.base.tbls b ps q;exact⟨m,by rw[c9 (ne _ _ this)];exact this⟩
 ·rw[c9 (qM hL)];exact I.free
 ·rw[c9 (hc y c q)];exact I.freeC y c q
 ·obtain⟨e,n,n2,nf,d⟩:=I.pin p q;exact⟨e,by rw[c9 (hp p q)];exact n,n2,nf,d⟩
 ·by_cases hb:b=x
  ·subst hb;rw[j3] at q;cases q;obtain⟨o,vs,e1,e2⟩:=e;exact⟨⟨o,vs,e1,e2⟩,⟨o,e1⟩,fun h1 h2 ⟨o,vs,e1,e2⟩ k=>⟨o,vs,k o e1,e2⟩⟩
  ·rw[c9 hb] at q;exact(I.hok b u q).stay (fun _ _ _ e=>e) (fun c z=>by rw[c9 (ne _ _ z)];exact z) fun c xs z=>z.upd (z.elim (ne _ _) fun⟨_,q⟩=>ne _ _ q)
theorem a7S {i:Nat}{n:Str}{u:Option Value}{m:Str->Option Value}{h':Heap}{t:Nat}(I:Inv X pins σ H s)(hN:X.N.Nodup)(hi:X.N[i]? =some n)(hm:∀(j:Nat) (y:Str) (v:V),X.N[j]? =some y->σ[j]? =some (some v)->Vis X.env.scope y->∃u,RelV v u/\Look X.env s.heap m y u)
  (hn':h'.Ns X.env.locals (fun y=>if y=n then u else m y)) (hs:Heap.SameBut X.env.locals s.heap h'):Inv X pins (σ.set i none) H {s with heap:=h',toks:=t}:=by
 have nl:∀b o,X.s₀.heap.get? b=some o->b≠X.env.locals:=fun b o e=>zG (zF (zO e) I.ok.above);refine⟨I.ok,I.os,I.bare,⟨fun b o e n hb hx=>(hs.2 b (nl b o e)).trans (I.base.keep b o e n hb hx),fun b o e n hb hx=>?_,I.base.free,fun b o e hx=>?_,I.base.tups,I.base.frzs,I.base.tbls⟩,⟨_,hn',fun j y v e1 e2 e3=>?_⟩,fun y c e=>?_,I.free,I.freeC,fun p hp=>?_,fun b u q=>?_,by simpa using I.len⟩
 ·obtain⟨sl,e1⟩:=I.base.slot b o e n hb hx;exact⟨sl,(hs.2 b (nl b o e)).trans e1⟩
 ·obtain⟨o',e1⟩:=I.base.there b o e hx;exact⟨o',(hs.2 b (nl b o e)).trans e1⟩
 ·by_cases hj:j=i
  ·subst hj;rw[List.getElem?_set,if_pos rfl] at e2;split at e2<;>cases e2
  ·rw[zM (qM hj)] at e2;obtain⟨u',r',q⟩:=hm j y v e1 e2 e3;refine⟨u',r',?_⟩;rcases q with ⟨k,e⟩|⟨k,c,e,z⟩
   ·refine .inl ⟨k,?_⟩
    have:y≠n:=fun e=>hj (a0H hN e1 (e▸hi))
    simp[this,e]
   ·exact .inr ⟨k,c,e,z.sameBut hs (I.cne y c e)⟩
 ·obtain⟨w',z⟩:=I.cell y c e;exact⟨w',z.sameBut hs (I.cne y c e)⟩
 ·obtain⟨e,n,ne,nf,d⟩:=I.pin p hp;exact⟨(hs.2 p.1 ne).trans e,n,ne,nf,d⟩
 ·refine(I.hok b u q).stay (fun c v hc e=>(hs.2 c ?_).trans e) (fun _ q=>q) fun _ _ q=>q;rintro rfl;rcases hc with z|z
  ·rw[<-z,I.free] at q;cases q
  ·rw[I.free] at z;cases z
end
abbrev FR:=Ev->Option Addr
abbrev FRe:=Ev->Option (Addr×Ev)
section
variable {X:Cx}{P:List (D×V)}{O:Av}{L:List (Option Nat×Addr)}{ρ:Ev}{σ:L2.St}{H:Hp}{E:Value->Shared->Prop}{v:Value}
theorem Rep.same0 (r:Rep X P O [] ρ σ H):Same X.H₀ H:=fun b o e=>r.same b o e fun i z=>by simp at z
theorem Rep.wish (r:Rep X P O L ρ σ H):Rep (X.wish E) P O L ρ σ H:=⟨r.same,r.amb,r.len,r.slot,r.inj,r.new,r.lnt,r.lnd,r.prot,r.gvl⟩
theorem Rep.unwish (r:Rep (X.wish E) P O L ρ σ H):Rep X P O L ρ σ H:=⟨r.same,r.amb,r.len,r.slot,r.inj,r.new,r.lnt,r.lnd,r.prot,r.gvl⟩
theorem a9O (r:Rep X P O L ρ σ H):Rep (inx X v) P O L ρ σ H:=⟨r.same,r.amb,r.len,r.slot,r.inj,r.new,r.lnt,r.lnd,r.prot,r.gvl⟩
theorem b1Q (r:Rep (inx X v) P O L ρ σ H):Rep X P O L ρ σ H:=⟨r.same,r.amb,r.len,r.slot,r.inj,r.new,r.lnt,r.lnd,r.prot,r.gvl⟩
end
structure PR (X:Cx) (st:Stmt) (r:FR):Prop where
 to:∀(pins:List (Addr×PySem.Obj)) (s:Shared) (σ:L2.St) (H:Hp) (P:List (D×V)) (O:Av) (ρ:Ev) (C:Addr),Inv X pins σ H s->Rep X P O [] ρ σ H->r ρ=some C->(∀v s',Thr X C v s'->X.xe v s')->
  wpAny (model X.prog X.w) X.A (exec st X.env) (fun _ _=>False) X.xe s
structure PRs (X:Cx) (st:List Stmt) (r:FR):Prop where
 to:∀(pins:List (Addr×PySem.Obj)) (s:Shared) (σ:L2.St) (H:Hp) (P:List (D×V)) (O:Av) (ρ:Ev) (C:Addr),Inv X pins σ H s->Rep X P O [] ρ σ H->r ρ=some C->(∀v s',Thr X C v s'->X.xe v s')->
  wpAny (model X.prog X.w) X.A (execs st X.env) (fun _ _=>False) X.xe s
structure PRe (X:Cx) (e:Expr) (r:FRe):Prop where
 to:∀(pins:List (Addr×PySem.Obj)) (s:Shared) (σ:L2.St) (H:Hp) (P:List (D×V)) (O:Av) (ρ ρ':Ev) (C:Addr),Inv X pins σ H s->Rep X P O [] ρ σ H->r ρ=some (C,ρ')->
  wpAny (model X.prog X.w) X.A (eval e X.env) (fun _ _=>False) (fun v s'=>∃x H1 s1 H',v= .ref x/\Inv X pins σ H1 s1/\Rep X P O [] ρ' σ H1/\Same H1 H'/\Fly X.K X.prog X.w X.stack H1 s1 C x H' s') s
def spR (K:PySem.W.Frag) (gx:List D->Option Addr):Sp:=fun vs H _ E=>∃(A:Av) (ds:List D) (C:Addr),(∀b,A b->∃o,H b=some o)/\DenL K A H ds vs/\gx ds=some C/\∀v H',Same H H'->E v (some C) H'
structure FnR (P:Program) (w:World) (K:PySem.W.Frag) (mg:Str->Option Value) (base:Heap) (x:Str) (k:Nat) (gx:List D->Option Addr):Prop where
 ex:∃(f:Addr) (fd:FuncData) (ps:List Str),FnOk P w K mg base (CXE K P w) k f fd ps (spR K gx)/\Binds K fd ps []/\PySem.W.keepIn K (.ref f)=true/\mg x=some (.ref f)
theorem FnR.mono {P:Program}{w:World}{K:PySem.W.Frag}{mg:Str->Option Value}{base:Heap}{x:Str}{j k:Nat}{g:List D->Option Addr}(F:FnR P w K mg base x j g)(h:j<=k):FnR P w K mg base x k g:=by
 obtain⟨f,fd,ps,a,b,c,d⟩:=F.ex;exact⟨f,fd,ps,a.mono h,b,c,d⟩
theorem a0G {K:PySem.W.Frag}{A:Av}{σ:L2.St}{H:Hp}:∀{ws:List W} {vs:List V},DenA K A σ H ws vs->ws.length=vs.length
 | [],[],_=>rfl
 | w::ws,[],h=>by simp[DenA] at h
 | [],v::vs,h=>by simp[DenA] at h
 | w::ws,v::vs,h=>by
  simp only[DenA] at h
  first
  | (obtain⟨a,b,e,_,t⟩:=h;cases e;rw[zV,zV,a0G t])
  | (rw[zV,zV,a0G h.2])
section
variable {X:Cx}{e:Expr}{es:List Expr}{pos p np cpos:Pos}{fa:FA}{x:Str}{k:Nat}{C:Addr}{st:Stmt}{rest bd els:List Stmt}{F:FS}{r r1 r2:FR}{t:FT}{c:Expr}
def fRaise (C:Addr) (fa:FA):FR:=fun ρ=>(fa ρ).bind fun p=>if p.1.length<=lim then some C else none
theorem a8T (hc:X.calm=true)(ex:X.mg x=some (.ref C))(q:PySem.W.excIn X.K C bmV nwV=true)(ha:QA X.nox (e::es) fa)(hg:Gl X x:=by rfl)(hdb:(x==("__debug__":Str))=false:=by decide)
  (he:starEach (e::es) X.env=(false,eval e X.env)::starEach es X.env:=by rfl) (hpl:(backTo cpos (starEach es X.env)).any (·.1)=false:=by rfl):
  PR X (.Raise (some (.Call (.Name x np) (e::es) [] cpos)) none pos) (fRaise C fa):=by
 refine⟨fun pins s σ H P O ρ C' I rp hr hx=>?_⟩;unfold fRaise at hr;cases e1:fa ρ with
 | none=>rw[e1] at hr;cases hr
 | some pp=>
  obtain⟨ws,ρ1⟩:=pp;rw[e1] at hr;simp only[bind_some] at hr;split at hr
  ·rename_i hl;cases hr;obtain⟨bm,N,nm,qn,bs,hd,sn,sub,ab,col,dd,k0,k1,k2,k3,k5,mN,hC,hN,hni,T⟩:=a86 I.ok.mod.kin q;refine wpAny_Raise_call_subT (C:=C) (nm:=nm) (q:=qn) (N:=N) (bs:=bs) (bm:=bm) (hdct:=hd) (sn:=sn) (sub:=sub) (ab:=ab) (col:=col) (dd:=dd) (k0:=k0) (k1:=k1) (k2:=k2) (k3:=k3) (k5:=k5)
    PySem.F.excBase_ValueError (mN:=mN) (T.hasType PySem.F.excBase_ValueError.hasBase) (I.ok.hd hc) (by rw[he];show(false||(backTo cpos (starEach es X.env)).any (·.1))=false;rw[hpl];rfl) hni (U6 I hg ex ⟨rfl,?_⟩ hdb)
   have h2:=ha.to cpos pins s σ H (fun vs H1=>vs.length<=sizeLine/\Same X.H₀ H1) (I.wish _) ⟨P,O,[],ρ,ws,ρ1,rp.wish,e1,fun vs H1 r1 l1=>⟨by rw[<-a0G l1];exact zX hl v7,r1.unwish.same0⟩⟩
   rw[he];rw[show X.nox.env=X.env from rfl,he] at h2;refine Calls.evalArgs_plain (zR h2 (fun us s2 ⟨vs,H2,I2,rel,hl2,sm⟩=>⟨rfl,by rw[<-rel.length];exact hl2,I2.bk _ _ hC,hN.keeps I2.bk,T.keeps I2.bk,fun h' x hm=>?_⟩) fun _ _ z=>z.elim)
   exact hx _ _ ⟨pins,σ,x,H2,s2,rfl,I2.unwish,sm,.inl ⟨h',us,hm,rfl⟩⟩
  ·cases hr
theorem a9d:PRs X [] (fun _=>none):=⟨fun _ _ _ _ _ _ _ _ _ _ z _=>nomatch z⟩
def fRN (F:FS) (r:FR):FR:=fun ρ=>(F ρ).bind fun q=>match q with|.nx ρ'=>r ρ'|_=>none
theorem a75 (h1:QS X.nox st F)(h2:PRs X rest r):PRs X (st::rest) (fRN F r):=by
 refine⟨fun pins s σ H P O ρ C I rp hr hx=>?_⟩;unfold fRN at hr;cases e1:F ρ with
 | none=>rw[e1] at hr;cases hr
 | some q=>
  rw[e1] at hr;simp only[bind_some] at hr;cases q with
  | nx ρ'=>
   have h:=h1.to pins s σ H {nx:=fun σ' H'=>Rep X P O [] ρ' σ' H',rt:=fun _ _=>False} (I.wish _) ⟨P,O,[],ρ,.nx ρ',rp.wish,e1,fun σ' H' rp'=>rp'.unwish⟩;refine yJ (zR h (fun f s1 q=>?_) fun _ _ z=>z.elim);cases f with
   | next=>obtain⟨σ',H',I',rp'⟩:=q;exact h2.to pins s1 σ' H' P O ρ' C I'.unwish rp' hr hx
   | ret v=>obtain⟨_,_,_,_,_,z⟩:=q;exact z.elim
   | brk=>obtain⟨_,_,_,z⟩:=q;exact z.elim
   | cont=>obtain⟨_,_,_,z⟩:=q;exact z.elim
  | bk ρ'=>cases hr
  | ct ρ'=>cases hr
  | rt d ρ'=>cases hr
theorem a3F (h1:PR X st r):PRs X (st::rest) r:=
 ⟨fun pins s σ H P O ρ C I rp hr hx=>yJ (zR (h1.to pins s σ H P O ρ C I rp hr hx) (fun _ _ z=>z.elim) fun _ _ z=>z)⟩
def fRIf (t:FT) (r1 r2:FR):FR:=fun ρ=>(t ρ).bind fun p=>if p.1=true then r1 p.2 else r2 p.2
theorem pr_if (hc:QT X.nox c t)(ha:PRs X bd r1)(hb:PRs X els r2):PR X (.If c bd els pos) (fRIf t r1 r2):=by
 refine⟨fun pins s σ H P O ρ C I rp hr hx=>?_⟩;unfold fRIf at hr;cases e1:t ρ with
 | none=>rw[e1] at hr;cases hr
 | some pp=>
  obtain⟨k,ρ1⟩:=pp;rw[e1] at hr;simp only[bind_some] at hr;have h:=hc.to pins s σ H (fun b H1=>b=k/\Rep X P O [] ρ1 σ H1) (I.wish _) ⟨P,O,[],ρ,k,ρ1,rp.wish,e1,fun H1 r1=>⟨rfl,r1.unwish⟩⟩;refine wpAny_If (zR h (fun b s1 ⟨H1,I1,hb',r1'⟩=>?_) fun _ _ z=>z.elim);subst hb';cases b with
  | true=>exact ha.to pins s1 σ H1 P O ρ1 C I1.unwish r1' hr hx
  | false=>exact hb.to pins s1 σ H1 P O ρ1 C I1.unwish r1' hr hx
def fRCall (gx:List D->Option Addr) (fa:FA):FRe:=fun ρ=>(fa ρ).bind fun p=>(drs p.2 p.1).bind fun ds=>(gx ds).map fun C=>(C,p.2)
theorem a7W {gx:List D->Option Addr}(F:FnR X.prog X.w X.K X.mg X.base x k gx)(hr:Room k X.A)(ha:QA X.nox (e::es) fa)(hg:Gl X x:=by rfl)(hdb:(x==("__debug__":Str))=false:=by decide)
  (he:starEach (e::es) X.env=(false,eval e X.env)::starEach es X.env:=by rfl) (hpl:(backTo pos (starEach es X.env)).any (·.1)=false:=by rfl):PRe X (.Call (.Name x p) (e::es) [] pos) (fRCall gx fa):=by
 refine⟨fun pins s σ H P O ρ ρ' C I rp hc=>?_⟩;unfold fRCall at hc;obtain⟨⟨ws,ρ1⟩,e1,hc⟩:=obs hc;dsimp only at hc;obtain⟨ds,e2,hc⟩:=obs hc;obtain⟨C',e3,hc⟩:=oms hc;cases hc;obtain⟨f,fd,ps,F,b,kp,hm⟩:=F.ex;have h:=ha.to pos pins s σ H (fun vs H1=>Rep X P O [] ρ' σ H1/\DenA X.K (AvO O ρ' σ) σ H1 ws vs) (I.wish _) ⟨P,O,[],ρ,ws,ρ',rp.wish,e1,fun vs H1 r1 l1=>⟨r1.unwish,l1⟩⟩;refine xV (U6 I hg hm ?_ hdb);refine PySem.W.callWith_K (h₀:=X.base) I.ok.mod.kin kp (zR h (fun us s1 ⟨vs,H1,I1,rel,r1,l1⟩=>⟨I1.kIn,?_⟩) fun _ _ z=>z.elim) he hpl;have I2:=I1.unwish;have sp:spR X.K gx vs H1 (fun _ _=>False) (fun v oc H'=>oc=some C/\Same H1 H'):=⟨fun b=>AvO O ρ' σ b/\¬Handed ρ' σ ws b,ds,C,fun b z=>r1.there z.1,Y5 r1 (fun b z=>z.1) (fun b z=>z.2) e2 l1,e3,fun v H' s2=>⟨rfl,s2⟩⟩;have hl:us.length=ps.length:=by rw[<-rel.length];exact F.len _ _ _ _ sp
 have bb:=b s1 us I2.kIn (by rw[yT];exact hl)
 rw[yT] at bb;refine wpAny_call (yK (F.run X.A X.stack s1 H1 ⟨us,[]⟩ us vs _ _ hr I2.env0 bb rel sp) fun r s' hq=>?_);cases r with
 | error v=>
  obtain⟨C',x',H',ev,fl,ec,s2⟩:=hq;cases ec;exact⟨x',H1,s1,H',ev,I2,r1,s2,fl⟩
 | ok fl=>
  cases fl with
  | ret u=>obtain⟨_,_,_,_,_,_,_,z⟩:=hq;exact z.elim
  | next=>exact False.elim hq
  | brk=>exact False.elim hq
  | cont=>exact False.elim hq
end
section
variable {P:Program}{w:World}{K:PySem.W.Frag}{mg:Str->Option Value}{base:Heap}
def runR (np n:Nat) (r:FR):List D->Option Addr:=fun ds=>if ds.length=np then r (start0 n ds) else none
theorem b1D {x:Str}{st:Stmt}{f:Addr}{fd:FuncData}{N ps:List Str}{k np n:Nat}{r:FR}(F:Fun K x x st f fd)(S:FnScope N ps (defScope st))(B:Binds K fd ps [])(hm:mg x=some (.ref f))(hp:ps.length=np)(hn:N.length=n)
  (body:∀(cdv:Value) (A:Around) (outer:List Env) (s:Shared) (H:Hp) (E:XK),Room k (A.deeper (envOfC x (defScope st) s.heap.objs.size f cdv))->
   PRs (cxOf (CXE K P w) P w K mg base N x (defScope st) f cdv A outer s H E) (defBody st) r):FnR P w K mg base x (k+1) (runR np n r):=by
 refine⟨f,fd,ps,?_,B,F.kp,hm⟩;obtain⟨oc,od,kV,doc,pm,an,cdv,ct,osl,rfl,lk,hcd⟩:=F.ex;refine b0k lk hcd S (fun vs H Q E ⟨A,ds,C,hA,l,e,q⟩=>?_) fun A outer s H vs Q E hr ⟨A',ds,C,hA,l,e,q⟩=>?_
 ·unfold runR at e;split at e
  ·rename_i hl;rw[<-c6 l,hl,hp]
  ·cases e
 ·unfold runR at e;split at e
  ·rename_i hl;refine⟨fun _ σ H1=>σ=start N vs/\H1=H,fun pins s1 σ H1 D I hq=>?_,rfl,rfl⟩;obtain⟨rfl,rfl⟩:=hq;exact zR ((body cdv A outer s _ E hr).to pins s1 _ _ [] _ _ C I (W7 rfl hn hA l) e fun v s' T=>a5Z T rfl rfl rfl fun x H' s'' ev sm G=>⟨C,x,H',ev,G,q v H' sm⟩) (fun _ _ z=>z.elim) fun _ _ z=>z
  ·cases e
end
def noL (ρ:Ev):Bool:=ρ.all fun o=>match o with
 | some (.l _)=>false
 | _=>true
section
variable {X:Cx}{P:List (D×V)}{O:Av}{L:List (Option Nat×Addr)}{ρ:Ev}{σ:L2.St}{H:Hp}
theorem Rep.noL (r:Rep X P O L ρ σ H)(h:noL ρ=true):L=[]:=by
 cases L with
 | nil=>rfl
 | cons p L=>
  obtain⟨i,a,hi⟩:∃(i:Nat) (a:Addr),(some i,a)∈p::L:=by
   obtain⟨o,b⟩:=p;cases o with
   | none=>exact r.gvl b zJ
   | some i=>exact⟨i,b,zJ⟩
  obtain⟨d,e,_⟩:=r.lnd i a hi;have z:=yI.mp h _ (qQ e);cases z
theorem Rep.drop (r:Rep X P O L ρ σ H){i:Nat}(hf:freeSlot ρ i=true):Rep X P O L (ρ.set i none) (σ.set i none) H:=by
 have sub:∀b,AvO O (ρ.set i none) (σ.set i none) b->AvO O ρ σ b:=fun b z=>by
  rcases z with z|⟨j,w,c,e1,e2,e3⟩
  ·exact .inl z
  ·rcases l7 e1 with ⟨rfl,z,_⟩|⟨n,e1⟩
   ·cases z
   ·rw[zM (qM n)] at e3;exact .inr ⟨j,w,c,e1,e2,e3⟩
 have g:=w6 (H:=H) sub;have st:∀{j:Nat} {w:W},(ρ.set i none)[j]? =some (some w)->j≠i/\ρ[j]? =some (some w):=fun{j w} e1=>by
  rcases l7 e1 with ⟨rfl,z,_⟩|z
  ·cases z
  ·exact z
 refine⟨r.same,r.amb,by rw[length_set,length_set];exact r.len,fun j w e=>?_,fun j k w w' c c' b e1 e2 e3 e4 e5 e6=>?_,fun j c b e1 e2=>?_,fun j c e=>?_,fun j b e=>?_,fun p hp=>p7 g _ _ (r.prot p hp),r.gvl⟩
 ·obtain⟨n,e⟩:=st e;obtain⟨u,h1,h2⟩:=r.slot j w e;exact⟨u,by rw[zM (qM n)];exact h1,C3 g (fun _ _ _ _=>rfl) h2⟩
 ·obtain⟨n1,e1⟩:=st e1;obtain⟨n2,e4⟩:=st e4;rw[zM (qM n1)] at e3;rw[zM (qM n2)] at e6;exact r.inj j k w w' c c' b e1 e2 e3 e4 e5 e6
 ·obtain⟨n1,e1⟩:=st e1;rw[zM (qM n1)] at e2;exact r.new j c b e1 e2
 ·obtain⟨n1,e1⟩:=st e;rw[zM (qM n1)];exact r.lnt j c e1
 ·obtain⟨d,e1,e2⟩:=r.lnd j b e;have n:j≠i:=fun z=>by subst z;unfold freeSlot at hf;rw[e1] at hf;cases hf
  exact⟨d,by rw[zM (qM n)];exact e1,by rw[zM (qM n)];exact e2⟩
end
def fTry (i:Nat) (kc:Addr->Option Bool) (f:FX) (r:FRe) (G:FS):FS:=fun ρ=>match r ρ with
 | some (C,ρ1)=>if(noL ρ=true/\freeSlot ρ1 i=true)/\kc C=some true then(G (ρ1.set i (some (.v (.exn C))))).bind fun q=>match q with
   | .nx ρ'=>if freeSlot ρ' i=true then some (.nx (ρ'.set i none)) else none
   | _=>none
  else none
 | none=>(f ρ).map fun p=>.nx p.2
section
variable {X:Cx}{e:Expr}{ep np hp pos:Pos}{f:FX}{r:FRe}{G:FS}{T n:Str}{CT:Addr}{b₀:Stmt}{suite:List Stmt}
theorem b06 (i:Nat){kc:Addr->Option Bool}(hN:X.N.Nodup)(hT:X.mg T=some (.ref CT))(hk:∀C b,kc C=some b->PySem.W.exmOne X.K (.ref C) (.ref CT)=some b)(hn:QX X e f)(hr:PRe X e r)(hG:∀v,QSs (inx X v) (b₀::suite) G)
  (hi:X.N[i]? =some n:=by rfl) (hl:X.env.kindOf n=some .local:=by rfl) (hg:Gl X T:=by rfl) (hdb:(T==("__debug__":Str))=false:=by decide) (hs:swapsWith e none ep.line X.env=pure false:=by rfl)
  (hst:X.stack=X.env::X.outer:=by rfl) (hf:X.env.frame=some X.env.locals:=by rfl) (hex:X.ex=[]:=by rfl) (hxe:X.xe=fun _ _=>False:=by rfl):
  QS X (.Try [.Expr e ep] [.ExceptHandler (some (.Name T np)) (some n) (b₀::suite) hp] [] [] pos) (fTry i kc f r G):=by
 refine⟨fun pins s σ H D I ⟨P,O,L,ρ,res,rp,he,q⟩=>?_⟩;unfold fTry at he;cases e1:r ρ with
 | none=>
  rw[e1] at he;dsimp only at he;cases e2:f ρ with
  | none=>rw[e2] at he;cases he
  | some pp=>
   obtain⟨w,ρ'⟩:=pp;rw[e2] at he;cases he;refine wpAny_Try_except (yJ ?_);have h:=hn.to pins s σ H (fun _ H1=>Rep X P O L ρ' σ H1) I ⟨P,O,L,ρ,w,ρ',rp,e2,fun v H1 H2 r1 s1 _=>r1.grow s1⟩;refine wpAny_Expr_any (zR h (fun v s1 ⟨x,H1,I1,_,r1⟩=>?_) fun v s1 z=>?_) I.quiet hs
   ·exact yS (yS ⟨σ,H1,I1,q σ H1 r1⟩)
   ·rw[hxe] at z;exact z.elim
 | some cc=>
  obtain⟨C,ρ1⟩:=cc;rw[e1] at he;dsimp only at he;split at he
  ·rename_i hkc;obtain⟨⟨hnl,hfs⟩,hkc⟩:=hkc;obtain rfl:=rp.noL hnl;cases e2:G (ρ1.set i (some (.v (.exn C)))) with
   | none=>rw[e2] at he;cases he
   | some qq=>
    rw[e2] at he;simp only[bind_some] at he;cases qq with
    | bk _=>cases he
    | ct _=>cases he
    | rt _ _=>cases he
    | nx ρ'=>
     simp only at he;split at he
     case isFalse=>cases he
     case isTrue hfr=>
     cases he;have fr:X.A.frames=some (X.env::X.outer):=by rw[I.ok.frames,hst]
     refine wpAny_Try_except (yJ (wpAny_Expr_any (zR (hr.to pins s σ H P O ρ ρ1 C I rp e1) (fun _ _ z=>z.elim) fun v s' hv=>?_) I.quiet hs));obtain⟨x,H1,s1,H',rfl,I1,rp1,sm2,F⟩:=hv;have I':=F.inv I1;obtain⟨B,a0,hfl,hB⟩:=F.fly;rw[hst] at hfl;refine wpAny_looks_onW fr hf hfl fun h4 held4 sm4=>?_;refine wpAny_landsW held4 fun h5 hfl5 sm5=>?_;have I5:=a3I I1 I' hst hf hex hB hfl5.1 (sm4.trans sm5);obtain⟨ob,hob,hobc⟩:=hfl.there;obtain⟨oe,ws,hoe,_,hoed,_⟩:=hfl.first;have nB:B.get? x=none:=hfl.2.1;have xs:x∉frs X.stack:=fun z=>by
      obtain⟨o',e',nf⟩:=(I'.stack.mem z).2;rw[hoe] at e';cases e';exact nf _ hoed
     have notin:∀b o,s1.heap.get? b=some o->b∉frs X.stack->b≠x:=fun b o e0 hb z=>by
      subst z
      have:=hB b oe hoe hb (.inl ⟨o,e0⟩)
      rw[nB] at this;cases this
     have xH:H' x=none:=by
      cases z:H' x with
      | none=>rfl
      | some u=>
       have:=hB x oe hoe xs (.inr (by rw[z];exact fun y=>nomatch y))
       rw[nB] at this;cases this
     have xL:x≠X.env.locals:=fun z=>xs (by rw[z,hst];unfold frs;rw[xQ,hf];exact zJ)
     have x0:X.s₀.heap.get? x=none:=by
      cases z:X.s₀.heap.get? x with
      | none=>rfl
      | some o=>
       obtain⟨o',e'⟩:=I1.base.there x o z (fun y=>by rw[hex] at y;cases y)
       exact absurd rfl (notin x o' e' xs)
     have xC:∀y c,X.env.cells.lookup y=some c->c≠x:=fun y c ec z=>by
      obtain⟨v,o,ho,hd⟩:=I'.cell y c ec;rw[z,hoe] at ho;cases ho;rw[hoed] at hd;cases hd
     have xP:∀p∈X.pn++pins,p.1≠x:=fun p hp=>by
      obtain⟨e0,_,ne,nf,_⟩:=I1.pin p hp;exact notin p.1 p.2 e0 (fun z=>(zN.mp (I1.stkSub p.1 z)).elim ne nf)
     refine wpAny_handleBy_cons (codeAny_handlers_test ?_) (by intro z;cases z)
     refine U6 (X:=inx X (.ref x)) (a4t I5) hg hT ?_ hdb;obtain⟨ob5,hob5,hobc5⟩:=hfl5.there;have LT:PySem.W.Looks (model X.prog X.w) h5 (typeOf (.ref x)) (.ref C):=hobc5▸(PySem.W.Looks.ld hob5).andThen .now;refine(PySem.W.exm_one (K:=X.K) I5.kIn LT (hk C true hkc)) _ _ _ _ (fun _ _ z=>z) ?_;refine codeAny_handlers_suite_as ?_;refine lands_againW hfl5 fun h6 hfl6 sm6=>?_;have I6:=a3I I1 I' hst hf hex hB hfl6.1 (sm4.trans (sm5.trans sm6));obtain⟨oe6,ws6,hoe6,hoec6,hoed6,_⟩:=hfl6.first;have I7:=a5Q (C:=C) I6 xH x0 xL xC xP ⟨oe6,ws6,hoe6,hoec6,hoed6⟩;refine a0E (v:=.ref x) I7 hN hi (.inl hl) rfl (fun s8 I8=>?_) (.inr hl);have rp8:=(rp1.grow (sm2.trans (i0 xH _))).put (i:=i) (d:=.exn C) (v:=.ref x) hfs (by rw[Den];exact⟨x,rfl,j3⟩)
     have h9:=(hG (.ref x)).to pins s8 _ _ {nx:=fun σ' H''=>Rep X P O [] ρ' σ' H'',rt:=fun _ _=>False} (a4t I8) ⟨P,O,[],_,.nx ρ',a9O rp8,e2,fun σ' H'' rp'=>b1Q rp'⟩;refine zR h9 (fun fl s9 hq=>?_) fun _ _ z=>z.elim;cases fl with
     | ret v=>obtain⟨_,_,_,_,_,z⟩:=hq;exact z.elim
     | brk=>obtain⟨_,_,_,z⟩:=hq;exact z.elim
     | cont=>obtain⟨_,_,_,z⟩:=hq;exact z.elim
     | next=>
      obtain⟨σ9,H9,I9,rp9⟩:=hq;have I9':=b1k I.ok I9;obtain⟨m,hnm,hlk⟩:=id I9'.loc;refine wpAny_nameGoes_keeps hl hnm (by rw[I.ok.kind];rfl) fun h10 u hn10 hs10=>?_
      exact⟨_,H9,a7S I9' hN hi hlk hn10 hs10,q _ H9 (rp9.drop hfr)⟩
  ·cases he
end
section
variable {prog:Program}{w:World}{A:Around}{E:Value->Shared->Prop}{K:PySem.W.Frag}{h:Heap}{g:Array GenState}{d:Drawn}{t:Nat}{os:OsState}{a C:Addr}{o:PySem.Obj}
theorem a1e {R:Result->Shared->Prop}{tp:Value}(X:K.In h)(hx:h.get? a=some o)(hc:o.cls= .ref C)(hm:PySem.W.mroIn K C (.type "object")=some true)(hq:R (.ok (.ret (.ref C))) ⟨h,g,d,t,os⟩):
  codeAny (model prog w) A (.call (.builtin "getset_descriptor.__get__") ⟨[.builtin "object.__class__",.ref a,tp],[]⟩) R ⟨h,g,d,t,os⟩:=by
 have L1:=PySem.W.looks_mroIn (M:=model prog w) X hm;have hT5:(⟨h,g,d,t,os⟩:Shared).TypeIs (.builtin "object.__class__") "getset_descriptor":=F.typeOf_object_class;have fo:=F.owner_object_class;refine codeAny_call_builtin F.slot_gs_get.plain F.entry_gs_get (F.slot_gs_get.check _ _ _ _ _ _ _ _ hT5 (F.args_gs_get _ _ _) ?_)
 repeat(any_goals(first|assumption|(with_reducible refine vE hx ?_;rw[hc])|(rw[fo];with_reducible refine L1.at ?_)|(with_reducible refine L1.at ?_)|wp_step))
 refine⟨Code.quiet_builtin _ (by decide +kernel),xK F.entry_object_class ?_⟩
 unfold Builtin.«object.__class__» shownTypeOf
 repeat(any_goals(first|assumption|(with_reducible refine vE hx ?_;rw[hc])|wp_step))
theorem a2M {M:Model}{nameV:Value}{Q:Unit->Shared->Prop}(X:K.In h)(hx:h.get? a=some o)(hc:o.cls= .ref C)(hm:PySem.W.mroIn K C (.type "BaseException")=some true)(hq:Q () ⟨h,g,d,t,os⟩):
  wpAny M A (checkBuiltinCall "BaseException.__getattribute__" ⟨[.ref a,nameV],[]⟩) Q E ⟨h,g,d,t,os⟩:=by
 have L1:=PySem.W.looks_mroIn (M:=M) X hm;have hk:builtinKind "BaseException.__getattribute__"=some .slot:=by decide +kernel
 have hsplit:splitId "BaseException.__getattribute__"=some ("BaseException","__getattribute__"):=by decide +kernel
 have ha:=F.args_bexc_ga (.ref a) nameV;simp only[checkBuiltinCall,hk,hsplit];refine zA ?_
 ·unfold isInstance
  repeat(first|(with_reducible refine vE hx ?_;rw[hc])|(with_reducible refine L1.at ?_)|wp_step)
  exact hq
theorem a0g {tk:Tok}{Q:Fin->Shared->Prop}(X:K.In h)(hx:h.get? a=some o)(hc:o.cls= .ref C)(hm:PySem.W.mroIn K C (.type "object")=some true)(hf:PySem.W.findIn K (.ref C) "__class__"=some (some (.builtin "object.__class__")))
  (hq:Q (.done (.ret (.ref C))) ⟨h,g,d,t,os⟩):wpAny (model prog w) A (Builtin.«object.__getattribute__» ⟨[.ref a,.str "__class__" tk],[]⟩) Q E ⟨h,g,d,t,os⟩:=by
 have L1:=PySem.W.looks_findIn (M:=model prog w) X hf;have hT5:(⟨h,g,d,t,os⟩:Shared).TypeIs (.builtin "object.__class__") "getset_descriptor":=F.typeOf_object_class;have f5:=F.typeOf_object_class;have f6:=F.slot_gs_get.lookup;have f7:=F.slot_gs_set.lookup
 repeat(any_goals(first|assumption|(with_reducible refine vE hx ?_;rw[hc])|(with_reducible refine L1.at ?_)|wp_step))
 refine a1e X hx hc hm ?_
 repeat(any_goals(first|assumption|wp_step))
theorem a2h {tk:Tok}{Q:Value->Shared->Prop}(X:K.In h)(hx:h.get? a=some o)(hc:o.cls= .ref C)(hm:PySem.W.mroIn K C (.type "object")=some true)(hb:PySem.W.mroIn K C (.type "BaseException")=some true)
  (hf:PySem.W.findIn K (.ref C) "__class__"=some (some (.builtin "object.__class__"))) (hga:PySem.W.findIn K (.ref C) "__getattribute__"=some (some (.builtin "BaseException.__getattribute__"))) (hna:PySem.W.findIn K (.ref C) "__getattr__"=some none)
  (hq:Q (.ref C) ⟨h,g,d,t,os⟩):wpAny (model prog w) A (getAttrBy (.ref a) (.str "__class__" tk) false) Q E ⟨h,g,d,t,os⟩:=by
 have L1:=PySem.W.looks_findIn (M:=model prog w) X hga;have L2:=PySem.W.looks_findIn (M:=model prog w) X hna;have FG:=PySem.F.attrBase_ValueError.ga;have f3:=FG.bind (.ref a);have hx2:(Value.builtin "BaseException.__getattribute__" == Value.builtin "object.__getattribute__")=false:=by decide +kernel
 have hx1:(onTheHeap (Value.ref C)&&Value.builtin "BaseException.__getattribute__" == Value.builtin "object.__getattribute__")=false:=by rw[hx2];rfl
 have hx0:(false&&onTheHeap (Value.builtin "BaseException.__getattribute__"))=false:=rfl
 repeat(any_goals(first|assumption|(with_reducible refine vE hx ?_;rw[hc])|(with_reducible refine L1.at ?_)|(with_reducible refine L2.at ?_)|wp_step))
 refine codeAny_call_builtin FG.plain F.entry_bexc_ga (a2M X hx hc hb (a0g X hx hc hm hf ?_))
 repeat(any_goals(first|assumption|wp_step))
theorem a0w {Q:Option Value->Shared->Prop}(X:K.In h)(hx:h.get? a=some o)(hc:o.cls= .ref C)(hm:PySem.W.mroIn K C (.type "object")=some true)(hb:PySem.W.mroIn K C (.type "BaseException")=some true)
  (hf:PySem.W.findIn K (.ref C) "__class__"=some (some (.builtin "object.__class__"))) (hga:PySem.W.findIn K (.ref C) "__getattribute__"=some (some (.builtin "BaseException.__getattribute__"))) (hna:PySem.W.findIn K (.ref C) "__getattr__"=some none)
  (hq:Q (some (.ref C)) ⟨h,g,d,t+1,os⟩):wpAny (model prog w) A (getAttr? (.ref a) "__class__") Q E ⟨h,g,d,t,os⟩:=by
 unfold getAttr? getAttrBy?
 repeat(any_goals(first|assumption|with_reducible apply a2h X hx hc hm hb hf hga hna|wp_step))
end
structure ExcC (K:PySem.W.Frag) (C:Addr):Prop where
 ob:PySem.W.mroIn K C (.type "object")=some true
 be:PySem.W.mroIn K C (.type "BaseException")=some true
 cl:PySem.W.findIn K (.ref C) "__class__"=some (some (.builtin "object.__class__"))
 ga:PySem.W.findIn K (.ref C) "__getattribute__"=some (some (.builtin "BaseException.__getattribute__"))
 na:PySem.W.findIn K (.ref C) "__getattr__"=some none
theorem a3H {K:PySem.W.Frag}{x C:Addr}(T:ExcC K C):PySem.W.KitX K (.ref x) (.ref C) (ExcAt x C):=by
 obtain⟨cdC,hcC,_⟩:=Option.bind_eq_some_iff.mp T.ob;unfold PySem.W.clsIn at hcC;split at hcC
 ·rename_i c' d' cd' sl' ho;refine⟨fun M h X ⟨o,vs,e1,e2,e3⟩=>e2▸(PySem.W.Looks.ld e1).andThen .now,fun M h X _=>?_,fun h tp dd its n sl X htp=>?_,fun{prog w A E Q s} X ⟨o,vs,e1,e2,e3⟩ hq=>?_⟩
  ·intro A' Q' E' s' k q;unfold isType loadHead;exact zA (wpAny_loadPart (k _ _ (X _ _ ho)) (zC q))
  ·refine Bool.eq_false_iff.mpr fun q=>?_;have e:C=tp:=Value.ref.inj (beq_iff_eq.mp q);subst e;have z:=(X _ _ ho).symm.trans htp;cases z
  ·obtain⟨h,g,d,t,os⟩:=s;exact a0w X e1 e2 T.ob T.be T.cl T.ga T.na hq
 ·cases hcC
def oIsX (kc:Addr->Option Bool):D->Option W
 | .exn C=>(kc C).map fun b=>.v (.bl b)
 | _=>none
section
variable {X:Cx}{e:Expr}{es:List Expr}{pos p p2:Pos}{f:FX}{x:Str}
theorem a4a {kc:Addr->Option Bool}{A:Av}{y:D}{w:W}{v:V}{H:Hp}(e:oIsX kc y=some w)(hx:DenR X.K A H y v):∃a C b,v= .ref a/\H a=some (.ext (ExcAt a C))/\kc C=some b/\w= .v (.bl b):=by
 cases y with
 | exn C=>
  simp only[oIsX] at e;obtain⟨b,e1,e2⟩:=oms e;have z:Den X.K A H (.exn C) v:=hx;rw[Den] at z;obtain⟨a,rfl,ha⟩:=z;exact⟨a,C,b,rfl,ha,e1,e2.symm⟩
 | _=>cases e
theorem a3t {kc:Addr->Option Bool}{v:V}{c:Value}(hT:∀C b,kc C=some b->ExcC X.K C)(hk:∀C b,kc C=some b->PySem.W.kitOne X.K (.ref C) c=some b)(hv:∀u,RelV v u->u=c):CallR X (.builtin "isinstance") (fun xs H Q=>∃a C b,xs=[.ref a,v]/\H a=some (.ext (ExcAt a C))/\kc C=some b/\Q (.bl b) H):=by
 intro pins s σ H xs us Q I r h;obtain⟨a,C,b,rfl,ha,hb',q⟩:=h;obtain⟨u,w',rfl,ru,rw'⟩:=vals2 r;obtain rfl:=hv w' rw';cases(show u=Value.ref a from ru);have ob:=I.hok a _ ha;exact jW (a3H (hT C b hb')) I.kIn ob.1 (hk C b hb') (fun z=>nomatch z) fun tk=>⟨.bl b,H,I.tok _,rfl,q⟩
theorem b1L {kc:Addr->Option Bool}{c:Addr}(hm:X.mg "isinstance"=none)(hx:X.mg x=some (.ref c))(hk:∀C b,kc C=some b->PySem.W.kitOne X.K (.ref C) (.ref c)=some b)(hT:∀C b,kc C=some b->ExcC X.K C)(ha:QX X e f)
  (hb:bootBuiltins "isinstance"=some (.builtin "isinstance"):=by rfl) (hg:Gl X "isinstance":=by rfl) (hgx:Gl X x:=by rfl) (hd:(x==("__debug__":Str))=false:=by decide)
  (he:starEach [e,.Name x p2] X.env=(false,eval e X.env)::starEach [.Name x p2] X.env:=by rfl) (hpl:(backTo pos (starEach [.Name x p2] X.env)).any (·.1)=false:=by rfl) (hs:starEach [.Name x p2] X.env=(false,eval (.Name x p2) X.env)::starEach [] X.env:=by rfl):
  QX X (.Call (.Name "isinstance" p) [e,.Name x p2] [] pos) (fUn (oIsX kc) f):=
 ⟨PE.weak (C8 (a3t (v:=.ref c) hT hk (fun u r=>r)) hg hm hb (w8 ha.to (w8 (a2v (v:=.ref c) hgx hx rfl hd) N2 hs) he) (by decide) (by decide) he hpl) fun σ H Q h=>
  P7 (r:=fun v H Q=>∃a C b,[v,V.ref c]=[.ref a,.ref c]/\H a=some (.ext (ExcAt a C))/\kc C=some b/\Q (.bl b) H) (fun A y w v H Q _ e hx q=>by
   obtain⟨a,C,b,rfl,ha,hb,rfl⟩:=a4a e hx
   exact⟨a,C,b,rfl,ha,hb,q _ H (Same.refl H) t5⟩) σ H Q h⟩
theorem b1K {kc:Addr->Option Bool}{T:String}(hm:X.mg "isinstance"=none)(hx:X.mg x=none)(hk:∀C b,kc C=some b->PySem.W.kitOne X.K (.ref C) (.type T)=some b)(hT:∀C b,kc C=some b->ExcC X.K C)(ha:QX X e f)
  (hbx:bootBuiltins x=some (.type T):=by rfl) (hb:bootBuiltins "isinstance"=some (.builtin "isinstance"):=by rfl) (hg:Gl X "isinstance":=by rfl) (hgx:Gl X x:=by rfl) (hn:x≠"__name__":=by decide) (hd:(x==("__debug__":Str))=false:=by decide)
  (he:starEach [e,.Name x p2] X.env=(false,eval e X.env)::starEach [.Name x p2] X.env:=by rfl) (hpl:(backTo pos (starEach [.Name x p2] X.env)).any (·.1)=false:=by rfl) (hs:starEach [.Name x p2] X.env=(false,eval (.Name x p2) X.env)::starEach [] X.env:=by rfl):
  QX X (.Call (.Name "isinstance" p) [e,.Name x p2] [] pos) (fUn (oIsX kc) f):=
 ⟨PE.weak (C8 (a3t (v:=.ty T) hT hk (fun u r=>r)) hg hm hb (w8 ha.to (w8 (a41 (v:=.ty T) hgx hx hbx rfl hn hd) N2 hs) he) (by decide) (by decide) he hpl) fun σ H Q h=>
  P7 (r:=fun v H Q=>∃a C b,[v,V.ty T]=[.ref a,.ty T]/\H a=some (.ext (ExcAt a C))/\kc C=some b/\Q (.bl b) H) (fun A y w v H Q _ e hx q=>by
   obtain⟨a,C,b,rfl,ha,hb,rfl⟩:=a4a e hx
   exact⟨a,C,b,rfl,ha,hb,q _ H (Same.refl H) t5⟩) σ H Q h⟩
inductive Cls (X:Cx):List Expr->List Addr->Prop where
 | nil:Cls X [] []
 | cons {x:Str} {p:Pos} {c:Addr} {es:List Expr} {cs:List Addr} (hx:X.mg x=some (.ref c)) (hg:Gl X x) (hd:(x==("__debug__":Str))=false) (h:Cls X es cs) (hs:starEach (.Name x p::es) X.env=(false,eval (.Name x p) X.env)::starEach es X.env):Cls X (.Name x p::es) (c::cs)
theorem b13 {cs:List Addr}(h:Cls X es cs):PA X es (fun σ H Q=>Q (cs.map V.ref) H):=by
 induction h with
 | nil=>exact PA.weak N2 fun σ H Q q=>q
 | @cons x p c es cs hx hg hd h hs ih=>exact PA.weak (w8 (a2v (v:=.ref c) hg hx rfl hd) ih hs) fun σ H Q q=>q
theorem a8k {kc:Addr->Option Bool}{cs:List Addr}{n:Nat}(hm:X.mg "isinstance"=none)(hcs:Cls X es cs)(hk:∀C b,kc C=some b->PySem.W.kitAny X.K (.ref C) (cs.map Value.ref)=some b)(hT:∀C b,kc C=some b->ExcC X.K C)(ha:QX X e f)(hl:cs.length<=sizeLine)
  (hb:bootBuiltins "isinstance"=some (.builtin "isinstance"):=by rfl) (hg:Gl X "isinstance":=by rfl)
  (he:starEach [e,.Tuple es n p2] X.env=(false,eval e X.env)::starEach [.Tuple es n p2] X.env:=by rfl) (hpl:(backTo pos (starEach [.Tuple es n p2] X.env)).any (·.1)=false:=by rfl) (hs:starEach [.Tuple es n p2] X.env=(false,eval (.Tuple es n p2) X.env)::starEach [] X.env:=by rfl):
  QX X (.Call (.Name "isinstance" p) [e,.Tuple es n p2] [] pos) (fUn (oIsX kc) f):=by
 have hc:CallR X (.builtin "isinstance") (fun xs H Q=>∃a C b t,xs=[.ref a,.ref t]/\H a=some (.ext (ExcAt a C))/\H t=some (.tup (cs.map V.ref))/\kc C=some b/\Q (.bl b) H):=by
  intro pins s σ H xs us Q I r h;obtain⟨a,C,b,t,rfl,ha,ht,hb',q⟩:=h;obtain⟨u,w',rfl,ru,rw'⟩:=vals2 r;cases(show w'=Value.ref t from rw');cases(show u=Value.ref a from ru);have ob:=I.hok a _ ha;obtain⟨hz,its,rel,⟨o,ho,hcl,⟨n',hd'⟩,hdn⟩⟩:=(show ObjOk X.K X.prog X.w H s.heap t (.tup (cs.map V.ref)) from I.hok t _ ht);have ei:its=cs.map Value.ref:=by
   clear hz hk hcs ho hd' ht hl hdn hcl
   induction cs generalizing its with
   | nil=>cases rel;rfl
   | cons c cs ih=>
    rw[zI] at rel;cases rel with
    | cons r1 r2=>rw[zI,ih _ r2];cases(show _=Value.ref c from r1);rfl
  subst ei;obtain⟨ocl,odi,oda,osl⟩:=o;dsimp only at hcl hd' hdn;subst hcl hd' hdn;exact PySem.W.kia_tup (a3H (hT C b hb')) I.kIn ob.1 ho (hk C b hb') (fun z=>nomatch z) fun tk=>⟨.bl b,H,I.tok _,rfl,q⟩
 refine⟨PE.weak (C8 hc hg hm hb (w8 ha.to (w8 (a4h (b13 hcs)) N2 hs) he) (by decide) (by decide) he hpl) fun σ H Q h=>?_⟩
 exact P7 (r:=fun v H Q=>(cs.map V.ref).length<=sizeLine/\∀p,H p=none->∃a C b t,[v,V.ref p]=[.ref a,.ref t]/\(upd H p (.tup (cs.map V.ref))) a=some (.ext (ExcAt a C))/\(upd H p (.tup (cs.map V.ref))) t=some (.tup (cs.map V.ref))/\kc C=some b/\Q (.bl b) (upd H p (.tup (cs.map V.ref)))) (fun A y w v H Q _ e hx q=>by
  obtain⟨a,C,b,rfl,ha,hb,rfl⟩:=a4a e hx
  exact⟨by rw[zH];exact hl,fun t ht=>⟨a,C,b,t,rfl,by rw[c9 (o9 ha ht)];exact ha,j3,hb,q _ _ (i0 ht _) t5⟩⟩) σ H Q h
end
def lm (m:Nat):List Nat:=(List.range 8).filter m.testBit
def tab (b:Bool) (m:Nat):SetTable:=if(lm m).length<5 then{mask:=7,place:=(lm m).toArray,dummies:= #[],finger:=0,led:=b,moves:=0,plain:=true} else{mask:=31,place:=(lm m).toArray,dummies:= #[],finger:=0,led:=b,moves:=1,plain:=true}
def tab1 (b:Bool) (m h:Nat):SetTable:={tab b m with place:=(lm (m ||| 2^h)).toArray}
def posM (m h:Nat):Nat:=((lm m).filter (· < h)).length
def slotM (m k:Nat):Nat:=if k=0 then 0 else(lm m).getD (k-1) 0+1
def intsN (l:List Nat):List Int:=l.map fun(n:Nat)=>(n:Int)
def AddOk (b:Bool) (m h:Nat):Prop:=m.testBit h=false->(tab b m).freeSlot h=some (h,false)/\(tab b m).put h=(tab1 b m h,posM m h)/\lm (m ||| 2^h)=(lm m).take (posM m h)++h::(lm m).drop (posM m h)/\(tab1 b m h).fits ((lm m).length+1)=true/\
 (tab1 b m h).tooFull=decide ((lm m).length=4)/\((lm m).length≠4->tab1 b m h=tab b (m ||| 2^h))/\((lm m).length=4->(tab1 b m h).relaid (intsN (lm (m ||| 2^h))).toArray 20=some (tab b (m ||| 2^h), #[0,1,2,3,4]))
instance (b:Bool) (m h:Nat):Decidable (AddOk b m h):=by unfold AddOk;infer_instance
theorem addOk0t:∀m<256,AddOk true m 0:=by decide +kernel
theorem addOk0f:∀m<256,AddOk false m 0:=by decide +kernel
theorem addOk1t:∀m<256,AddOk true m 1:=by decide +kernel
theorem addOk1f:∀m<256,AddOk false m 1:=by decide +kernel
theorem addOk2t:∀m<256,AddOk true m 2:=by decide +kernel
theorem addOk2f:∀m<256,AddOk false m 2:=by decide +kernel
theorem addOk3t:∀m<256,AddOk true m 3:=by decide +kernel
theorem addOk3f:∀m<256,AddOk false m 3:=by decide +kernel
theorem addOk4t:∀m<256,AddOk true m 4:=by decide +kernel
theorem addOk4f:∀m<256,AddOk false m 4:=by decide +kernel
theorem addOk5t:∀m<256,AddOk true m 5:=by decide +kernel
theorem addOk5f:∀m<256,AddOk false m 5:=by decide +kernel
theorem addOk6t:∀m<256,AddOk true m 6:=by decide +kernel
theorem addOk6f:∀m<256,AddOk false m 6:=by decide +kernel
theorem addOk7t:∀m<256,AddOk true m 7:=by decide +kernel
theorem addOk7f:∀m<256,AddOk false m 7:=by decide +kernel
theorem addOk {m h:Nat}(hm:m<256)(hh:h<8)(b:Bool):AddOk b m h:=by
 have hc:h=0\/h=1\/h=2\/h=3\/h=4\/h=5\/h=6\/h=7:=by walk_at "o"
 rcases hc with rfl|rfl|rfl|rfl|rfl|rfl|rfl|rfl<;>cases b
 ·exact addOk0f m hm
 ·exact addOk0t m hm
 ·exact addOk1f m hm
 ·exact addOk1t m hm
 ·exact addOk2f m hm
 ·exact addOk2t m hm
 ·exact addOk3f m hm
 ·exact addOk3t m hm
 ·exact addOk4f m hm
 ·exact addOk4t m hm
 ·exact addOk5f m hm
 ·exact addOk5t m hm
 ·exact addOk6f m hm
 ·exact addOk6t m hm
 ·exact addOk7f m hm
 ·exact addOk7t m hm
theorem a0U:∀m<256,∀b,(tab b m).fits (lm m).length=true:=by decide +kernel
theorem a3M:∀m<256,∀k<9,k<=(lm m).length->SetTable.below (lm m).toArray (slotM m k)=k:=by decide +kernel
theorem or_lt:∀m<256,∀h<8,m ||| 2^h<256:=by decide +kernel
theorem or_in:∀m<256,∀h<8,m.testBit h=true->m ||| 2^h=m:=by decide +kernel
theorem a06 {m n:Nat}:n∈lm m↔n<8/\m.testBit n=true:=by unfold lm;rw[jP,xB]
theorem a0W (m:Nat):(lm m).length<=8:=by unfold lm;exact zX (List.length_filter_le _ _) (by simp)
theorem b01 (m:Nat):(lm m).Pairwise (· < ·):=List.Pairwise.filter _ List.pairwise_lt_range
theorem a6e (b:Bool)(m:Nat):(tab b m).place=(lm m).toArray:=by unfold tab;split<;>rfl
theorem X3 (b:Bool)(m:Nat):(tab b m).plain=true:=by unfold tab;split<;>rfl
theorem a9h (b:Bool)(m:Nat):(tab b m).led=b:=by unfold tab;split<;>rfl
inductive EsOk:List (Int×Value)->List Nat->Prop where
 | nil:EsOk [] []
 | cons {e:Int×Value} {n:Nat} {es:List (Int×Value)} {l:List Nat} (h:e.1=(n:Int)/\∃t,e.2= .int n t) (r:EsOk es l):EsOk (e::es) (n::l)
abbrev byT (w:World):Bool:=w.params.followText "set-order"
def setObjM (es:Array (Int×Value)) (ep:Nat) (t:SetTable):PySem.Obj:={cls:=.type "set",dict:=none,data:=.set es ep t,slots:= #[]}
def SetM (w:World) (h:Heap) (a:Addr) (m:Nat):Prop:=m<256/\∃es ep,h.get? a=some (setObjM es ep (tab (!byT w) m))/\EsOk es.toList (lm m)
theorem hash8:∀n<8,hashInt (n:Nat)=(n:Nat):=by decide +kernel
section
variable {prog:Program}{w:World}{A:Around}{E:Value->Shared->Prop}{s:Shared}{a:Addr}{m n:Nat}{es:Array (Int×Value)}{l:List Nat}
theorem EsOk.len {es:List (Int×Value)}(h:EsOk es l):es.length=l.length:=by
 induction h with
 | nil=>rfl
 | cons _ _ ih=>rw[zV,zV,ih]
theorem EsOk.elems:∀{es:List (Int×Value)} {l:List Nat},EsOk es l->(∀n∈l,n<8)->ElemsOf (intKind prog w) es
 | _,_,.nil,_=>fun e he=>nomatch he
 | _,_,.cons (e:=e) (n:=n) ⟨h1,t,h2⟩ r,hl=>fun x hx=>by
  rcases zN.mp hx with rfl|hx
  ·refine⟨⟨(n:Int),by rw[h2];exact intKind_is _ _ _ _,?_⟩,by rw[h2];rfl⟩
   rw[h1];exact(hash8 n (hl n zJ)).symm
  ·exact EsOk.elems r (fun k hk=>hl k (zL _ hk)) x hx
theorem EsOk.find:∀{es:List (Int×Value)} {l:List Nat},EsOk es l->(∃j,es.findIdx? (fun e=>(intKind prog w).is (n:Int) e.2)=some j)/\n∈l\/es.findIdx? (fun e=>(intKind prog w).is (n:Int) e.2)=none/\n∉l
 | _,_,.nil=>.inr ⟨rfl,fun h=>nomatch h⟩
 | _,_,.cons (e:=e) (n:=k) ⟨h1,t,h2⟩ r=>by
  have his:(intKind prog w).is (n:Int) e.2=decide (n=k):=by
   rw[h2,KeyKind.is_eq_decide (knd:=intKind prog w) (intKind_is _ _ _ _) (n:Int)]
   by_cases h:n=k
   ·subst h;simp
   ·rw[zU h,zU (by walk_at "o")]
  by_cases h:n=k
  ·subst h;exact .inl ⟨⟨0,by rw[List.findIdx?_cons,his,zP rfl];rfl⟩,zJ⟩
  ·rw[List.findIdx?_cons,his,zU h];rcases EsOk.find r with ⟨⟨j,ej⟩,hm⟩|⟨ej,hm⟩
   ·exact .inl ⟨⟨j+1,by rw[ej];rfl⟩,zL _ hm⟩
   ·exact .inr ⟨by rw[ej];rfl,fun z=>(zN.mp z).elim h hm⟩
theorem EsOk.take:∀{xs:List (Int×Value)} {ys:List Nat} (k:Nat),EsOk xs ys->EsOk (xs.take k) (ys.take k)
 | _,_,0,_=>by rw[take_zero,take_zero];exact .nil
 | _,_,k+1,.nil=>by rw[List.take_nil,List.take_nil];exact .nil
 | _,_,k+1,.cons h t=>by rw[List.take_succ_cons,List.take_succ_cons];exact .cons h (EsOk.take k t)
theorem EsOk.drop:∀{xs:List (Int×Value)} {ys:List Nat} (k:Nat),EsOk xs ys->EsOk (xs.drop k) (ys.drop k)
 | _,_,0,h=>by rw[drop_zero,drop_zero];exact h
 | _,_,k+1,.nil=>by rw[List.drop_nil,List.drop_nil];exact .nil
 | _,_,k+1,.cons h t=>by rw[drop_succ_cons,drop_succ_cons];exact EsOk.drop k t
theorem EsOk.app:∀{xs xs':List (Int×Value)} {ys ys':List Nat},EsOk xs ys->EsOk xs' ys'->EsOk (xs++xs') (ys++ys')
 | _,_,_,_,.nil,h=>h
 | _,_,_,_,.cons h t,h'=>.cons h (EsOk.app t h')
theorem Q8 {α:Type}(xs:Array α)(p:Nat)(x:α)(hp:p<=xs.size):(SetTable.insertAt xs p x).toList=xs.toList.take p++x::xs.toList.drop p:=by
 unfold SetTable.insertAt;simp[Array.toList_extract];rw[yV (by simp)]
theorem a1p (es:Array (Int×Value))(h:es.size=5):(#[0,1,2,3,4]:Array Nat).filterMap (es[·]?)=es:=by
 obtain⟨l⟩:=es
 match l,h with
 | [a,b,c,d,e],_=>rfl
theorem addM {t:Tok}{Q:Bool->Shared->Prop}(hn:n<8)(S:SetM w s.heap a m)(q:∀r h',Heap.SameBut a s.heap h'->SetM w h' a (m ||| 2^n)->Q r {s with heap:=h'}):
  wpAny (model prog w) A (setAddHashed a (.int n t) (n:Int)) Q E s:=by
 obtain⟨hm,es,ep,ho,hes⟩:=S;have hl8:∀k∈lm m,k<8:=fun k hk=>(a06.mp hk).1;have hel:ElemsOf (intKind prog w) es.toList:=hes.elems hl8;have hsz:es.size=(lm m).length:=by rw[<-zW];exact hes.len
 have hf:(tab (!byT w) m).fits es.size=true:=by rw[hsz];exact a0U m hm _
 have hkey:(intKind prog w).is (n:Int) (.int n t)=true:=intKind_is _ _ _ _;have hb:es.size<scanBound:=by rw[hsz];exact Nat.lt_of_le_of_lt (a0W m) (by decide)
 have hh:hashInt (n:Nat)=(n:Nat):=hash8 n hn;unfold setAddHashed setAddHashedIn;refine qE (zA (qU ho rfl hf ?_));dsimp only;rw[byScan_of (knd:=intKind prog w) (x:=.int n t) rfl hb hel];simp only[↓reduceIte];unfold setAddByScan;refine zA ?_;refine zA (yC ?_)
 have sc:=wpAny_setScan_of (A:=A) (E:=E) (prog:=prog) (w:=w) (knd:=intKind prog w) (s:=s) (adding:=true) hkey ho rfl hf hel (Q:=fun r s'=>s'=s/\(((∃j,r= .found j)/\n∈lm m)\/r= .absent/\n∉lm m)) (by
  rcases hes.find (prog:=prog) (w:=w) (n:=n) with ⟨⟨j,ej⟩,hin⟩|⟨ej,hin⟩
  ·rw[ej];exact⟨rfl,.inl ⟨⟨_,rfl⟩,hin⟩⟩
  ·rw[ej];exact⟨rfl,.inr ⟨rfl,hin⟩⟩)
 rw[show(intKind prog w).hash (n:Int)=(n:Int) from hh] at sc;refine zA (zR sc (fun r s' ⟨es',hr⟩=>es'▸?_) fun _ _ z=>z);clear es';have ese:s={s with heap:=s.heap}:=by cases s;rfl
 rcases hr with ⟨⟨j,rfl⟩,hin⟩|⟨rfl,hin⟩
 ·dsimp only;refine zC (zC ?_);rw[ese];refine q _ s.heap (Heap.SameBut.refl a s.heap) ?_;rw[or_in m hm n hn (a06.mp hin).2];exact⟨hm,es,ep,ho,hes⟩
 ·dsimp only;have hbit:m.testBit n=false:=by
   cases hb':m.testBit n with
   | false=>rfl
   | true=>exact absurd (a06.mpr ⟨hn,hb'⟩) hin
  obtain⟨a1,a2,a3,a4,a5,a6,a7⟩:=addOk hm hn (!byT w) hbit;have pl:posM m n<=es.size:=by rw[hsz];unfold posM;exact List.length_filter_le _ _
  have hL:layNew (tab (!byT w) m) es (n:Int) (.int n t)=(SetTable.insertAt es (posM m n) ((n:Int),.int n t),tab1 (!byT w) m n,false,false):=by
   have hs1:(SetTable.insertAt es (posM m n) ((n:Int),Value.int n t)).size=(lm m).length+1:=by
    rw[<-zW,Q8 _ _ _ pl];simp only[qK,zV,length_take,length_drop,zW];walk_at "o"
   unfold layNew;rw[a1];dsimp only;rw[a2];dsimp only;rw[hs1];unfold SetTable.orStandIn;rw[if_pos a4,a4];rfl
  have hes1:EsOk (SetTable.insertAt es (posM m n) ((n:Int),.int n t)).toList (lm (m ||| 2^n)):=by
   rw[Q8 _ _ _ pl,a3];exact(hes.take _).app (.cons ⟨rfl,t,rfl⟩ (hes.drop _))
  rw[hL];generalize hE1:SetTable.insertAt es (posM m n) ((n:Int),Value.int n t)=es1 at hes1;have hsz1:es1.size=(lm (m ||| 2^n)).length:=by rw[<-zW];exact hes1.len
  have hln:(lm (m ||| 2^n)).length=(lm m).length+1:=by rw[a3];simp only[qK,zV,length_take,length_drop];rw[hsz] at pl;walk_at "o"
  have hz1:es1.size<=sizeLine:=by rw[hsz1,qR];have:=a0W (m ||| 2^n);walk_at "o"
  have pl1:(tab1 (!byT w) m n).plain=true:=X3 _ _;dsimp only;refine zA (m:=pure ()) (zC ?_);rw[if_pos pl1];refine zA (m:=hashByValue 8 (.int n t)) ?_;rw[hashByValue_scannable 8 (x:=.int n t) rfl];refine zC ?_;have pk:plainKind (Value.int (n:Int) t)=true:=rfl;simp only[pk,qW];refine zA (wpAny_storeSet_of ho rfl ?_ hz1);have g1:(s.heap.update a (Obj.putSet es1 (tab1 (!byT w) m n))).get? a=some (setObjM es1 (ep+1) (tab1 (!byT w) m n)):=by
   have:=jL (Obj.putSet es1 (tab1 (!byT w) m n)) ho (by rw[putSet_of es1 _ rfl];rfl)
   rw[putSet_of es1 _ rfl] at this;exact this
  have sb1:=qF s.heap a (Obj.putSet es1 (tab1 (!byT w) m n));have hlt:=or_lt m hm n hn;rw[a5]
  by_cases h4:(lm m).length=4
  ·rw[zP h4];have h5:es1.size=5:=by rw[hsz1,hln,h4]
   have hR:relayAll (tab1 (!byT w) m n) es1 (SetTable.grown es1.size)=(es1,tab (!byT w) (m ||| 2^n),false):=by
    have hx:(es1.map (·.1))=(intsN (lm (m ||| 2^n))).toArray:=by
     have:∀{es:List (Int×Value)} {l:List Nat},EsOk es l->es.map (·.1)=intsN l:=fun h=>by
      induction h with
      | nil=>rfl
      | cons h _ ih=>rw[zI,ih,h.1];rfl
     have:=this hes1
     rw[<-this];apply Array.ext';simp
    unfold relayAll;rw[hx,h5,show SetTable.grown 5=20 from rfl,a7 h4];dsimp only;rw[a1p es1 h5];have c1:coversAll #[0,1,2,3,4] 5=true:=by decide +kernel
    have c2:(tab (!byT w) (m ||| 2^n)).fits es1.size=true:=by rw[hsz1];exact a0U _ hlt _
    rw[c1,c2];rfl
   simp only[Bool.not_false,Bool.and_self,qW];rw[hR];dsimp only;refine zA (m:=pure ()) (zC ?_);refine zA (wpAny_storeSet_of g1 rfl ?_ hz1);refine zC (zC (q _ _ (sb1.trans (qF _ a _)) ⟨hlt,es1,ep+1+1,?_,hes1⟩))
   have:=jL (Obj.putSet es1 (tab (!byT w) (m ||| 2^n))) g1 (by rw[putSet_of es1 _ rfl];rfl)
   rw[putSet_of es1 _ rfl] at this;exact this
  ·rw[zU h4];simp only[Bool.and_false,zZ,qY];refine zC (zC (q _ _ sb1 ⟨hlt,es1,ep+1,?_,hes1⟩));rw[<-a6 h4];exact g1
end
def mAll (ns:List Nat):Nat:=ns.foldl (fun m n=>m ||| 2^n) 0
theorem a5D {ns:List Nat}{n i:Nat}(h:ns[i]? =some n):mAll (ns.take (i+1))=mAll (ns.take i) ||| 2^n:=by
 unfold mAll;rw[List.take_succ,h,List.foldl_append];rfl
theorem a3G {ns:List Nat}{k:Nat}:(mAll ns).testBit k=decide (k∈ns):=by
 unfold mAll;have key:∀(ns:List Nat) (m:Nat),(ns.foldl (fun m n=>m ||| 2^n) m).testBit k=(m.testBit k||decide (k∈ns)):=by
  intro ns
  induction ns with
  | nil=>intro m;simp
  | cons n ns ih=>
   intro m;rw[List.foldl_cons,ih,Nat.testBit_or,Nat.testBit_two_pow]
   by_cases h:n=k
   ·subst h;simp
   ·rw[zU h,Bool.or_false]
    have:(k∈n::ns)↔k∈ns:=by rw[zN];exact⟨fun z=>z.elim (fun e=>absurd e.symm h) id,.inr⟩
    rw[show decide (k∈n::ns)=decide (k∈ns) from decide_eq_decide.mpr this]
 rw[key ns 0];simp
section
variable {prog:Program}{w:World}{A:Around}{R:Result->Shared->Prop}{I:Addr}{fp wr:List Addr}{G:Array GenState->Array GenState->Prop}{P:Nat->Value->Prop}{St:Nat->Shared->Prop}
theorem updM {ns:List Nat}(h8:∀n∈ns,n<8)(W:WalksS prog w A.in1 I fp wr G ns.length P St)(S:Addr)(hSf:S∉fp)(hval:∀(i:Nat) (v:Value),P i v->∃(n:Nat) (t:Tok),ns[i]? =some n/\v=Value.int n t):
  ∀(k i:Nat) (s:Shared),ns.length-i=k->i<=ns.length->St i s->SetM w s.heap S (mAll (ns.take i))->
   (∀s',Moved (S::wr) G s s'->SetM w s'.heap S (mAll ns)->R (.ok (.ret .none)) s')->codeAny (model prog w) A (.builtin "set.update.loop" ⟨[.ref S,.ref I],[]⟩) R s:=by
 have hSw:S∉wr:=fun h=>hSf (W.sub _ h);have hsub:∀b∈wr,b∈S::wr:=fun b hb=>zL _ hb;intro k
 induction k with
 | zero=>
  intro i s hk hi hst hS hR;have hin:i=ns.length:=by walk_at "o"
  subst hin;refine xK yO ?_;rw[yH jJ _];show wpAny _ A.in1 (pyNext (.ref I) >>=_) _ _ s;refine zA (W.done s _ _ hst fun s' hm=>?_);show wpAny _ A.in1 (ret Value.none) _ _ s';rw[take_length] at hS;obtain⟨hl,es,ep,ho,rest⟩:=hS;exact zC (hR s' (hm.mono hsub) ⟨hl,es,ep,hm.heap S _ hSw ho,rest⟩)
 | succ k ih=>
  intro i s hk hi hst hS hR;have hlt:i<ns.length:=by walk_at "o"
  refine xK yO ?_;rw[yH jJ _];show wpAny _ A.in1 (pyNext (.ref I) >>=_) _ _ s;refine zA (W.item i s _ _ hlt hst fun v s' hP hst' hm=>?_);obtain⟨n,t,hn,rfl⟩:=hval i v hP;have hn8:n<8:=h8 n (qQ hn);have hS':SetM w s'.heap S (mAll (ns.take i)):=by
   obtain⟨hl,es,ep,ho,rest⟩:=hS;exact⟨hl,es,ep,hm.heap S _ hSw ho,rest⟩
  show wpAny _ A.in1 (holding [Value.int n t] (setAdd S (.int n t)) >>=_) _ _ s';refine zA (qE ?_);unfold setAdd;refine qE ?_;refine zA ((intKind prog w).pyHash (k:=(n:Int)) (intKind_is _ _ _ _) ?_);rw[show(intKind prog w).hash (n:Int)=(n:Int) from hash8 n hn8];refine addM (s:={s' with toks:=s'.toks+1}) hn8 hS' fun r h' hsb hS2=>?_
  rw[<-a5D hn] at hS2;refine zC ⟨plainId_quiet jJ _,ih (i+1) _ (by walk_at "o") hlt (W.frame _ s' _ _ hst' (Nat.le_succ _) fun b hb o e=>?_) hS2 fun s'' hm'' hS''=>?_⟩
  ·rw[hsb.2 b (fun h:b=S=>hSf (by rw[<-h];exact hb))];exact e
  ·refine hR s'' (Moved.trans W.gtrans ((hm.mono hsub).then_heap (Nat.le_succ _) fun b o hb e=>?_) hm'') hS'';rw[hsb.2 b (fun h:b=S=>hb (by rw[h];exact zJ))];exact e
end
section
variable {prog:Program}{w:World}{A:Around}{E:Value->Shared->Prop}{s:Shared}
theorem U1 {a:Value}{Q₁:Value->Shared->Prop}
  (h:Q₁ (.ref s.heap.objs.size) {s with heap:=s.heap.push (setObjM #[] 0 (.fresh 0 0 (!byT w)))}):
  codeAny (model prog w) A (.call (.builtin "set.__new__") ⟨[.type "set",a],[]⟩) (wants Q₁ E) s:=by
 refine codeAny_of_tree ?_;show wpAny _ A.in1 (do checkBuiltinCall "set.__new__" ⟨[.type "set",a],[]⟩;again (.builtin "set.__new__" ⟨[.type "set",a],[]⟩)) _ _ s
 refine zA (wpAny_of_eq (F.newCall_set_1 a) (zC ⟨plainId_quiet F.plain_set_new _,xK F.entry_set_new ?_⟩));rw[yH F.plain_set_new _];unfold Builtin.«set.__new__» Builtin.Frozenset.newClass;have hsub:=sub_set_self;obtain⟨hp,g,d,tk,os⟩:=s;dsimp only
 wp_walk
 refine wpAny_askSetting (zC ?_);dsimp only;simp only[newObj];refine zA (wpAny_alloc (zC ?_));exact zC h
end
theorem K8:entryFor table "set.__iter__"=some Builtin.«frozenset.__iter__»:=
 entryFor_alias (id':="frozenset.__iter__") (by kernel_rfl) rfl (by decide +kernel) (by kernel_rfl)
theorem n5:Slot "set_iterator" "__next__" "set_iterator.__next__":=
 .of (owner:="set_iterator") (n:="__next__") (by rw[typeLookup_type,vH];kernel_rfl) (by decide +kernel) (by decide +kernel) (by decide +kernel)
  (by first|exact .inl (by decide +kernel)|exact .inr (by decide +kernel)) (by rw[isSubtype_type];kernel_rfl)
theorem F8:entryFor table "set_iterator.__next__"=some Builtin.«set_iterator.__next__»:=entryFor_of_fast (by kernel_rfl)
theorem K3 (a:Value):argsOk "set_iterator.__next__" ⟨[a],[]⟩:=by unfold argsOk;kernel_rfl
abbrev IsSetIt (h:Heap) (it a:Addr) (slot i n ep:Nat):Prop:=
 h.get? it=some {cls:=.type "set_iterator",dict:=none,data:=.fields #[rawInt slot,rawInt i,.ref a,rawInt n,rawInt ep],slots:= #[]}
def SRaw (w:World) (h:Heap) (a:Addr) (es:Array (Int×Value)) (ep m:Nat):Prop:=m<256/\es.size=(lm m).length/\h.get? a=some (setObjM es ep (tab (!byT w) m))
def ordM (w:World) (a:Addr) (es:Array (Int×Value)) (ep:Nat):Array (Int×Value):=if byT w then pickOrder (w.params.setOrder a ep) es else es
section
variable {prog:Program}{w:World}{A:Around}{E:Value->Shared->Prop}{s:Shared}{it a:Addr}{es:Array (Int×Value)}{i ep m slot:Nat}
theorem SRaw.fits (S:SRaw w s.heap a es ep m):(tab (!byT w) m).fits es.size=true:=by rw[S.2.1];exact a0U m S.1 _
theorem SRaw.typeIs (S:SRaw w s.heap a es ep m):s.TypeIs (.ref a) "set":=⟨_,S.2.2,rfl⟩
theorem SRaw.on {h h':Heap}(S:SRaw w h a es ep m)(k:∀o,h.get? a=some o->h'.get? a=some o):SRaw w h' a es ep m:=⟨S.1,S.2.1,k _ S.2.2⟩
theorem C2 {Q:Bool->Shared->Prop}(q:Q (byT w) s):wpAny (model prog w) A setsByText Q E s:=by
 unfold setsByText;exact zA (wpAny_askSetting (zC q))
theorem a6S {Q:Value->Shared->Prop}(S:SRaw w s.heap a es ep m)
  (q:Q (.ref s.heap.objs.size) {s with heap:=s.heap.push {cls:=.type "set_iterator",data:=.fields #[rawInt (0:Nat),rawInt (0:Nat),.ref a,rawInt es.size,rawInt ep]}}):wpAny (model prog w) A (pyIter (.ref a)) Q E s:=by
 have T:=S.typeIs;have ho:=S.2.2;have hf:=S.fits;refine wpAny_pyIter_slot T F.slot_set_iter (qA F.slot_set_iter T K8 ?_ (F.args_set_iter_1 _));unfold Builtin.«frozenset.__iter__»;refine zA (m:=Builtin.Frozenset.slot0 "__iter__" _) (zC ?_);refine zA (m:=Builtin.Frozenset.sizeOf a) ?_;unfold Builtin.Frozenset.sizeOf;refine zA (wpAny_setEntries_of ho rfl hf (zC ?_));refine zA (m:=setDrawn a) ?_;unfold setDrawn;refine zA (qU ho rfl hf ?_);refine zA (C2 (zC ?_));show wpAny _ _ (if(!byT w&&(!(tab (!byT w) m).plain&&decide (es.size>1)))=true then _ else _) _ _ s;rw[X3];simp only[yA,xD,Bool.and_false,zZ,qY];refine zA (zC ?_);refine zA (m:=setEpoch a) (wpAny_setEpoch_of ho rfl hf ?_);exact zA (qD (zC ⟨_,rfl,"set_iterator",_,⟨_,zK _ rfl,rfl⟩,n5.lookup,q⟩))
theorem a4j {Q:Option (Value×Nat)->Shared->Prop}(S:SRaw w s.heap a es ep m)(hi:i<9)(hil:i<=(lm m).length)(hs:byT w=false->slot=slotM m i)
  (q:∀r,(r=none/\(ordM w a es ep)[i]? =none\/∃e slot',r=some (e.2,slot')/\(ordM w a es ep)[i]? =some e/\(byT w=false->slot'=slotM m (i+1)))->Q r s):wpAny (model prog w) A (setNext a slot i ep) Q E s:=by
 have ho:=S.2.2;have hf:=S.fits;unfold setNext;refine zA (qU ho rfl hf ?_);refine zA (C2 ?_);cases hb:byT w with
 | true=>
  simp only[qW];rw[if_neg (by simp)]
  refine zA ?_;unfold setWalk;refine zA (qU ho rfl hf ?_);refine zA (C2 ?_);rw[hb];simp only[qW];refine zA (wpAny_askSetting (zC (zC ?_)));have eo:ordM w a es ep=pickOrder (w.params.setOrder a ep) es:=by unfold ordM;rw[hb];rfl
  rw[eo,hb] at q;show Q (((pickOrder (w.params.setOrder a ep) es)[i]?).map fun e=>(e.2,slot)) s;cases he:(pickOrder (w.params.setOrder a ep) es)[i]? with
  | none=>exact q _ (.inl ⟨rfl,he⟩)
  | some e=>exact q _ (.inr ⟨e,slot,rfl,he,fun z=>nomatch z⟩)
 | false=>
  simp only[zZ,qY];show wpAny _ _ (if(!(tab (!false) m).plain&&decide (es.size>1))=true then _ else _) _ _ s;rw[X3];simp only[yA,xD,zZ,qY];refine zA ?_;show wpAny _ _ (if(!(tab (!false) m).led && !es.isEmpty)=true then _ else _) _ _ s;rw[a9h];simp only[Bool.not_false,yA,xD,zZ,qY];refine zC ?_;refine zC ?_;have eo:ordM w a es ep=es:=by unfold ordM;rw[hb];rfl
  rw[eo] at q;have hbl:SetTable.below (lm m).toArray slot=i:=by rw[hs hb];exact a3M m S.1 i hi hil
  simp only[a6e,hbl]
  by_cases hlt:i<(lm m).length
  ·have hlt':i<es.size:=by rw[S.2.1];exact hlt
   have he:es[i]? =some es[i]:=by simp[hlt']
   have hp:(lm m).toArray[i]? =some (lm m)[i]:=by simp[hlt]
   rw[he,hp];refine q _ (.inr ⟨_,_,rfl,he,fun _=>?_⟩);unfold slotM;rw[if_neg (by walk_at "o"),Nat.add_sub_cancel,qL,qT hlt];rfl
  ·have he:es[i]? =none:=by rw[jM,S.2.1];walk_at "o"
   rw[he];exact q _ (.inl ⟨rfl,he⟩)
theorem a27 {Q:Option Value->Shared->Prop}(hh:A.handled=none)(hit:IsSetIt s.heap it a slot i es.size ep)(S:SRaw w s.heap a es ep m)(hne:a≠it)(hil:i<=(lm m).length)(hs:byT w=false->slot=slotM m i)
  (q1:∀e h' slot',(ordM w a es ep)[i]? =some e->IsSetIt h' it a slot' (i+1) es.size ep->(byT w=false->slot'=slotM m (i+1))->Heap.SameBut it s.heap h'->Q (some e.2) {s with heap:=h'})
  (q2:∀h',(ordM w a es ep)[i]? =none->Heap.ExtBut it s.heap h'->Q none {s with heap:=h'}):wpAny (model prog w) A (pyNext (.ref it)) Q E s:=by
 have ho:=S.2.2;have hf:=S.fits;have T:s.TypeIs (.ref it) "set_iterator":=⟨_,hit,rfl⟩;unfold pyNext;refine zA (wpAny_attempt (qJ (name:=Str.ofString "__next__") T n5 (qA n5 T F8 ?_ (K3 _))));unfold Builtin.«set_iterator.__next__»;refine zA (m:=slotArgs "__next__" 0 _) (zC ?_);refine zA (vG hit rfl ?_);dsimp only;refine zA (wpAny_setEntries_of ho rfl hf ?_);rw[if_neg (by simp)]
 show wpAny _ _ (setNext a slot i ep >>=_) _ _ s;refine zA (a4j S (by have:=a0W m;walk_at "o") hil hs fun r hr=>?_)
 rcases hr with ⟨rfl,he⟩|⟨e,slot',rfl,he,hs'⟩
 ·dsimp only;refine zA (qS hit (by simp) fun h1 e1 s1=>?_)
  refine zA (m:=newExc (.type "StopIteration") []) ?_;simp only[newExc,newTuple];refine zA (qD ?_ (by size_fits))
  refine zA (m:=firstArgMember _ _) (wpAny_of_eq (a:=Value.none) (by first|rfl|(simp only[firstArgMember];rfl)) (qD ?_ (by size_fits)))
  simp only[raiseNew];refine zA (wpAny_handled ?_);rw[show A.in1.handled=none from hh];refine zA (zC (wpAny_throw ?_));refine zA (wpAny_isInstance (b:=true) (T:="StopIteration") ⟨_,zK _ rfl,rfl⟩ isSubtype_stop ?_);exact zC (q2 _ he ((s1.extBut.push _).push _))
 ·dsimp only;refine zA (qS hit (by simp) fun h1 e1 s1=>?_)
  have e1':IsSetIt h1 it a slot' i es.size ep:=e1;refine zA (m:=setField (.ref it) 1 (rawInt ((i:Int)+1))) (qS e1' (by simp) fun h2 e2 s2=>?_)
  have e2':IsSetIt h2 it a slot' (i+1) es.size ep:=e2;exact zC ⟨_,rfl,zC (q1 e h2 slot' he e2' hs' (s1.trans s2))⟩
end
open PySem PySem.Spec PyProof.Rows
structure SetKey (prog:Program) (w:World) (K:Type) [DecidableEq K] where
 is:Heap->K->Addr->Prop
 hash:K->Int
 draws:K->Nat
 room:Around->Prop
 inj:∀{h:Heap} {a:Addr} {x y:K},is h x a->is h y a->x=y
 keeps:∀{h h':Heap} {k:K} {a:Addr},is h k a->(∀b o its n,h.get? b=some o->o.data= .seq its n->h'.get? b=some o)->is h' k a
 pyHash:∀{A:Around} {E:Value->Shared->Prop} {s:Shared} {k:K} {a:Addr} {Q:Int->Shared->Prop},room A->is s.heap k a->
  Q (hash k) {heap:=s.heap,gens:=s.gens,drawn:=s.drawn,toks:=s.toks+draws k,os:=s.os}->wpAny (model prog w) A (pyHash (Value.ref a)) Q E s
 eqBool:∀{A:Around} {E:Value->Shared->Prop} {s:Shared} {x y:K} {a b:Addr} {Q:Bool->Shared->Prop},room A->is s.heap x a->is s.heap y b->Q (decide (x=y)) s->
  wpAny (model prog w) A (eqBool (Value.ref a) (Value.ref b)) Q E s
 quiet:∀{A:Around} {E:Value->Shared->Prop} {s:Shared} {k:K} {a:Addr} {Q:Bool->Shared->Prop},is s.heap k a->Q true s->wpAny (model prog w) A (eqIsQuiet 8 (Value.ref a)) Q E s
 noSt:∀{A:Around} {E:Value->Shared->Prop} {s:Shared} {k:K} {a:Addr} {Q:Bool->Shared->Prop},is s.heap k a->Q false s->wpAny (model prog w) A (ofAClassStatement 8 (Value.ref a)) Q E s
 byVal:∀{A:Around} {E:Value->Shared->Prop} {s:Shared} {k:K} {a:Addr} {Q:Bool->Shared->Prop},is s.heap k a->Q true s->wpAny (model prog w) A (hashByValue 8 (Value.ref a)) Q E s
def Pr {α β:Type} (R:α->β->Prop):List α->List β->Prop
 | [],[]=>True
 | a::l,b::m=>R a b/\Pr R l m
 | _,_=>False
section
variable {α β:Type}{R:α->β->Prop}
theorem Pr.len:∀{l:List α} {m:List β},Pr R l m->l.length=m.length
 | [],[],_=>rfl
 | a::l,b::m,h=>by rw[zV,zV,Pr.len h.2]
 | [],b::m,h=>h.elim
 | a::l,[],h=>h.elim
theorem Pr.imp {R':α->β->Prop}(f:∀a b,R a b->R' a b):∀{l:List α} {m:List β},Pr R l m->Pr R' l m
 | [],[],_=>True.intro
 | a::l,b::m,h=>⟨f a b h.1,Pr.imp f h.2⟩
 | [],b::m,h=>h.elim
 | a::l,[],h=>h.elim
theorem Pr.at:∀{l:List α} {m:List β},Pr R l m->∀{i:Nat} {a:α},l[i]? =some a->∃b,m[i]? =some b/\R a b
 | a::l,b::m,h,0,_,e=>by cases e;exact⟨b,rfl,h.1⟩
 | a::l,b::m,h,i+1,x,e=>Pr.at (l:=l) (m:=m) h.2 e
 | [],[],_,i,_,e=>by simp at e
 | [],b::m,h,_,_,_=>h.elim
 | a::l,[],h,_,_,_=>h.elim
theorem Pr.at':∀{l:List α} {m:List β},Pr R l m->∀{i:Nat} {b:β},m[i]? =some b->∃a,l[i]? =some a/\R a b
 | a::l,b::m,h,0,_,e=>by cases e;exact⟨a,rfl,h.1⟩
 | a::l,b::m,h,i+1,x,e=>Pr.at' (l:=l) (m:=m) h.2 e
 | [],[],_,i,_,e=>by simp at e
 | [],b::m,h,_,_,_=>h.elim
 | a::l,[],h,_,_,_=>h.elim
theorem Pr.perm {l l':List α}(p:l'.Perm l):∀{m:List β},Pr R l m->∃m',Pr R l' m'/\m'.Perm m:=by
 induction p with
 | nil=>intro m h;exact⟨m,h,.refl _⟩
 | cons x _ ih=>
  intro m h;cases m with
  | nil=>exact h.elim
  | cons b m=>
   obtain⟨m',h',p'⟩:=ih h.2;exact⟨b::m',⟨h.1,h'⟩,p'.cons b⟩
 | swap x y l=>
  intro m h
  match m,h with
  | b::c::m,h=>exact⟨c::b::m,⟨h.2.1,h.1,h.2.2⟩,.swap _ _ _⟩
  | [b],h=>exact h.2.elim
  | [],h=>exact h.elim
 | trans _ _ i1 i2=>
  intro m h;obtain⟨m1,h1,p1⟩:=i2 h;obtain⟨m2,h2,p2⟩:=i1 h1;exact⟨m2,h2,p2.trans p1⟩
end
theorem O6 {prog:Program}{w:World}{A:Around}{E:Value->Shared->Prop}{s:Shared}(f:Value->Sem (ForInStep (Option Bool×Unit))){Q:Option Bool×Unit->Shared->Prop}:∀l:List Value,(∀v∈l,∀{Q':ForInStep (Option Bool×Unit)->Shared->Prop},Q' (.yield (none,())) s->wpAny (model prog w) A (f v) Q' E s)->Q (none,()) s->
  wpAny (model prog w) A (forIn l ((none:Option Bool),()) fun v _=>f v) Q E s
 | [],_,q=>zC q
 | v::l,h,q=>by
  rw[forIn_cons];refine zA (h v zJ ?_);exact O6 f l (fun x hx=>h x (zL _ hx)) q
section
variable {prog:Program}{w:World}{K:Type} [DecidableEq K]
def EntK (knd:SetKey prog w K) (h:Heap) (e:Int×Value) (k:K):Prop:=∃b,e=(knd.hash k,Value.ref b)/\knd.is h k b
structure SetAt (knd:SetKey prog w K) (h:Heap) (a:Addr) (es:Array (Int×Value)) (ep:Nat) (t:SetTable) (ks:List K):Prop where
 ob:h.get? a=some (setObjM es ep t)
 tb:Tb t es
 few:es.size*5<t.mask*3
 led:t.led= !byT w
 pl:t.plain=true
 en:Pr (EntK knd h) es.toList ks
 nd:ks.Nodup
 lim:ks.length<=1200
variable {knd:SetKey prog w K}{A:Around}{E:Value->Shared->Prop}{s:Shared}{a b:Addr}{es:Array (Int×Value)}{ep:Nat}{t:SetTable}{ks:List K}{k:K}
theorem SetAt.fits (S:SetAt knd s.heap a es ep t ks):t.fits es.size=true:=S.tb.fits (by have:=S.few;walk_at "o")
theorem quietly (hb:knd.is s.heap k b){Q:Bool->Shared->Prop}:∀(l:List Value),(∀v∈l,∃k' c,v= .ref c/\knd.is s.heap k' c)->Q false s->wpAny (model prog w) A (searchCouldBeSeen (.ref b) l) Q E s:=by
 intro l hl q;unfold searchCouldBeSeen;refine zA ?_;refine O6 _ l (fun v hv Q' q'=>?_) (zC q);obtain⟨k',c,rfl,hc⟩:=hl v hv;dsimp only
 split
 ·exact zC q'
 ·refine zA (knd.quiet hb ?_);rw[if_neg (by decide)]
  refine zA (knd.quiet hc ?_);rw[if_neg (by decide)]
  refine zA (knd.noSt hb ?_);rw[if_neg (by decide)]
  refine zA (knd.noSt hc ?_);rw[if_neg (by decide)]
  exact zC q'
theorem SetAt.ent (S:SetAt knd s.heap a es ep t ks){i j:Nat}(h:t.place[i]? =some j):∃k' c,es[i]? =some (knd.hash k',Value.ref c)/\knd.is s.heap k' c/\ks[i]? =some k'/\(j,knd.hash k',Value.ref c)∈occZ t es:=by
 have hi:i<es.size:=by rw[<-S.tb.ln];exact(qZ.mp h).1
 have e1:es.toList[i]? =some es[i]:=by rw[qC];simp[hi]
 obtain⟨k',h1,c,h2,h3⟩:=S.en.at e1;refine⟨k',c,by rw[<-h2];simp[hi],h3,h1,?_⟩
 unfold occZ;refine jY.mpr ⟨i,?_⟩;rw[List.getElem?_zip_eq_some];exact⟨by rw[qC];exact h,by rw[e1,h2]⟩
theorem SetAt.found (S:SetAt knd s.heap a es ep t ks)(hk:k∈ks){n:Nat}(hf:(pth t.mask n (beg t.mask (knd.hash k))).j∉t.place.toList):∃(b i:Nat),b<n/\t.place[i]? =some (pth t.mask b (beg t.mask (knd.hash k))).j/\∃c,es[i]? =some (knd.hash k,Value.ref c)/\ks[i]? =some k:=by
 obtain⟨i,hi⟩:=jY.mp hk;obtain⟨e,h1,c,rfl,h3⟩:=S.en.at' hi;have he:es[i]? =some (knd.hash k,Value.ref c):=by rw[<-qC];exact h1
 have hl:i<t.place.size:=by rw[S.tb.ln];exact(qZ.mp he).1
 have hp:t.place[i]? =some t.place[i]:=by simp[hl]
 obtain⟨m,h5,h6,h7⟩:=S.tb.way (t.place[i],knd.hash k,Value.ref c) (by
  unfold occZ;refine jY.mpr ⟨i,?_⟩;rw[List.getElem?_zip_eq_some]
  exact⟨by rw[qC];exact hp,h1⟩)
 refine⟨m,i,?_,by rw[h6];exact hp,c,he,hi⟩
 rcases yZ m n with z|z|z
 ·exact z
 ·subst z;rw[h6] at hf;exact absurd (qQ (by rw[qC];exact hp)) hf
 ·exact absurd (h7 n z) hf
theorem a54 (S:SetAt knd s.heap a es ep t ks)(hb:knd.is s.heap k b)(hr:knd.room A){n:Nat}(hn:n<10*(t.mask+14))(hocc:∀x,x<n->(pth t.mask x (beg t.mask (knd.hash k))).j∈t.place.toList)
  (hfree:(pth t.mask n (beg t.mask (knd.hash k))).j∉t.place.toList) {Q:SetFound->Shared->Prop} (q1:k∈ks->Q (.there none) s) (q2:k∉ks->Q (.free (pth t.mask n (beg t.mask (knd.hash k))).j false) s):
  ∀(fuel a0:Nat) (stand:Option SetTable.Probe),a0<=n->n-a0<fuel->stand.getD (t.probeStart (knd.hash k))=pth t.mask a0 (beg t.mask (knd.hash k))->
   (∀x,x<a0->∀i:Nat,t.place[i]? =some (pth t.mask x (beg t.mask (knd.hash k))).j->ks[i]? ≠some k)->wpAny (model prog w) A (setSearchFrom a (.ref b) (knd.hash k) true fuel stand) Q E s:=by
 intro fuel
 induction fuel with
 | zero=>intro a0 stand h1 h2;walk_at "o"
 | succ fuel ih=>
  intro a0 stand h1 h2 h3 h4;rw[setSearchFrom];refine zA (qU S.ob rfl S.fits ?_);dsimp only;rw[S.tb.gave];rw[if_neg (by decide)]
  have hH:∀(i:Nat) (k':K) (c:Addr),es[i]? =some (knd.hash k',Value.ref c)->(fun i:Nat=>(Option.map (fun x:Int×Value=>x.1) es[i]?).getD 0) i=knd.hash k':=fun i k' c e=>by show(Option.map _ es[i]?).getD 0=_;rw[e];rfl
  have hp:=a28 S.tb (hashAt:=fun i:Nat=>(Option.map (fun x:Int×Value=>x.1) es[i]?).getD 0) (h:=knd.hash k) (n-a0) (10*SetTable.turns t.mask) (pth t.mask a0 (beg t.mask (knd.hash k)))
   (by show n-a0<10*(t.mask+15);walk_at "o") (a1D _ _ _) (fun x hx=>by rw[<-z9];exact hocc _ (by walk_at "o")) (by rw[<-z9,show a0+(n-a0)=n by walk_at "o"];exact hfree)
  have uq:∀{i i' j:Nat},t.place[i]? =some j->t.place[i']? =some j->i'=i:=fun{i i' j} hi hi'=>by
   obtain⟨l1,g1⟩:=qZ.mp hi;obtain⟨l2,g2⟩:=qZ.mp hi';rcases yZ i' i with z|z|z
   ·have:=B9 S.tb.rs (d:=0) z l1
    simp[Array.getD,l1,l2,g1,g2] at this
   ·exact z
   ·have:=B9 S.tb.rs (d:=0) z l2
    simp[Array.getD,l1,l2,g1,g2] at this
  generalize hX:t.probe _ (knd.hash k) _=X;have hX':SetTable.probe.go t (fun i:Nat=>(Option.map (fun x:Int×Value=>x.1) es[i]?).getD 0) (knd.hash k) (10*SetTable.turns t.mask) (stand.getD (t.probeStart (knd.hash k)))=X:=hX;clear hX;rw[h3] at hX';rcases hp with ⟨x,i,x1,x2,x3,x4,x5⟩|⟨x4,x5⟩
  ·rw[x4] at hX';subst hX';dsimp only;obtain⟨k',c,e1,e2,e3,e4⟩:=S.ent x2;have hq:∀v∈(List.map (fun x:Int×Value=>x.2) (Array.filter (fun x=>x.1==knd.hash k) es).toList),∃k' c,v= .ref c/\knd.is s.heap k' c:=fun v hv=>by
    obtain⟨y,hy,rfl⟩:=qG.mp hv;rw[Array.toList_filter] at hy;obtain⟨i',hi'⟩:=jY.mp (jP.mp hy).1;obtain⟨k2,_,c2,rfl,h6⟩:=S.en.at hi';exact⟨k2,c2,rfl,h6⟩
   by_cases hl:(!t.led)=true
   case' pos=>
    rw[if_pos hl];refine zA (quietly hb _ hq ?_);rw[if_neg (by decide)]
   case' neg=>rw[if_neg hl]
   all_goals
    rw[e1];dsimp only;refine zA (qE (knd.eqBool hr e2 hb ?_));refine zA (qU S.ob rfl S.fits ?_);dsimp only
    by_cases hkk:k'=k
    ·rw[zP hkk,if_pos (by decide)]
     exact zC (q1 (by rw[<-hkk];exact qQ e3))
    ·rw[zU hkk,if_neg (by decide)]
     have sm:t.sameMemory t.moves t.mask=some true:=by unfold SetTable.sameMemory;simp
     rw[sm];dsimp only;rw[if_pos rfl];rcases a2F S.tb.rs S.tb.nd (pth t.mask x (pth t.mask a0 (beg t.mask (knd.hash k)))).j with ⟨i',g1,g2⟩|⟨g1,_⟩
     ·have ei:=uq x2 g1;subst ei;rw[g2];dsimp only;rw[e1];dsimp only;refine zA ?_;unfold isSame;dsimp only;rw[if_pos (by simp)]
      refine zC ?_;refine zA (zC ?_);rw[if_pos rfl];dsimp only;rw[if_neg (by decide)]
      refine ih (a0+x+1) _ (by walk_at "o") (by walk_at "o") (by show pth _ _ _=_;rw[<-z9,Nat.add_assoc]) fun y hy i2 hi2 hk2=>?_
      by_cases y1:y<a0
      ·exact h4 y y1 i2 hi2 hk2
      ·obtain⟨z,rfl⟩:∃z,y=a0+z:=⟨y-a0,by walk_at "o"⟩
       rw[z9] at hi2
       by_cases y2:z<x
       ·obtain⟨k2,c2,f1,f2,f3,f4⟩:=S.ent hi2;rw[f3] at hk2;cases hk2;exact x5 z y2 i2 hi2 (hH _ _ _ f1)
       ·rw[show z=x by walk_at "o"] at hi2
        have:=uq x2 hi2
        subst this;rw[e3] at hk2;exact hkk (jC hk2)
     ·exact absurd (qQ (by rw[qC];exact x2)) g1
  ·rw[x4] at hX';subst hX';dsimp only;rw[<-z9,show a0+(n-a0)=n by walk_at "o"]
   by_cases hk:k∈ks
   ·obtain⟨y,i,y1,y2,c,y3,y4⟩:=S.found hk hfree
    by_cases z1:y<a0
    ·exact absurd y4 (h4 y z1 i y2)
    ·obtain⟨z,rfl⟩:∃z,y=a0+z:=⟨y-a0,by walk_at "o"⟩
     rw[z9] at y2;exact absurd (hH _ _ _ y3) (x5 z (by walk_at "o") i y2)
   ·exact zC (q2 hk)
end
section
variable {prog:Program}{w:World}{K:Type} [DecidableEq K]
variable {knd:SetKey prog w K}{A:Around}{E:Value->Shared->Prop}{s:Shared}{a b:Addr}{es:Array (Int×Value)}{ep:Nat}{t:SetTable}{ks:List K}{k:K}
theorem Y6 {h h':Heap}{o:PySem.Obj}{es0:Array (Int×Value)}{ep0:Nat}{t0:SetTable}(ho:h.get? a=some o)(hd:o.data= .set es0 ep0 t0)(sb:Heap.SameBut a h h'):∀(e:Int×Value) (k:K),EntK knd h e k->EntK knd h' e k:=fun e k ⟨c,e1,e2⟩=>
 ⟨c,e1,knd.keeps e2 fun x o' its n hx hn=>(sb.2 x fun z=>by subst z;rw[ho] at hx;cases hx;rw[hd] at hn;cases hn).trans hx⟩
theorem a8M {h0:Heap}(ho:s.heap.get? a=some (setObjM es ep t))(T:Tb t es)(few:es.size<=t.mask)(h12:es.size<=1200)(h1:1<=es.size)(hled:t.led= !byT w)(hpl:t.plain=true)(hen:Pr (EntK knd s.heap) es.toList ks)(nd:ks.Nodup)
  {Q:Unit->Shared->Prop} (q:∀h' es' ep' t' ks',Heap.SameBut a s.heap h'->SetAt knd h' a es' ep' t' ks'->ks'.Perm ks->Q () {s with heap:=h'}):
  wpAny (model prog w) A (setRelay a (SetTable.grown es.size)) Q E s:=by
 have hg:SetTable.grown es.size=es.size*4:=by unfold SetTable.grown;rw[if_neg (by walk_at "o")]
 obtain⟨⟨k2,e2⟩,b1,b2,b3⟩:=a2p (es.size*4) (by walk_at "o")
 obtain⟨t',order,r1,r2,r3,r4,r5,r6⟩:=a6i T e2 b1 b2 (by walk_at "o")
 unfold setRelay;refine zA (qU ho rfl (T.fits few) ?_);dsimp only;rw[hg];have sl:¬SetTable.sizeAbove (es.size*4)>sizeLine:=by rw[qR];walk_at "o"
 rw[if_neg sl,r1];have sz:(order.filterMap fun x=>es[x]?).size=es.size:=by have:=r3.length_eq;rwa [zW,zW] at this
 have hz:(order.filterMap fun x=>es[x]?).size<=sizeLine:=by rw[sz,qR];walk_at "o"
 refine zA ?_
 show wpAny (model prog w) A (if((order.filterMap fun x=>es[x]?).size != es.size)=true then(do
  let __r <-unsupported "internal:set-table-lost-an-element"
  pure (order.filterMap fun x=>es[x]?,t')) else pure (order.filterMap fun x=>es[x]?,t')) _ E s
 rw[if_neg (by rw[sz];simp)]
 refine zC ?_;dsimp only;refine wpAny_storeSet_of ho rfl ?_ hz;obtain⟨ks',p1,p2⟩:=hen.perm r3;have sb:=qF s.heap a (Obj.putSet (order.filterMap fun x=>es[x]?) t');refine q _ _ (ep+1) t' ks' sb ⟨?_,r2,by rw[sz];walk_at "o",r5.trans hled,r6.trans hpl,p1.imp (Y6 ho rfl sb),p2.nodup_iff.mpr nd,?_⟩ p2
 ·have:=jL (Obj.putSet (order.filterMap fun x=>es[x]?) t') ho (by rw[putSet_of _ _ rfl];rfl)
  rw[putSet_of _ _ rfl] at this;exact this
 ·have:=hen.len
  rw[p2.length_eq,<-this,zW];exact h12
theorem b1j (S:SetAt knd s.heap a es ep t ks)(hb:knd.is s.heap k b)(hr:knd.room A)(hl:ks.length<1200){Q:Bool->Shared->Prop}(q1:k∈ks->Q false s)
  (q2:k∉ks->∀h' es' ep' t' ks',Heap.SameBut a s.heap h'->SetAt knd h' a es' ep' t' ks'->ks'.Perm (k::ks)->Q true {s with heap:=h'}):wpAny (model prog w) A (setAddHashed a (.ref b) (knd.hash k)) Q E s:=by
 have few:=S.few;have len:=S.en.len;rw[zW] at len;obtain⟨n,n1,n2,n3⟩:=a30 S.tb (by walk_at "o") (knd.hash k)
 have m8:=S.tb.m8;unfold setAddHashed;refine qE ?_;rw[setAddHashedIn];refine zA (qU S.ob rfl S.fits ?_);dsimp only;have bs:byScan (.ref b) es=false:=rfl;rw[bs,if_neg (by decide)]
 refine zA ?_;unfold setSearch;refine a54 S hb hr n1 n2 n3 (fun hk=>?_) (fun hk=>?_) 100000 0 none (jG _) (by walk_at "o") rfl (fun x hx=>absurd hx (by walk_at "o"))
 ·dsimp only;exact zC (q1 hk)
 ·dsimp only;refine zA (qU S.ob rfl S.fits ?_);dsimp only;have jm:=a7I t.mask (knd.hash k) n;have w0:Way t.mask t.place.toList (knd.hash k) (pth t.mask n (beg t.mask (knd.hash k))).j:=⟨n,n1,rfl,n2⟩;generalize (pth t.mask n (beg t.mask (knd.hash k))).j=j at n3 jm w0 ⊢;obtain⟨T',pz,pe,sz⟩:=S.tb.put (e:=(knd.hash k,Value.ref b)) n3 jm w0;have pm:(t.put j).1.mask=t.mask/\(t.put j).1.led=t.led/\(t.put j).1.plain=t.plain:=⟨rfl,rfl,rfl⟩;generalize t.put j=P at *;obtain⟨t1,p⟩:=P;dsimp only at *;generalize SetTable.insertAt es p (knd.hash k,Value.ref b)=es1 at *;rw[pm.2.2,S.pl,if_pos rfl];refine zA (knd.byVal hb ?_);rw[if_pos rfl];refine zA (wpAny_storeSet_of S.ob rfl ?_ (by rw[sz,qR];walk_at "o"))
  have g1:(s.heap.update a (Obj.putSet es1 t1)).get? a=some (setObjM es1 (ep+1) t1):=by
   have:=jL (Obj.putSet es1 t1) S.ob (by rw[putSet_of es1 _ rfl];rfl)
   rw[putSet_of es1 _ rfl] at this;exact this
  have sb1:=qF s.heap a (Obj.putSet es1 t1);have e0:Pr (EntK knd (s.heap.update a (Obj.putSet es1 t1))) ((knd.hash k,Value.ref b)::es.toList) (k::ks):=by
   refine⟨Y6 S.ob rfl sb1 _ _ ⟨b,rfl,hb⟩,S.en.imp (Y6 S.ob rfl sb1)⟩
  obtain⟨ks1,p1,p2⟩:=e0.perm pe;have nd1:ks1.Nodup:=p2.nodup_iff.mpr (nodup_cons.mpr ⟨hk,S.nd⟩);have fl:t1.fill=es1.size:=by unfold SetTable.fill;rw[T'.nd,T'.ln];rfl
  have tf:t1.tooFull=decide (es1.size*5≥t1.mask*3):=by unfold SetTable.tooFull;rw[fl]
  by_cases hf:es1.size*5≥t1.mask*3
  ·rw[if_pos (by rw[tf,zP hf];rfl)]
   refine zA ?_;rw[<-sz];refine a8M (s:={s with heap:=s.heap.update a (Obj.putSet es1 t1)}) (h0:=s.heap) g1 T' (by rw[pm.1];walk_at "o") (by walk_at "o") (by walk_at "o") (pm.2.1.trans S.led) (pm.2.2.trans S.pl) p1 nd1 fun h' es' ep' t' ks' sb2 S' p3=>?_
   exact zC (q2 hk h' es' ep' t' ks' (sb1.trans sb2) S' (p3.trans p2))
  ·rw[if_neg (by rw[tf,zU hf];decide)]
   refine zC (q2 hk _ es1 (ep+1) t1 ks1 sb1 ⟨g1,T',by walk_at "o",pm.2.1.trans S.led,pm.2.2.trans S.pl,p1,nd1,?_⟩ p2)
   rw[p2.length_eq,zV];walk_at "o"
end
open PySem PySem.Spec PyProof.Rows L2 PySem.W
theorem a44 {α:Type}(next:Nat->Nat):∀(fuel k:Nat) (left:List α) (out:Array α),left.length=fuel->(pickOrder.go next fuel k left out).toList.Perm (out.toList++left)
 | 0,k,left,out,h=>by
  obtain rfl:=List.length_eq_zero_iff.mp h;unfold pickOrder.go;rw[yT]
 | fuel+1,k,left,out,h=>by
  unfold pickOrder.go;have hlt:next k%left.length<left.length:=Nat.mod_lt _ (by walk_at "o")
  rw[qT hlt];dsimp only;refine(a44 next fuel (k+1) (left.eraseIdx (next k%left.length)) (out.push left[next k%left.length]) (by rw[List.length_eraseIdx_of_lt hlt];walk_at "o")).trans ?_
  rw[Array.toList_push,List.append_assoc];refine List.Perm.append_left _ ?_;rw[List.eraseIdx_eq_take_drop_succ];refine(perm_middle (l₁:=left.take (next k%left.length)) (a:=left[next k%left.length]) (l₂:=left.drop (next k%left.length+1))).symm.trans (.of_eq ?_);rw[<-yE hlt,take_append_drop]
theorem X8 (w:World)(a:Addr)(es:Array (Int×Value))(ep:Nat):(ordM w a es ep).toList.Perm es.toList:=by
 unfold ordM
 split
 ·unfold pickOrder;exact a44 _ es.size 0 es.toList #[] zW
 ·exact .refl _
theorem B0 (w:World)(a:Addr)(es:Array (Int×Value))(ep:Nat):(ordM w a es ep).size=es.size:=by
 rw[<-zW,(X8 w a es ep).length_eq,zW]
section
variable {prog:Program}{w:World}{A:Around}{E:Value->Shared->Prop}{s:Shared}{it a:Addr}{es:Array (Int×Value)}{i ep m:Nat}
def StM (w:World) (it a:Addr) (es:Array (Int×Value)) (ep m i:Nat) (h:Heap):Prop:=(∃slot,IsSetIt h it a slot i es.size ep/\(byT w=false->slot=slotM m i))/\SRaw w h a es ep m
theorem a0x {slot n:Nat}{Q:Value->Shared->Prop}(h:IsSetIt s.heap it a slot i n ep)(q:Q (.ref it) s):wpAny (model prog w) A (pyIter (.ref it)) Q E s:=by
 have T:s.TypeIs (.ref it) "set_iterator":=⟨_,h,rfl⟩;have sl:Slot "set_iterator" "__iter__" "set_iterator.__iter__":=
  .of (owner:="set_iterator") (n:="__iter__") (by rw[typeLookup_type,vH];kernel_rfl) (by decide +kernel) (by decide +kernel) (by decide +kernel)
   (by first|exact .inl (by decide +kernel)|exact .inr (by decide +kernel)) (by rw[isSubtype_type];kernel_rfl)
 have en:entryFor table "set_iterator.__iter__"=some Builtin.«dict_keyiterator.__iter__»:=entryFor_alias (id':="dict_keyiterator.__iter__") (by kernel_rfl) rfl (by decide +kernel) (by kernel_rfl)
 have ar:argsOk "set_iterator.__iter__" ⟨[.ref it],[]⟩:=by unfold argsOk;kernel_rfl
 refine wpAny_pyIter_slot T sl (qA sl T en ?_ ar);show wpAny _ _ (ret (.ref it)) _ _ s;exact zC ⟨_,rfl,"set_iterator",_,T,n5.lookup,q⟩
theorem a5z (hh:A.handled=none)(I a:Addr)(hne:a≠I)(es:Array (Int×Value))(ep m:Nat):
  Walks prog w A I [I,a] [I] es.size (fun i v=>∃e,(ordM w a es ep)[i]? =some e/\v=e.2) (StM w I a es ep m) where
 sub:=fun b hb=>by simp at hb;simp[hb]
 frame:=fun i h h' st hk=>by
  obtain⟨⟨slot,st1,st2⟩,S⟩:=st;exact⟨⟨slot,hk I (by simp) _ st1,st2⟩,S.on fun o e=>hk a (by simp) o e⟩
 item:=fun i s Q E hi st hQ=>by
  obtain⟨⟨slot,st1,st2⟩,S⟩:=st;have hz:=S.2.1;refine a27 hh st1 S hne (by walk_at "o") st2 (fun e h' slot' he e2 hs' sb=>hQ _ h' s.toks ⟨e,he,rfl⟩ ⟨⟨slot',e2,hs'⟩,S.on fun o e=>(sb.2 a hne).trans e⟩ fun b o hb e=>(sb.2 b (fun z=>hb (by simp[z]))).trans e) fun h' he _=>?_
  rw[jM,B0] at he;walk_at "o"
 done:=fun s Q E st hQ=>by
  obtain⟨⟨slot,st1,st2⟩,S⟩:=st;have hz:=S.2.1;refine a27 hh st1 S hne (by walk_at "o") st2 (fun e h' slot' he _ _ _=>?_) fun h' he x=>hQ h' s.toks fun b o hb e=>x b o (fun z=>hb (by simp[z])) e
  have:(ordM w a es ep)[es.size]? =none:=by rw[jM,B0];exact zE _
  rw[this] at he;cases he
 self:=fun _ _ _ _ st hQ=>by
  obtain⟨⟨slot,st1,st2⟩,S⟩:=st;exact a0x st1 hQ
theorem a23 {Q:Bool->Shared->Prop}(hT:s.TypeIs (.ref a) "set")(h:Q false s):wpAny (model prog w) A (Builtin.List.listLengthHint (.ref a)) Q E s:=by
 have lk:typeLookup (.type "set") "__len__"=pure (some (.builtin "set.__len__")):=by rw[typeLookup_type,vH];kernel_rfl
 unfold Builtin.List.listLengthHint;refine zA (wpAny_specialOf hT lk ?_);generalize hid:("set.__len__":String)=id0
 wp_delta
 rw[show splitId id0=some ("set","__len__") from by subst hid;decide +kernel]
 subst hid;refine zA (wpAny_isInstance (T:="set") (b:=true) hT (by rw[isSubtype_type];kernel_rfl) ?_)
 refine wpAny_ite_split (fun hab=>absurd hab (by decide)) (fun _=>?_)
 refine wpAny_ite_split (fun _=>?_) (fun hab=>absurd (by decide +kernel) hab)
 refine zA (wpAny_typeOf hT ?_);exact zC h
theorem a9q:KdlSrc prog w "set" a a es.size (fun i v=>∃e,(ordM w a es ep)[i]? =some e/\v=e.2) (fun h=>SRaw w h a es ep m) where
 type:=fun _ x=>x.typeIs
 there:=fun _ x=>⟨zO x.2.2,zO x.2.2⟩
 keep:=fun _ _ x hk=>x.on fun o e=>hk a (.inl rfl) o e
 notList:=by decide
 notTuple:=by decide
 hint:=fun _ _ _ _ x q=>a23 x.typeIs q
 iter:=fun _ _ hh x=>⟨_,_,(fun _ _ q=>a6S x q),a5z hh _ a (zG (zO x.2.2)) es ep m,⟨⟨0,zK _ rfl,fun _=>rfl⟩,x.on fun o e=>zD _ e⟩⟩
end
theorem EsOk.fst:∀{es:List (Int×Value)} {l:List Nat},EsOk es l->es.map (·.1)=intsN l
 | _,_,.nil=>rfl
 | _,_,.cons h r=>by rw[zI,EsOk.fst r,h.1];rfl
theorem EsOk.int:∀{es:List (Int×Value)} {l:List Nat},EsOk es l->∀e∈es,∃t,e.2= .int e.1 t
 | _,_,.nil,_,h=>nomatch h
 | _,_,.cons h r,e,he=>by
  rcases zN.mp he with rfl|he
  ·obtain⟨h1,t,h2⟩:=h;exact⟨t,by rw[h1];exact h2⟩
  ·exact EsOk.int r e he
theorem a3l:∀{es:List (Int×Value)},(∀e∈es,∃t,e.2= .int e.1 t)->IntsAre (es.map (·.2)) (es.map (·.1))
 | [],_=>.nil
 | e::es,h=>by
  obtain⟨t,ht⟩:=h e zJ;rw[zI,zI,ht];exact .cons _ t (a3l fun x hx=>h x (zL _ hx))
theorem a7z (m:Nat):(intsN (lm m)).Pairwise (·<=·):=by
 unfold intsN;exact xU.mpr ((b01 m).imp fun h=>by walk_at "o")
section
variable {X:Cx}{e:Expr}{p:Pos}
theorem a2b (hc:X.calm=true):CallR X (.builtin "sorted") (fun xs H Q=>∃p m,xs=[.ref p]/\H p=some (.ext fun h=>SetM X.w h p m)/\∀l,H l=none->Q (.ref l) (upd H l (.lst ((intsN (lm m)).map V.int)))):=by
 intro pins s σ H xs us Q I r h;obtain⟨p,m,rfl,hp,q⟩:=h;obtain⟨u,rfl,ru⟩:=vals1 r;cases ru;obtain⟨⟨hm,es,ep,ho,hes⟩,_,_⟩:=(show ObjOk X.K X.prog X.w H s.heap p (.ext fun h=>SetM X.w h p m) from I.hok p _ hp);have hsz:es.size=(lm m).length:=by rw[<-zW];exact hes.len
 have l8:=a0W m;refine yF kind_sorted plain_sorted entry_sorted (args_sorted1 _) ?_;unfold Builtin.«sorted»;refine zA (m:=checkCount "sorted" 1 1 _) (zC ?_);refine zA (PySem.W.kdu_collect (a9q (m:=m) (ep:=ep) (es:=es)) (show X.A.in1.handled=none from I.ok.hd hc) ⟨hm,hsz,ho⟩ (by rw[hsz,qR];walk_at "o") fun G tk acc hk hacc=>?_)
 have ea:acc.toList=(ordM X.w p es ep).toList.map (·.2):=by
  apply ext_getElem?;intro i;rw[qC,qH,qC]
  by_cases hi:i<es.size
  ·have hi2:i<acc.size:=by rw[hacc.1];exact hi
   obtain⟨e,he,hv⟩:=hacc.2 i acc[i] (by simp[hi2])
   rw[he,Array.getElem?_eq_getElem hi2,hv];rfl
  ·rw[jN (by rw[hacc.1];walk_at "o"),jN (by rw[B0];walk_at "o")];rfl
 have op:=X8 X.w p es ep;have hI:IntsAre acc.toList ((ordM X.w p es ep).toList.map (·.1)):=by
  rw[ea];exact a3l fun e he=>hes.int e (op.mem_iff.mp he)
 have hP0:((ordM X.w p es ep).toList.map (·.1)).Perm (intsN (lm m)):=by rw[<-hes.fst];exact op.map _
 have hlen:acc.toList.length<=8:=by rw[ea,zH,zW,B0];walk_at "o"
 generalize hA:acc.toList=its at hI hlen ⊢;refine zA (wpAny_newList ?_ (by rw[qR];walk_at "o"))
 have I1:Inv X pins σ H {s with heap:=G,toks:=tk}:=I.kept (t':=tk) hk
 have ho:(G.push (seqObj "list" its.toArray 0)).get? G.objs.size=some (seqObj "list" its.toArray 0):=zK _ rfl;refine zA (qE ?_);refine qA PyProof.Rows.slot_list_sort ⟨_,ho,rfl⟩ PyProof.Rows.entry_list_sort (list_sort_tree (n:=0) (vs:=its) ho hI (by walk_at "o") fun out ns' hI' hp' hP=>⟨.none,rfl,?_⟩) (PyProof.Rows.args_list_sort _)
 have es':ns'=intsN (lm m):=PySem.W.lks_uniq (hp'.trans hP0) hP (a7z m);subst es';have g1:=yU ho (fun _=> #[]);have g2:=yU (zD (seqObj "list" #[] 0) (zD (seqObj "tuple" its.toArray 0) g1)) (fun _=>out);have kept:∀b o,G.get? b=some o->(sortedHeap (G.push (seqObj "list" its.toArray 0)) G.objs.size its out).get? b=some o:=fun b o e=>by
  have ne:b≠G.objs.size:=zG (zO e);unfold sortedHeap;rw[xR _ _ _ _ ne];refine zD _ (zD _ ?_);rw[xR _ _ _ _ ne];exact zD _ e
 refine zC ⟨_,rfl,.ref G.objs.size,_,I1.laid (t':=tk) (o:=.lst ((intsN (lm m)).map V.int)) kept (zE _) ?_,rfl,q _ (I1.hok.fresh (zE _))⟩;obtain⟨ep',g3⟩:∃ep',(sortedHeap (G.push (seqObj "list" its.toArray 0)) G.objs.size its out).get? G.objs.size=some (seqObj "list" out.toList.toArray ep'):=⟨_,by rw[Array.toArray_toList];exact g2⟩
 exact⟨by rw[zH];unfold intsN;rw[zH,qR];walk_at "o",out.toList,_,G7 hI',g3⟩
theorem a1U:∀{ns:List Nat} {its:List Value},Vals ((intsN ns).map V.int) its->its.length=ns.length/\∀(i:Nat) (v:Value),its[i]? =some v->∃(n:Nat) (t:Tok),ns[i]? =some n/\v=Value.int n t
 | [],_,.nil=>⟨rfl,fun i v h=>by simp at h⟩
 | n::ns,_,.cons (b:=u) r t=>by
  obtain⟨h1,h2⟩:=a1U t;obtain⟨tk,rfl⟩:=(show ∃tk,u=Value.int n tk from r);refine⟨by rw[zV,zV,h1],fun i v h=>?_⟩
  cases i with
  | zero=>cases h;exact⟨n,tk,rfl,rfl⟩
  | succ i=>exact h2 i v h
end
structure SRawG (w:World) (h:Heap) (a:Addr) (es:Array (Int×Value)) (ep:Nat) (t:SetTable):Prop where
 tb:Tb t es
 few:es.size<=t.mask
 led:t.led= !byT w
 pl:t.plain=true
 ob:h.get? a=some (setObjM es ep t)
def slotG (t:SetTable) (i:Nat):Nat:=if i=0 then 0 else t.place.getD (i-1) 0+1
theorem a2R {t:SetTable}(hr:t.place.toList.Pairwise (· < ·)){i:Nat}(hi:i<=t.place.size):SetTable.below t.place (slotG t i)=i:=by
 obtain⟨h1,h2,h3⟩:=X5 hr (slotG t i);generalize SetTable.below t.place (slotG t i)=r at *;unfold slotG at *
 by_cases h0:i=0
 ·rw[if_pos h0] at h2;subst h0;cases r with
  | zero=>rfl
  | succ r=>exact absurd (h2 0 (by walk_at "o")) (by walk_at "o")
 ·rw[if_neg h0] at h2 h3;have d:∀(x d1 d2:Nat),x<t.place.size->t.place.getD x d1=t.place.getD x d2:=fun x d1 d2 hx=>by simp[Array.getD,hx]
  rcases yZ r i with z|z|z
  ·exfalso
   have:=h3 (i-1) (by walk_at "o") (by walk_at "o")
   have e:=d (i-1) (t.place.getD (i-1) 0+1) 0 (by walk_at "o")
   walk_at "o"
  ·exact z
  ·exfalso
   have a:=h2 i z;have b:=B9 hr (d:=0) (show i-1<i by walk_at "o") (show i<t.place.size by walk_at "o")
   have e:=d i (t.place.getD (i-1) 0+1) 0 (by walk_at "o")
   walk_at "o"
section
variable {prog:Program}{w:World}{A:Around}{E:Value->Shared->Prop}{s:Shared}{it a:Addr}{es:Array (Int×Value)}{i ep slot:Nat}{t:SetTable}
theorem SRawG.fits (S:SRawG w s.heap a es ep t):t.fits es.size=true:=S.tb.fits S.few
theorem SRawG.typeIs (S:SRawG w s.heap a es ep t):s.TypeIs (.ref a) "set":=⟨_,S.ob,rfl⟩
theorem SRawG.on {h h':Heap}(S:SRawG w h a es ep t)(k:∀o,h.get? a=some o->h'.get? a=some o):SRawG w h' a es ep t:=⟨S.tb,S.few,S.led,S.pl,k _ S.ob⟩
theorem a5I {Q:Value->Shared->Prop}(S:SRawG w s.heap a es ep t)
  (q:Q (.ref s.heap.objs.size) {s with heap:=s.heap.push {cls:=.type "set_iterator",data:=.fields #[rawInt (0:Nat),rawInt (0:Nat),.ref a,rawInt es.size,rawInt ep]}}):wpAny (model prog w) A (pyIter (.ref a)) Q E s:=by
 have T:=S.typeIs;have ho:=S.ob;have hf:=S.fits;refine wpAny_pyIter_slot T F.slot_set_iter (qA F.slot_set_iter T K8 ?_ (F.args_set_iter_1 _));unfold Builtin.«frozenset.__iter__»;refine zA (m:=Builtin.Frozenset.slot0 "__iter__" _) (zC ?_);refine zA (m:=Builtin.Frozenset.sizeOf a) ?_;unfold Builtin.Frozenset.sizeOf;refine zA (wpAny_setEntries_of ho rfl hf (zC ?_));refine zA (m:=setDrawn a) ?_;unfold setDrawn;refine zA (qU ho rfl hf ?_);refine zA (C2 (zC ?_));show wpAny _ _ (if(!byT w&&(!t.plain&&decide (es.size>1)))=true then _ else _) _ _ s;rw[S.pl];simp only[yA,xD,Bool.and_false,zZ,qY];refine zA (zC ?_);refine zA (m:=setEpoch a) (wpAny_setEpoch_of ho rfl hf ?_);exact zA (qD (zC ⟨_,rfl,"set_iterator",_,⟨_,zK _ rfl,rfl⟩,n5.lookup,q⟩))
theorem a3A {Q:Option (Value×Nat)->Shared->Prop}(S:SRawG w s.heap a es ep t)(hil:i<=es.size)(hs:byT w=false->slot=slotG t i)
  (q:∀r,(r=none/\(ordM w a es ep)[i]? =none\/∃e slot',r=some (e.2,slot')/\(ordM w a es ep)[i]? =some e/\(byT w=false->slot'=slotG t (i+1)))->Q r s):wpAny (model prog w) A (setNext a slot i ep) Q E s:=by
 have ho:=S.ob;have hf:=S.fits;unfold setNext;refine zA (qU ho rfl hf ?_);refine zA (C2 ?_);cases hb:byT w with
 | true=>
  simp only[qW];rw[if_neg (by simp)]
  refine zA ?_;unfold setWalk;refine zA (qU ho rfl hf ?_);refine zA (C2 ?_);rw[hb];simp only[qW];refine zA (wpAny_askSetting (zC (zC ?_)));have eo:ordM w a es ep=pickOrder (w.params.setOrder a ep) es:=by unfold ordM;rw[hb];rfl
  rw[eo,hb] at q;show Q (((pickOrder (w.params.setOrder a ep) es)[i]?).map fun e=>(e.2,slot)) s;cases he:(pickOrder (w.params.setOrder a ep) es)[i]? with
  | none=>exact q _ (.inl ⟨rfl,he⟩)
  | some e=>exact q _ (.inr ⟨e,slot,rfl,he,fun z=>nomatch z⟩)
 | false=>
  simp only[zZ,qY];have hled:t.led=true:=by rw[S.led,hb];rfl
  show wpAny _ _ (if(!t.plain&&decide (es.size>1))=true then _ else _) _ _ s;rw[S.pl];simp only[yA,xD,zZ,qY];refine zA ?_;show wpAny _ _ (if(!t.led && !es.isEmpty)=true then _ else _) _ _ s;rw[hled];simp only[Bool.not_false,yA,xD,zZ,qY];refine zC ?_;refine zC ?_;have eo:ordM w a es ep=es:=by unfold ordM;rw[hb];rfl
  rw[eo] at q;have hbl:SetTable.below t.place slot=i:=by rw[hs hb];exact a2R S.tb.rs (by rw[S.tb.ln];exact hil)
  simp only[hbl]
  by_cases hlt:i<es.size
  ·have hlt':i<t.place.size:=by rw[S.tb.ln];exact hlt
   have he:es[i]? =some es[i]:=by simp[hlt]
   have hp:t.place[i]? =some t.place[i]:=by simp[hlt']
   rw[he,hp];refine q _ (.inr ⟨_,_,rfl,he,fun _=>?_⟩);unfold slotG;rw[if_neg (by walk_at "o"),Nat.add_sub_cancel]
   simp[Array.getD,hlt']
  ·have he:es[i]? =none:=by rw[jM];walk_at "o"
   rw[he];exact q _ (.inl ⟨rfl,he⟩)
theorem a17 {Q:Option Value->Shared->Prop}(hh:A.handled=none)(hit:IsSetIt s.heap it a slot i es.size ep)(S:SRawG w s.heap a es ep t)(hne:a≠it)(hil:i<=es.size)(hs:byT w=false->slot=slotG t i)
  (q1:∀e h' slot',(ordM w a es ep)[i]? =some e->IsSetIt h' it a slot' (i+1) es.size ep->(byT w=false->slot'=slotG t (i+1))->Heap.SameBut it s.heap h'->Q (some e.2) {s with heap:=h'})
  (q2:∀h',(ordM w a es ep)[i]? =none->Heap.ExtBut it s.heap h'->Q none {s with heap:=h'}):wpAny (model prog w) A (pyNext (.ref it)) Q E s:=by
 have ho:=S.ob;have hf:=S.fits;have T:s.TypeIs (.ref it) "set_iterator":=⟨_,hit,rfl⟩;unfold pyNext;refine zA (wpAny_attempt (qJ (name:=Str.ofString "__next__") T n5 (qA n5 T F8 ?_ (K3 _))));unfold Builtin.«set_iterator.__next__»;refine zA (m:=slotArgs "__next__" 0 _) (zC ?_);refine zA (vG hit rfl ?_);dsimp only;refine zA (wpAny_setEntries_of ho rfl hf ?_);rw[if_neg (by simp)]
 show wpAny _ _ (setNext a slot i ep >>=_) _ _ s;refine zA (a3A S hil hs fun r hr=>?_);rcases hr with ⟨rfl,he⟩|⟨e,slot',rfl,he,hs'⟩
 ·dsimp only;refine zA (qS hit (by simp) fun h1 e1 s1=>?_)
  refine zA (m:=newExc (.type "StopIteration") []) ?_;simp only[newExc,newTuple];refine zA (qD ?_ (by size_fits))
  refine zA (m:=firstArgMember _ _) (wpAny_of_eq (a:=Value.none) (by first|rfl|(simp only[firstArgMember];rfl)) (qD ?_ (by size_fits)))
  simp only[raiseNew];refine zA (wpAny_handled ?_);rw[show A.in1.handled=none from hh];refine zA (zC (wpAny_throw ?_));refine zA (wpAny_isInstance (b:=true) (T:="StopIteration") ⟨_,zK _ rfl,rfl⟩ isSubtype_stop ?_);exact zC (q2 _ he ((s1.extBut.push _).push _))
 ·dsimp only;refine zA (qS hit (by simp) fun h1 e1 s1=>?_)
  have e1':IsSetIt h1 it a slot' i es.size ep:=e1;refine zA (m:=setField (.ref it) 1 (rawInt ((i:Int)+1))) (qS e1' (by simp) fun h2 e2 s2=>?_)
  have e2':IsSetIt h2 it a slot' (i+1) es.size ep:=e2;exact zC ⟨_,rfl,zC (q1 e h2 slot' he e2' hs' (s1.trans s2))⟩
def StG (w:World) (it a:Addr) (es:Array (Int×Value)) (ep:Nat) (t:SetTable) (i:Nat) (h:Heap):Prop:=(∃slot,IsSetIt h it a slot i es.size ep/\(byT w=false->slot=slotG t i))/\SRawG w h a es ep t
theorem a3V (hh:A.handled=none)(I a:Addr)(hne:a≠I)(es:Array (Int×Value))(ep:Nat)(t:SetTable):
  Walks prog w A I [I,a] [I] es.size (fun i v=>∃e,(ordM w a es ep)[i]? =some e/\v=e.2) (StG w I a es ep t) where
 sub:=fun b hb=>by simp at hb;simp[hb]
 frame:=fun i h h' st hk=>by
  obtain⟨⟨slot,st1,st2⟩,S⟩:=st;exact⟨⟨slot,hk I (by simp) _ st1,st2⟩,S.on fun o e=>hk a (by simp) o e⟩
 item:=fun i s Q E hi st hQ=>by
  obtain⟨⟨slot,st1,st2⟩,S⟩:=st;refine a17 hh st1 S hne (by walk_at "o") st2 (fun e h' slot' he e2 hs' sb=>hQ _ h' s.toks ⟨e,he,rfl⟩ ⟨⟨slot',e2,hs'⟩,S.on fun o e=>(sb.2 a hne).trans e⟩ fun b o hb e=>(sb.2 b (fun z=>hb (by simp[z]))).trans e) fun h' he _=>?_
  rw[jM,B0] at he;walk_at "o"
 done:=fun s Q E st hQ=>by
  obtain⟨⟨slot,st1,st2⟩,S⟩:=st;refine a17 hh st1 S hne (zE _) st2 (fun e h' slot' he _ _ _=>?_) fun h' he x=>hQ h' s.toks fun b o hb e=>x b o (fun z=>hb (by simp[z])) e
  have:(ordM w a es ep)[es.size]? =none:=by rw[jM,B0];exact zE _
  rw[this] at he;cases he
 self:=fun _ _ _ _ st hQ=>by
  obtain⟨⟨slot,st1,st2⟩,S⟩:=st;exact a0x st1 hQ
theorem a8S:KdlSrc prog w "set" a a es.size (fun i v=>∃e,(ordM w a es ep)[i]? =some e/\v=e.2) (fun h=>SRawG w h a es ep t) where
 type:=fun _ x=>x.typeIs
 there:=fun _ x=>⟨zO x.ob,zO x.ob⟩
 keep:=fun _ _ x hk=>x.on fun o e=>hk a (.inl rfl) o e
 notList:=by decide
 notTuple:=by decide
 hint:=fun _ _ _ _ x q=>a23 x.typeIs q
 iter:=fun _ _ hh x=>⟨_,_,(fun _ _ q=>a5I x q),a3V hh _ a (zG (zO x.ob)) es ep t,⟨⟨0,zK _ rfl,fun _=>rfl⟩,x.on fun o e=>zD _ e⟩⟩
end
section
variable {f:FX}{fa:FA}{r:FRe}{G:FS}{ρ ρ1:Ev}{kc:Addr->Option Bool}{C:Addr}{i:Nat}{xs ys:List D}{d:D}{b:Bool}
def ez1:Option (List D×Ev)->Option (List D×Ev)
 | some p=>some (enumD p.1,p.2)
 | none=>none
def ezD (xs ys:List D):List D:=enumD (zipD xs ys)
def fiEnumZ (fa:FA):FI:=fun ρ=>(fa ρ).bind fun p=>(takeAll p.2 p.1).bind fun q=>match q.1 with
 | [x,y]=>(items x).bind fun xs=>(items y).map fun ys=>(ezD xs ys,q.2)
 | _=>none
theorem r_ez:fiEnumZ fa ρ=ez1 (fiZip fa ρ):=by
 unfold fiEnumZ fiZip;cases fa ρ with
 | none=>rfl
 | some p=>
  simp only[bind_some];cases takeAll p.2 p.1 with
  | none=>rfl
  | some q=>
   obtain⟨ds,ρ2⟩:=q;simp only[bind_some]
   match ds with
   | []=>rfl
   | [x]=>rfl
   | [x,y]=>dsimp only;cases items x<;>cases items y<;>rfl
   | _::_::_::_=>rfl
theorem r_ez1:ez1 (some (zipD xs ys,ρ))=some (ezD xs ys,ρ):=rfl
def try3 (i:Nat):Option R->Option R
 | some (.nx ρ)=>if freeSlot ρ i=true then some (.nx (ρ.set i none)) else none
 | _=>none
def try1 (i:Nat) (kc:Addr->Option Bool) (f:FX) (G:FS) (ρ:Ev):Option (Addr×Ev)->Option R
 | some (C,ρ1)=>if(noL ρ=true/\freeSlot ρ1 i=true)/\kc C=some true then try3 i (G (ρ1.set i (some (.v (.exn C))))) else none
 | none=>(f ρ).map fun p=>.nx p.2
theorem b0n:fTry i kc f r G ρ=try1 i kc f G ρ (r ρ):=by
 unfold fTry try1;cases r ρ with
 | none=>rfl
 | some p=>
  obtain⟨C,ρ1⟩:=p;dsimp only
  split
  ·cases G (ρ1.set i (some (.v (.exn C)))) with
   | none=>rfl
   | some q=>cases q<;>rfl
  ·rfl
theorem a8w:try1 i kc f G ρ (some (C,ρ1))=if(noL ρ=true/\freeSlot ρ1 i=true)/\kc C=some true then try3 i (G (ρ1.set i (some (.v (.exn C))))) else none:=rfl
theorem a6B:try3 i (some (.nx ρ))=if freeSlot ρ i=true then some (.nx (ρ.set i none)) else none:=rfl
theorem a6Z:noL []=true:=rfl
theorem nl_v:noL (some (.v d)::ρ)=noL ρ:=rfl
theorem nl_o:noL (some (.o d)::ρ)=noL ρ:=rfl
theorem nl_n:noL (none::ρ)=noL ρ:=rfl
def isx1:Option Bool->Option W
 | some b=>some (.v (.bl b))
 | none=>none
theorem b0Q:oIsX kc (.exn C)=isx1 (kc C):=by unfold oIsX isx1;dsimp only;cases kc C<;>rfl
theorem a7B:isx1 (some b)=some (.v (.bl b)):=rfl
def fRC1 (gx:List D->Option Addr):Option (List W×Ev)->Option (Addr×Ev)
 | some p=>(drs p.2 p.1).bind fun ds=>(gx ds).map fun C=>(C,p.2)
 | none=>none
def fRC2 (gx:List D->Option Addr) (ρ:Ev):Option (List D)->Option (Addr×Ev)
 | some ds=>(gx ds).map fun C=>(C,ρ)
 | none=>none
def fRC3 (ρ:Ev):Option Addr->Option (Addr×Ev)
 | some C=>some (C,ρ)
 | none=>none
variable {gx:List D->Option Addr}{ws:List W}{ds:List D}
theorem r_rc:fRCall gx fa ρ=fRC1 gx (fa ρ):=by unfold fRCall fRC1;cases fa ρ<;>rfl
theorem b0r:fRC1 gx (some (ws,ρ))=fRC2 gx ρ (drs ρ ws):=by unfold fRC1 fRC2;dsimp only;cases drs ρ ws<;>rfl
theorem b0P:fRC2 gx ρ (some ds)=fRC3 ρ (gx ds):=by unfold fRC2 fRC3;dsimp only;cases gx ds<;>rfl
theorem b0F:fRC3 ρ (some C)=some (C,ρ):=rfl
def kcF (c:Addr) (b:Bool):Addr->Option Bool:=fun C=>if C=c then some b else none
theorem a8a {c:Addr}:kcF c b c=some b:=if_pos rfl
theorem a34 {c:Addr}{p:Addr->Bool->Prop}(h:p c b):∀C b',kcF c b C=some b'->p C b':=fun C b' e=>by
 unfold kcF at e;split at e
 ·rename_i z;cases e;rw[z];exact h
 ·cases e
end
def ownC (names:List (Str×NameKind)) (x:Str):Bool:=names.any fun q=>q.1==x&&q.2 == .cell
theorem a1z {n x:Str}{k:NameKind}{r:List (Str×NameKind)}:ownC ((n,k)::r) x=((n==x&&k == .cell)||ownC r x):=rfl
theorem a1c:∀{names:List (Str×NameKind)} {n:Nat} {acc:List (Str×Addr)} {x:Str},ownC names x=false->(cellsFrom n names acc).lookup x=acc.lookup x
 | [],_,_,_,_=>rfl
 | (m,k)::r,n,acc,x,h=>by
  rw[a1z,Bool.or_eq_false_iff] at h;unfold cellsFrom
  split
  ·rename_i hk;rw[a1c h.2,yX]
   have:(x==m)=false:=by
    cases q:x==m with
    | false=>rfl
    | true=>
     have e:x=m:=by simpa using q
     have z:=h.1;rw[e,hk] at z;simp at z
   rw[this]
  ·exact a1c h.2
theorem b0d:∀{names:List (Str×NameKind)} {n:Nat} {acc:List (Str×Addr)} {x:Str},ownC names x=true->∃c,(cellsFrom n names acc).lookup x=some c
 | [],_,_,_,h=>by cases h
 | (m,k)::r,n,acc,x,h=>by
  cases q:ownC r x with
  | true=>unfold cellsFrom;split<;>exact b0d q
  | false=>
   rw[a1z,q,Bool.or_false,jQ] at h;unfold cellsFrom;rw[if_pos h.2,a1c q,yX];have e:m=x:=by simpa using h.1
   subst e;simp
theorem a5c:∀{names:List (Str×NameKind)} {n:Nat} {acc:List (Str×Addr)} {x:Str} {c:Addr},(cellsFrom n names acc).lookup x=some c->n<=c\/acc.lookup x=some c
 | [],_,_,_,_,h=>.inr h
 | (m,k)::r,n,acc,x,c,h=>by
  unfold cellsFrom at h;split at h
  ·rcases a5c h with z|z
   ·exact .inl (by walk_at "o")
   ·rw[yX] at z;cases q:x==m with
    | true=>rw[q] at z;cases z;exact .inl (zE _)
    | false=>rw[q] at z;exact .inr z
  ·exact a5c h
theorem a3T:∀{names:List (Str×NameKind)} {n:Nat} {acc:List (Str×Addr)},(∀x c,acc.lookup x=some c->c<n)->(∀x y c,acc.lookup x=some c->acc.lookup y=some c->x=y)->∀x y c,(cellsFrom n names acc).lookup x=some c->(cellsFrom n names acc).lookup y=some c->x=y
 | [],_,_,_,h=>h
 | (m,k)::r,n,acc,hl,hi=>by
  unfold cellsFrom
  split
  ·refine a3T (fun x c e=>?_) fun x y c e1 e2=>?_
   ·rw[yX] at e;cases q:x==m with
    | true=>rw[q] at e;cases e;exact xA _
    | false=>rw[q] at e;exact yB (hl x c e)
   ·rw[yX] at e1 e2;cases q1:x==m with
    | true=>
     rw[q1] at e1;cases e1;cases q2:y==m with
     | true=>
      have a:x=m:=by simpa using q1
      have b:y=m:=by simpa using q2
      rw[a,b]
     | false=>rw[q2] at e2;exact absurd (hl y _ e2) (jE _)
    | false=>
     rw[q1] at e1;cases q2:y==m with
     | true=>rw[q2] at e2;cases e2;exact absurd (hl x _ e1) (jE _)
     | false=>rw[q2] at e2;exact hi x y c e1 e2
  ·exact a3T hl hi
theorem a2B:∀{names:List (Str×NameKind)} {h:Heap} {acc:List (Str×Addr)},(∀x c,acc.lookup x=some c->∃v,h.IsCell c v)->∀x c,(cellsFrom h.objs.size names acc).lookup x=some c->∃v,(pushCells h names).IsCell c v
 | [],_,_,h=>h
 | (m,k)::r,h,acc,hc=>by
  unfold cellsFrom pushCells
  split
  ·have z:=a2B (names:=r) (h:=h.push {cls:=.type "cell",data:=.cell none}) (acc:=(m,h.objs.size)::acc) fun x c e=>by
    rw[yX] at e;cases q:x==m with
    | true=>rw[q] at e;cases e;exact⟨none,_,zK _ rfl,rfl⟩
    | false=>
     rw[q] at e;obtain⟨v,w⟩:=hc x c e;exact⟨v,w.keeps fun b o e=>zD _ e⟩
   rwa [jI] at z
  ·exact a2B hc
theorem a3f {M:Model}{A:Around}{E:Value->Shared->Prop}{s:Shared}{scope:Scope}{globals:Addr}{closure:List (Str×Addr)}{qual:Str}{func:Option Addr}{code:Value}{around:Env}{builtins:Addr}{Q:Env->Shared->Prop}
  (hQ:Q (newEnv scope s.heap.objs.size globals (cellsFrom (s.heap.objs.size+1) scope.names closure) qual func code (some around) builtins) {s with heap:=pushCells (s.heap.push {cls:=.type "dict",data:=.dict #[]}) scope.names}):
  wpAny M A (newFunctionEnv scope globals closure [] qual func code (some around) builtins) Q E s:=by
 simp only[newFunctionEnv,Option.isSome_some,qW];refine zA (wpAny_alloc ?_);refine zA (wpAny_layCells _ (fun name kind cells=>by cases hkc:kind==NameKind.cell<;>simp[hkc]) _ _ _ _ ?_)
 rw[show({s with heap:=s.heap.push {cls:=.type "dict",data:=.dict #[]}}:Shared).heap.objs.size=s.heap.objs.size+1 from jI ..]
 refine zA ?_;rw[forIn_nil];exact zC (zC hQ)
def blkC (X:Cx) (scope:Scope) (cl:List (Str×Addr)) (s2:Shared) (H2:Hp) (fp:List Addr) (C:Addr) (N:List Str):Cx where
 prog:=X.prog
 w:=X.w
 K:=X.K
 mg:=X.mg
 base:=X.base
 A:=X.A
 N:=N
 s₀:=s2
 H₀:=H2
 env:=compEnvC scope (cellsFrom (C+1) scope.names cl) C X.env
 outer:=X.stack
 stack:=X.stack
 ex:=fp
 fn:=ownC scope.names
 calm:=X.calm
 pn:=[]
 xe:=fun _ _=>False
structure BlkC (X:Cx) (scope:Scope) (cl:List (Str×Addr)) (N:List Str) (js:List (Option Nat)):Prop where
 clos:closureFor scope X.env=pure cl
 kind:scope.kind= .function
 apart:∀y c,cl.lookup y=some c->ownC scope.names y=false
 nms:∀y∈scope.names,y.2= .local->scope.names.lookup y.1=some .local
 cap:Cap X (relabel scope X.env) cl N js
 sub:∀y c,cl.lookup y=some c->X.env.cells.lookup y=some c
 has:∀y,((relabel scope X.env).names.lookup y=some .cell\/(relabel scope X.env).names.lookup y=some .free)->(∃c,cl.lookup y=some c)\/ownC scope.names y=true
 acc:∀k,(relabel scope X.env).names.lookup accN≠some k
section
variable {X:Cx}{pins:List (Addr×PySem.Obj)}{σ:L2.St}{H2:Hp}{s2 s4:Shared}{scope:Scope}{cl:List (Str×Addr)}{N:List Str}{js:List (Option Nat)}{fp:List Addr}{Dd C:Addr}{m:Str->Option Value}
theorem BlkC.lo (b:BlkC X scope cl N js){n:Nat}{x:Str}{c:Addr}(e:(cellsFrom n scope.names cl).lookup x=some c):n<=c\/X.env.cells.lookup x=some c:=(a5c e).imp id (b.sub x c)
theorem BlkC.lt (I:Inv X pins σ H2 s2){x:Str}{c:Addr}(e:X.env.cells.lookup x=some c):c<s2.heap.objs.size:=by
 obtain⟨v,z⟩:=I.cell x c e;exact z.lt
theorem a9v (I:Inv X pins σ H2 s2)(b:BlkC X scope cl N js)(f2:∀y∈fp,FpOk X pins H2 y)(fl:∀y∈fp,y<s2.heap.objs.size)(hC:s2.heap.objs.size<=C):(blkC X scope cl s2 H2 fp C (N++[accN])).Ok where
 mod:=I.ok.mod
 kind:=b.kind
 glob:=I.ok.glob
 blt:=I.ok.blt
 above:=hC
 inj:=a3T (fun x c e=>yB (zF (BlkC.lt I (b.sub x c e)) hC)) fun x y c e1 e2=>I.ok.inj x y c (b.sub x c e1) (b.sub y c e2)
 has:=fun x h=>by
  rcases b.has x h with ⟨c,e⟩|e
  ·exact⟨c,(a1c (b.apart x c e)).trans e⟩
  ·exact b0d e
 cab:=fun x c h e=>by
  rcases a5c e with z|z
  ·exact zX hC (vF z)
  ·have h':ownC scope.names x=true:=h;rw[b.apart x c z] at h';cases h'
 hd:=I.ok.hd
 frames:=I.ok.frames
 stk:=.inl rfl
 exf:=fun y hy=>⟨zG (zF (fl y hy) hC),fun x c e=>by
  rcases b.lo e with z|z
  ·exact jX (zF (fl y hy) (zX hC (vF z)))
  ·exact(f2 y hy).2.2.2.2.1 x c z⟩
 bs:=I.bs
 bsz:=zX I.ok.bsz I.sz
 noex:=fun y o e hy=>by
  rcases(f2 y hy).2.2.2.1 with z|z
  ·exact I.ok.noex y o e z
  ·exact absurd (zF (zO e) (zX I.ok.bsz z)) (jE _)
 exfs:=fun y hy z=>(zN.mp (I.stkSub y z)).elim (f2 y hy).2.1 (f2 y hy).2.2.1
 funs:=I.stack
 frf:=I.stkFree
theorem a6u (I:Inv X pins σ H2 s2)(b:BlkC X scope cl N js)(f2:∀y∈fp,FpOk X pins H2 y)(fl:∀y∈fp,y<s2.heap.objs.size)(hC:s2.heap.objs.size<=C)(hD:s2.heap.objs.size<=Dd)(ne:Dd<C)
  (ho:s4.os=s2.os) (hg:AllBare s4.gens) (kp:∀y o,s2.heap.get? y=some o->s4.heap.get? y=some o) (hn:s4.heap.Ns C m) (hk:HOk X.K X.prog X.w (upd H2 Dd (.lst [])) s4.heap)
  (hc:∀x c,(cellsFrom (C+1) scope.names cl).lookup x=some c->∃v,s4.heap.IsCell c v):
  Inv (blkC X scope cl s2 H2 fp C (N++[accN])) [] (capS js σ++[some (.ref Dd)]) (upd H2 Dd (.lst [])) s4:=by
 have nD:∀y o,s2.heap.get? y=some o->y≠Dd:=fun y o e=>zG (zF (zO e) hD);have nH:∀y u,H2 y=some u->y≠Dd:=fun y u e=>zG (zF (I.hok.lt e) hD);have cD:∀x c,(cellsFrom (C+1) scope.names cl).lookup x=some c->c≠Dd:=fun x c e=>by
  rcases b.lo e with z|z
  ·exact jX (zF ne (vF z))
  ·exact zG (zF (BlkC.lt I z) hD)
 refine⟨a9v I b f2 fl hC,ho,hg,⟨fun y o e _ _ _=>kp y o e,fun y o e _ _ _=>⟨o.slots,kp y o e⟩,fun y o e n _=>?_,fun y o e _=>⟨o,kp y o e⟩,fun y xs e=>?_,fun y o u e=>?_,fun y ps e=>?_⟩,⟨m,hn,fun i x v e1 e2 e3=>?_⟩,hc,?_,fun x c e=>?_,fun p hp=>absurd (show p∈([]:List (Addr×PySem.Obj)) from hp) (by simp),hk,?_⟩
 ·rw[c9 (nD y o e)];exact n
 ·rw[c9 (nH _ _ e)];exact e
 ·rw[c9 (nH _ _ e)];exact e
 ·have e':H2 y=some (.tbl ps):=e;exact⟨#[],by rw[c9 (nH _ _ e'),e'];simp⟩
 ·have hl:js.length=N.length:=b.cap.len
  by_cases hi:i<N.length
  ·have e1':N[i]? =some x:=by
    have z:(N++[accN])[i]? =some x:=e1;rw[qB hi] at z;exact z
   rw[qB (by unfold capS;simp;walk_at "o")] at e2
   unfold capS at e2;rw[qH] at e2;cases ej:js[i]? with
   | none=>rw[ej] at e2;cases e2
   | some o=>
    rw[ej] at e2;cases o with
    | none=>cases e2
    | some j=>
     obtain⟨c1,c2,c3,c4⟩:=b.cap.get e1' ej;simp only[jZ,bind_some] at e2;have e2':σ[j]? =some (some v):=by
      cases q:σ[j]? with
      | none=>rw[q] at e2;cases e2
      | some o=>rw[q] at e2;simp at e2;rw[e2]
     obtain⟨m2,_,hl2⟩:=I.loc;obtain⟨u,r,lk⟩:=hl2 j x v c1 e2' (.inr (.inl c2));refine⟨u,r,.inr ⟨.inl c3,?_⟩⟩;rcases lk with ⟨k,_⟩|⟨_,c,e,z⟩
     ·have k':X.env.scope.names.lookup x=some .local:=k;rw[c2] at k';cases k'
     ·exact⟨c,(a1c (b.apart x c (c4.trans e))).trans (c4.trans e),z.keeps kp⟩
  ·have hx:x=accN:=by
    have z:(N++[accN])[i]? =some x:=e1;rw[qP (by walk_at "o")] at z
    cases q:i-N.length with
    | zero=>rw[q] at z;simp at z;exact z.symm
    | succ k=>rw[q] at z;simp at z
   subst hx;rcases e3 with z|z|z
   ·exact absurd z (b.acc _)
   ·exact absurd z (b.acc _)
   ·exact absurd z (b.acc _)
 ·show upd H2 Dd (.lst []) C=none;rw[c9 (jX ne)];exact I.hok.fresh hC
 ·rw[c9 (cD x c e)];rcases b.lo e with z|z
  ·exact I.hok.fresh (zX hC (vF z))
  ·exact I.freeC x c z
 ·show(capS js σ++[some (V.ref Dd)]).length=(N++[accN]).length;unfold capS;simp[b.cap.len]
end
section
variable {X:Cx}{scope:Scope}{cl:List (Str×Addr)}{N:List Str}{js:List (Option Nat)}
theorem a9u (cap:Cap X (relabel scope X.env) cl N js)(clos:closureFor scope X.env=pure cl)(sub:AllC X cl)(has:(relabel scope X.env).names.all (fun p=>(p.2 != .cell&&p.2 != .free)||(cl.lookup p.1).isSome||ownC scope.names p.1)=true)(apart:cl.all (fun p=>!ownC scope.names p.1)=true)(kind:scope.kind= .function:=by rfl)
  (nms:scope.names.all (fun y=>y.2 != .local||scope.names.lookup y.1==some .local)=true:=by decide +kernel) (acc:(relabel scope X.env).names.lookup accN=none:=by rfl):BlkC X scope cl N js where
 clos:=clos
 kind:=kind
 apart:=fun y c h=>by have:=yI.mp apart (y,c) (G6 h);simpa using this
 nms:=fun y hy hl=>by have:=yI.mp nms y hy;rw[hl] at this;simpa using this
 cap:=cap
 sub:=sub.sub
 has:=fun y h=>by
  have key:∀k,(relabel scope X.env).names.lookup y=some k->k= .cell\/k= .free->(∃c,cl.lookup y=some c)\/ownC scope.names y=true:=fun k e hk=>by
   have:=yI.mp has (y,k) (G6 e)
   rcases hk with rfl|rfl<;>simpa [isSome_iff_exists] using this
  rcases h with h|h
  ·exact key _ h (.inl rfl)
  ·exact key _ h (.inr rfl)
 acc:=fun k e=>by rw[acc] at e;cases e
variable {s2:Shared}{H2:Hp}{fp:List Addr}{C:Addr}{M:List Str}{P:List (D×V)}{O:Av}{L:List (Option Nat×Addr)}{ρ:Ev}{σ:L2.St}{H:Hp}
theorem a9j (r:Rep (blk X scope cl s2 H2 fp C M) P O L ρ σ H):Rep (blkC X scope cl s2 H2 fp C M) P O L ρ σ H:=⟨r.1,r.2,r.3,r.4,r.5,r.6,r.7,r.8,r.9,r.10⟩
theorem a9o (r:Rep (blkC X scope cl s2 H2 fp C M) P O L ρ σ H):Rep (blk X scope cl s2 H2 fp C M) P O L ρ σ H:=⟨r.1,r.2,r.3,r.4,r.5,r.6,r.7,r.8,r.9,r.10⟩
end
section
variable {X:Cx}{pins:List (Addr×PySem.Obj)}{σ:L2.St}{H2:Hp}{s2:Shared}{scope:Scope}{cl:List (Str×Addr)}{N:List Str}{js:List (Option Nat)}{fp:List Addr}{it:Addr}{tn:Nat->Heap->Prop}{J:It}{elt tg iter:Expr}{ifs:List Expr}{pos:Pos}{P:List (D×V)}{O:Av}{L:List (Option Nat×Addr)}{ρ ρe:Ev}{xs:List D}{gf:FG}{t:FT}{fe:FX}{Qq:Value->Shared->Prop}{use:Option (Value->Sem Unit)}{li:Option (Nat×Nat)}
theorem a5N (hcalm:X.calm=true)(I2:Inv X pins σ H2 s2)(T:Turn X.prog X.w X.K tg J fp it tn)(st2:tn 0 s2.heap)(f2:∀y∈fp,FpOk X pins H2 y)(b:BlkC X scope cl N js)(r:Rep X P O L ρ σ H2)(hl:LiOk li js ρ)(wk:WksB li X.K P O ρ σ H2 xs J)
  (hg:∀C,QG (blkC X scope cl s2 H2 fp C (N++[accN])) tg gf) (ht:∀C,Tst (blkC X scope cl s2 H2 fp C (N++[accN])) ifs t) (he:∀C,QX (blkC X scope cl s2 H2 fp C (N++[accN])) elt fe)
  (e:loopC (turnC js.length gf t fe) xs (capE (li.map (·.2)) js ρ++[some (.l (.lst []))])=some ρe)
  (fin:∀(Dd C:Addr) (σe:L2.St) (He:Hp) (s1:Shared),H2 Dd=none->s2.heap.objs.size<=C->Inv (blkC X scope cl s2 H2 fp C (N++[accN])) [] σe He s1->Rep (blkC X scope cl s2 H2 fp C (N++[accN])) P (fun b=>AvO O ρ σ b/\¬Capd ρ σ js b) ((some js.length,Dd)::lentL li σ) ρe σe He->
   compPost (model X.prog X.w) X.A X.xe use Qq (.ref Dd) C (.ok .next) s1):
  wpAny (model X.prog X.w) X.A (newList []) (fun acc s3=>wpAny (model X.prog X.w) X.A (newFunctionEnv scope X.env.globals cl [] X.env.qual none .none (some X.env)) (fun cenv s4=>
   codeAny (model X.prog X.w) X.A (.compStart (.ListComp elt [⟨tg,iter,ifs,0⟩] scope pos) 0 (.ref it) acc {cenv with scope:=relabel scope X.env}) (compPost (model X.prog X.w) X.A X.xe use Qq acc cenv.locals) s4) X.xe s3) X.xe s2:=by
 have fl:∀y∈fp,y<s2.heap.objs.size:=fun y hy=>by obtain⟨o,eo,_⟩:=T.obj _ _ st2 y hy;exact zO eo
 refine qD (a3f ?_);dsimp only;generalize hH:s2.heap.push {cls:=.type "list",dict:=none,data:=.seq ([]:List Value).toArray}=H3;generalize hh':pushCells (H3.push {cls:=.type "dict",data:=.dict #[]}) scope.names=h';have kpc:∀y o,(H3.push {cls:=.type "dict",data:=.dict #[]}).get? y=some o->h'.get? y=some o:=fun y o e=>hh'▸pushCells_keeps scope.names _ y o e;have hC:H3.objs.size=s2.heap.objs.size+1:=by rw[<-hH,jI]
 have ne:s2.heap.objs.size≠H3.objs.size:=by rw[hC];exact zG (xA _)
 have leC:s2.heap.objs.size<=H3.objs.size:=by rw[hC];exact Nat.le_succ _
 have kp3:∀y o,s2.heap.get? y=some o->H3.get? y=some o:=fun y o e=>hH▸zD _ e;have kp4:∀y o,H3.get? y=some o->h'.get? y=some o:=fun y o e=>kpc y o (zD _ e);have hns:h'.Ns H3.objs.size (fun _=>none):=(Heap.Ns.new ..).keeps kpc;have hDn:H2 s2.heap.objs.size=none:=I2.hok.fresh (zE _);have ok3:HOk X.K X.prog X.w (upd H2 s2.heap.objs.size (.lst [])) H3:=I2.hok.laid kp3 (zE _) ⟨jG _,[],0,.nil,by rw[<-hH];exact zK _ rfl⟩
 have I4:=a6u (s4:={s2 with heap:=h'}) (Dd:=s2.heap.objs.size) (C:=H3.objs.size) I2 b f2 fl leC (zE _) (by rw[hC];exact xA _) rfl I2.bare (fun y o e=>kp4 y o (kp3 y o e)) hns (ok3.kept kp4) (by
  have z:=a2B (names:=scope.names) (h:=H3.push {cls:=.type "dict",data:=.dict #[]}) (acc:=cl) fun x c e=>by
   obtain⟨v,q⟩:=I2.cell x c (b.sub x c e);exact⟨v,q.keeps fun y o e=>zD _ (kp3 y o e)⟩
  rw[jI] at z;rw[<-hh']
  exact z)
 have R4:=a9j <| a4R (d0:=.lst []) (o0:=.lst []) (fun _ _ e=>⟨[],e,j7⟩) (scope:=scope) (cl:=cl) (N:=N) (s2:=s2) (fp:=fp) (C:=H3.objs.size) (Dd:=s2.heap.objs.size) r hl hDn;have hfree:∀{H':Hp},(∀y∈fp,H' y=none)->∀y∈fp,FpOk (blkC X scope cl s2 H2 fp H3.objs.size (N++[accN])) [] H' y:=fun hn y hy=>
  ⟨hn y hy,zG (zF (fl y hy) leC),fun z=>(zN.mp (I2.stkSub y z)).elim (f2 y hy).2.1 (f2 y hy).2.2.1,.inl hy,fun x c ec=>by
   rcases b.lo ec with z|z
   ·exact jX (zF (fl y hy) (zX leC (vF z)))
   ·exact(f2 y hy).2.2.2.2.1 x c z,fun p hp=>absurd (show p∈([]:List (Addr×PySem.Obj)) from hp) (by simp)⟩
 obtain⟨gg,pg,kg⟩:=(hg H3.objs.size).to;have loop:∀s5:Shared,s5={s2 with heap:=h'}->
   codeAny (model X.prog X.w) X.A (.compLoop (.ListComp elt [⟨tg,iter,ifs,0⟩] scope pos) 0 (.ref it) (.ref s2.heap.objs.size) (compEnvC scope (cellsFrom (H3.objs.size+1) scope.names cl) H3.objs.size X.env))
    (compPost (model X.prog X.w) X.A X.xe use Qq (.ref s2.heap.objs.size) H3.objs.size) s5:=by
  rintro s5 rfl
  let Y:=blkC X scope cl s2 H2 fp H3.objs.size (N++[accN])
  let O':Av:=fun b=>AvO O ρ σ b/\¬Capd ρ σ js b
  let L':=(some js.length,s2.heap.objs.size)::lentL li σ
  refine a1x (fun n s=>∃i σ' H' ρ',n=xs.length-i/\i<=xs.length/\Inv Y [] σ' H' s/\tn i s.heap/\(∀y∈fp,H' y=none)/\Rep Y P O' L' ρ' σ' H'/\loopC (turnC js.length gf t fe) (xs.drop i) ρ'=some ρe) ?_ xs.length
   ⟨0,_,_,_,by simp,jG _,I4,T.keep 0 _ _ st2 fun y hy o eo=>kp4 y o (kp3 y o eo),fun y hy=>by rw[c9 (zG (fl y hy))];exact(f2 y hy).1,R4,by simpa using e⟩
  rintro n s ⟨i,σ',H',ρ',rfl,hi,I,st,fr,rp,el⟩;obtain⟨wi,ws⟩:=wk Y O' L' ρ' σ' H' rfl rfl rp (fun b z=>z.1) (fun z i b m=>by subst z;exact(zN.mp m).elim (fun m=>by cases m;exact hDn) (fun m=>by cases m))
  by_cases hlt:i<xs.length
  ·obtain⟨go,yl⟩:=wi i xs[i] (by simp[hlt])
   refine zR (T.item Y rfl rfl rfl hcalm i [] s σ' H' Fa I (hfree fr) st go) (fun r s1 ⟨u,hr,h1⟩=>?_) fun _ _ z=>z;subst hr;refine zR h1 (fun _ s3 ⟨x,H5,I5,r5,y5,st5,fr5⟩=>?_) fun _ _ z=>z;obtain⟨sm5,dx⟩:=yl x H5 y5
   replace rp:=rp.grow sm5
   rw[yE hlt,loopC] at el;cases e1:turnC js.length gf t fe xs[i] ρ' with
   | none=>rw[e1] at el;cases el
   | some ρt=>
    rw[e1] at el;simp only[bind_some] at el;unfold turnC at e1;cases e2:gf xs[i] ρ' with
    | none=>rw[e2] at e1;cases e1
    | some ρ1=>
     rw[e2] at e1;simp only[bind_some] at e1;obtain⟨⟨k,ρ2⟩,e3,e1⟩:=obs e1;dsimp only at e1;have I5':=I5.pinned (hfree fr5) (T.obj _ _ st5);have gq:=kg P O' L' xs[i] x ρ' ρ1 σ' H5 (fun σ2 Hh=>Rep Y P O' L' ρ1 σ2 Hh) rp dx e2 (fun σ2 H2' rp2=>rp2);refine zR (pg _ s3 σ' H5 x u _ I5' r5 gq) (fun _ s6 ⟨σ6,H6,I6,rp6⟩=>?_) fun _ _ z=>z;have back:∀{s7:Shared} {H7:Hp} {ρ7:Ev},Inv Y ([]++pinsAt fp s3.heap) σ6 H7 s7->Rep Y P O' L' ρ7 σ6 H7->loopC (turnC js.length gf t fe) (xs.drop (i+1)) ρ7=some ρe->
       ∃m,m<xs.length-i/\∃i σ' H' ρ',m=xs.length-i/\i<=xs.length/\Inv Y [] σ' H' s7/\tn i s7.heap/\(∀y∈fp,H' y=none)/\Rep Y P O' L' ρ' σ' H'/\loopC (turnC js.length gf t fe) (xs.drop i) ρ'=some ρe:=fun{s7 H7 ρ7} I7 rp7 e7=>by
      refine⟨xs.length-(i+1),by walk_at "o",i+1,σ6,H7,ρ7,rfl,hlt,I7.unpinned,T.keep _ _ _ st5 fun y hy o eo=>(I7.pin (y,o) (qN _ (qN _ (A6 hy eo)))).1,fun y hy=>?_,rp7,e7⟩
      obtain⟨o,eo,_⟩:=T.obj _ _ st5 y hy;exact(I7.pin (y,o) (qN _ (qN _ (A6 hy eo)))).2.1
     refine zR ((ht H3.objs.size).to _ s6 σ6 H6 P O' L' ρ1 ρ2 k (fun k' Hh=>k'=k/\Rep Y P O' L' ρ2 σ6 Hh) I6 rp6 e3 (fun H' rr=>⟨rfl,rr⟩)) (fun ok s7 ⟨H7,I7,hk,rp7⟩=>?_) fun _ _ z=>z;subst hk;cases ok with
     | false=>
      rw[if_neg zT] at e1 ⊢;cases e1;exact back I7 rp7 el
     | true=>
      rw[if_pos rfl] at e1 ⊢;obtain⟨⟨w,ρ3⟩,e4,e1⟩:=obs e1;simp only[appTo] at e1;obtain⟨⟨ds,ρ4⟩,e5,e1⟩:=obs e1;dsimp only at e1;split at e1
      ·rename_i d zs e6;split at e1
       ·rename_i hl;cases e1;refine zR ((he H3.objs.size).to _ s7 σ6 H7 (fun v H8=>Rep Y P O' L' ρ4 σ6 H8/\Den X.K (AvO O' ρ4 σ6) H8 d v) I7 ⟨P,O',L',ρ2,w,ρ3,rp7,e4,fun v H8 H8' r8 s8 d8=>?_⟩) (fun u8 s8 ⟨v8,H8,I8,r8,rp8,d8⟩=>?_) fun _ _ z=>z
        ·obtain⟨r9,l9,_⟩:=r0 (vs:=[v]) (r8.grow s8) e5 ⟨v,[],rfl,d8.fz r8 s8,rfl⟩;obtain⟨v',ev,h'⟩:=denL1 l9;cases ev;exact⟨r9,h'⟩
        ·obtain⟨d0,q1,q2⟩:=rp8.lnd js.length s2.heap.objs.size zJ;have e6':=e6;unfold ownAt at e6';rw[q1] at e6';cases e6';obtain⟨a,h1,vs,h4,lz⟩:=rp8.obj q1 rfl;rw[q2] at h1;cases h1;have h9:=W2 (X:=Y) _ s8 σ6 H8 (.ref s2.heap.objs.size) [v8] (.ref s2.heap.objs.size) [u8] (fun v H9=>H9=upd H8 s2.heap.objs.size (.lst (vs++[v8]))) I8 rfl (.cons r8 .nil) ⟨_,vs,v8,rfl,rfl,h4,by rw[<-c6 lz];exact zF hl v7,rfl⟩
         refine zR h9 (fun _ s9 ⟨v9,H9,I9,_,e9⟩=>?_) fun _ _ z=>z;subst e9;have g0:Go (AvO O' ρ4 σ6) (AvO O' ρ4 σ6) (fun b=>b=s2.heap.objs.size) H8 (upd H8 s2.heap.objs.size (.lst (vs++[v8]))):=⟨fun b o eb nb=>by rw[c9 nb];exact eb,fun b z=>by rw[z];exact⟨.inr ⟨js.length,_,_,q1,rfl,q2⟩,_,h4,trivial⟩,fun b z=>.inl z⟩
         exact back I9 (rp8.mut (d:=.lst (zs++[d])) e6 q2 (fun b o eb nb=>by rw[c9 nb];exact eb) ⟨_,j3,t8 g0 _ _ (v4 lz (j6 d8 j7))⟩) el
       ·cases e1
      ·cases e1
  ·have hie:i=xs.length:=by walk_at "o"
   subst hie;refine zR (T.done Y rfl rfl rfl hcalm _ [] s σ' H' Fa I (hfree fr) st ws) (fun r s1 ⟨hr,I1⟩=>?_) fun _ _ z=>z;subst hr;rw[List.drop_eq_nil_of_le (zE _),loopC] at el;cases el;exact fin _ _ σ' H' s1 hDn leC I1 rp
 exact codeAny_compStart_list (loop _ rfl) (T.self _ 0 _ _ _ (T.keep 0 _ _ st2 fun y hy o eo=>kp4 y o (kp3 y o eo)) (loop _ rfl))
theorem a56 {C:Addr}{σe:L2.St}{He:Hp}{s1:Shared}{h9:Heap}(I2:Inv X pins σ H2 s2)(f2:∀y∈fp,FpOk X pins H2 y)(leC:s2.heap.objs.size<=C)(I1:Inv (blkC X scope cl s2 H2 fp C (N++[accN])) [] σe He s1)(hs9:∀y,y≠C->h9.get? y=s1.heap.get? y):
  Inv X pins σ He {s1 with heap:=h9}:=by
 have neC:∀y,He y≠none->y≠C:=fun y z w=>z (by rw[w];exact I1.free)
 have inS:∀y o,s2.heap.get? y=some o->y≠C:=fun y o e0=>zG (zF (zO e0) leC);have B:=I1.base
 have un:Un (frs X.stack) fp H2 He s2.heap h9:=⟨fun y o e0 n hb hx=>(hs9 y (inS y o e0)).trans (B.keep y o e0 n hb hx),fun y o e0 n hb hx=>by
   obtain⟨sl',z⟩:=B.slot y o e0 n hb hx;exact⟨sl',(hs9 y (inS y o e0)).trans z⟩,B.free,fun y o e0 hx=>by
   obtain⟨o',z⟩:=B.there y o e0 hx
   exact⟨o',(hs9 y (inS y o e0)).trans z⟩,B.tups,B.frzs,B.tbls⟩
 have hok:HOk X.K X.prog X.w He h9:=fun y u0 q0=>(I1.hok y u0 q0).stay (fun c v hc z=>(hs9 c (neC c (by
   rcases hc with w|w
   ·rw[w,q0];exact fun z=>nomatch z
   ·rw[w];exact fun z=>nomatch z))).trans z) (fun _ z=>z) fun _ _ z=>z
 exact I2.call' (s':={s1 with heap:=h9}) (ch:=fp) I1.os un hok I1.bare (fun y hy=>⟨(f2 y hy).2.2.2.1,(f2 y hy).2.1,(f2 y hy).2.2.2.2.1,(f2 y hy).2.2.2.2.2⟩)
end
section
variable {X:Cx}{pins:List (Addr×PySem.Obj)}{σ σe:L2.St}{H2 He:Hp}{s2:Shared}{scope:Scope}{cl:List (Str×Addr)}{N:List Str}{js:List (Option Nat)}{fp:List Addr}{Dd C:Addr}{elt tg iter:Expr}{ifs:List Expr}{pos:Pos}{P:List (D×V)}{O:Av}{L:List (Option Nat×Addr)}{ρ ρe:Ev}{w:W}{ys:List D}{fi:FI}{gf:FG}{t:FT}{fe:FX}{li:Option (Nat×Nat)}
theorem a5M {Q:VK}{Qq:Value->Shared->Prop}{use:Option (Value->Sem Unit)}{H:Hp}{s:Shared}{newPos:Pos}(hc:X.calm=true)(b:BlkC X scope cl N js)(hj:liJ li js=true)(hi:QIB X li tg iter fi)
  (hg:∀s2 H2 fp C,QG (blkC X scope cl s2 H2 fp C (N++[accN])) tg gf) (ht:∀s2 H2 fp C,Tst (blkC X scope cl s2 H2 fp C (N++[accN])) ifs t) (he:∀s2 H2 fp C,QX (blkC X scope cl s2 H2 fp C (N++[accN])) elt fe) (hs:∀x,foldedSetIterable iter X.env x=pure x)
  (I:Inv X pins σ H s) (h:tX X (fComp fi li js gf t fe) σ H Q)
  (fin:∀(C:Addr) (v:V) (He:Hp) (s1:Shared),Q v He->(∀h9:Heap,(∀y,y≠C->h9.get? y=s1.heap.get? y)->Inv X pins σ He {s1 with heap:=h9})->FpOk X pins He C->(∃m,s1.heap.Ns C m)->∀vv,RelV v vv->compPost (model X.prog X.w) X.A X.xe use Qq vv C (.ok .next) s1):
  wpAny (model X.prog X.w) X.A (comprehension (.ListComp elt [⟨tg,iter,ifs,0⟩] scope pos) scope X.env newPos (newList []) false (eval iter X.env) use) Qq X.xe s:=by
 obtain⟨P,O,L,ρ,w,ρ',r,e,q⟩:=h;unfold fComp at e;obtain⟨⟨xs,ρ1⟩,e1,e⟩:=obs e;dsimp only at e;split at e
 ·rename_i hb;cases e2:loopC (turnC js.length gf t fe) xs (capE (li.map (·.2)) js ρ1++[some (.l (.lst []))]) with
  | none=>rw[e2] at e;cases e
  | some ρe=>
   rw[e2] at e;simp only[bind_some] at e;split at e
   ·rename_i ys ey;have hl:=a96 hj hb;refine wpAny_comprehension_free rfl hs b.clos b.kind b.nms ?_;refine zR (hi.to pins s σ H _ I ⟨P,O,L,ρ,xs,ρ1,r,e1,fun J H1 P' r1 hh wk=>(⟨P',r1,hh,wk⟩:∃P',Rep X P' O L ρ1 σ H1/\Holds P' P/\WksB li X.K P' O ρ1 σ H1 xs J)⟩) (fun v s1 h1=>zR h1 (fun itv s2 h2=>?_) fun _ _ z=>z) fun _ _ z=>z;obtain⟨it,fp,tn,J,H2,rfl,I2,T,st2,f2,P',r1,hh,wk⟩:=h2;refine a5N hc I2 T st2 f2 b r1 hl wk (hg s2 H2 fp) (ht s2 H2 fp) (he s2 H2 fp) e2 fun Dd C σe He s3 hn leC I1 rp=>?_;obtain⟨Hx,rx,sx,dx⟩:=a4m r1 hl hn (a9o rp) ey e;obtain⟨m,hm,_⟩:=id I1.loc;refine fin C (.ref Dd) He s3 (q _ Hx He (rx.holds hh) sx dx) (fun h9 k9=>a56 I2 f2 leC I1 k9) ?_ ⟨m,hm⟩ (.ref Dd) rfl;exact I2.fpOk leC I1.free
   ·cases e
 ·cases e
theorem a8N (hc:X.calm=true)(b:BlkC X scope cl N js)(hi:QIB X li tg iter fi)(hg:∀s2 H2 fp C,QG (blkC X scope cl s2 H2 fp C (N++[accN])) tg gf)(ht:∀s2 H2 fp C,Tst (blkC X scope cl s2 H2 fp C (N++[accN])) ifs t)(he:∀s2 H2 fp C,QX (blkC X scope cl s2 H2 fp C (N++[accN])) elt fe)
  (hj:liJ li js=true:=by rfl) (hs:∀x,foldedSetIterable iter X.env x=pure x:=by intro _;rfl):QX X (.ListComp elt [⟨tg,iter,ifs,0⟩] scope pos) (fComp fi li js gf t fe):=⟨fun pins s σ H Q I h=>by
 rw[eval_ListComp];refine a5M (use:=none) hc b hj hi hg ht he hs I h fun C v He s1 hq back fp ⟨m,hm⟩ vv rv=>?_
 exact⟨m,hm,fun h9 k9=>⟨v,He,back h9 fun y ny=>k9.2 y ny,rv,hq⟩⟩⟩
end
open PySem PySem.Spec PySem.W PyProof.Rows
theorem V7:isSubtype (.type "list") (.type "set")=pure false:=by rw[isSubtype_type];kernel_rfl
theorem D7:isSubtype (.type "list") (.type "frozenset")=pure false:=by rw[isSubtype_type];kernel_rfl
section
variable {prog:Program}{w:World}{A:Around}{E:Value->Shared->Prop}{s:Shared}
theorem a1l {l:Addr}{items:Array Value}{ns:List Nat}{Q:Value->Shared->Prop}(hh:A.handled=none)(hl:s.heap.IsList l items)(h8:∀n∈ns,n<8)(hsz:items.size=ns.length)(hi:∀(i:Nat) (v:Value),items[i]? =some v->∃(n:Nat) (t:Tok),ns[i]? =some n/\v=Value.int n t)
  (h:∀(h':Heap) (tk:Nat),SetM w h' s.heap.objs.size (mAll ns)->(∀b o,b<s.heap.objs.size->s.heap.get? b=some o->h'.get? b=some o)->Q (.ref s.heap.objs.size) {s with heap:=h',toks:=tk}):
  wpAny (model prog w) A (call (.type "set") [.ref l]) Q E s:=by
 obtain⟨c,tl,hmro⟩:=F.called_set.mro;have hmade:=F.called_set.made;have hsub:=F.called_set.sub;refine wpAny_call (codeAny_of_tree ?_);show wpAny _ _ (callAny (.type "set") _) _ _ _;refine zC ⟨Code.quiet_builtin _ (by decide +kernel),xK F.entry_type_call ?_⟩
 rw[Around.under_plain (weight_type_call_type "set" [.ref l] []) rfl];have h1:=F.called_set.notType;have h2:=F.called_set.canCreate;have hct:=F.typeCall_set_1 (.ref l)
 repeat(any_goals(first|assumption|wp_step))
 refine yK (U1 (a:=.ref l) (E:=E) (Q₁:=fun obj s₁=>obj= .ref s.heap.objs.size/\s₁={s with heap:=s.heap.push (setObjM #[] 0 (.fresh 0 0 (!byT w)))}) ⟨rfl,rfl⟩) fun r s₁ hr=>?_
 cases r with
 | error e=>exact hr
 | ok fl=>
  cases fl with
  | ret obj=>
   obtain⟨rfl,rfl⟩:=hr;have hS:(s.heap.push (setObjM #[] 0 (.fresh 0 0 (!byT w)))).get? s.heap.objs.size=some (setObjM #[] 0 (.fresh 0 0 (!byT w))):=zK _ rfl;have hT:Shared.TypeIs {s with heap:=s.heap.push (setObjM #[] 0 (.fresh 0 0 (!byT w)))} (.ref s.heap.objs.size) "set":=⟨_,hS,rfl⟩
   have hli:=F.called_set.init.lookup;have hbi:=F.called_set.init.bind (.ref s.heap.objs.size)
   repeat(any_goals(first|assumption|wp_step))
   refine yK (codeAny_call_builtin (R:=wants (fun r s₂=>r= .none/\∃h' tk,s₂={s with heap:=h',toks:=tk}/\SetM w h' s.heap.objs.size (mAll ns)/\
     (∀b o,b<s.heap.objs.size->s.heap.get? b=some o->h'.get? b=some o)) E) F.called_set.init.plain F.entry_set_init (check_set_init_1 hT ?_)) fun r₂ s₂ hr₂=>?_
   ·have hlS:l<s.heap.objs.size:=by obtain⟨o,e,_⟩:=hl;exact zO e
    obtain⟨ol,hol,hcl,nl,hdl⟩:=id hl;obtain⟨ocls,odict,odata,oslots⟩:=ol;simp only at hcl hdl;subst hcl;subst hdl;have hol':(s.heap.push (setObjM #[] 0 (.fresh 0 0 (!byT w)))).get? l=some {cls:=.type "list",dict:=odict,data:=.seq items nl,slots:=oslots}:=zD _ hol;have hsls:=V7;have hslf:=D7;have hne:(Value.type "list" == Value.type "dict")=false:=by decide
    have hl1:(s.heap.push (setObjM #[] 0 (.fresh 0 0 (!byT w)))).IsList l items:=⟨_,hol',rfl,nl,rfl⟩;have hS':(s.heap.push (setObjM #[] 0 (.fresh 0 0 (!byT w)))).get? s.heap.objs.size=some {cls:=.type "set",dict:=none,data:=.set #[] 0 (.fresh 0 0 (!byT w)),slots:= #[]}:=hS;unfold Builtin.«set.__init__» noKeywords Builtin.Frozenset.updateFrom;generalize hPI:pyIter=PI
    wp_walk
    subst hPI;refine vC hl1 ?_;refine zA (wpAny_runValue ?_);have hh3:A.in1.in1.in1.handled=none:=by simp[hh]
    have hneI:l≠(s.heap.push (setObjM #[] 0 (.fresh 0 0 (!byT w)))).objs.size:=by
     rw[jI];exact zG (yB hlS)
    have hSf:s.heap.objs.size∉[(s.heap.push (setObjM #[] 0 (.fresh 0 0 (!byT w)))).objs.size,l]:=by
     rw[jI];simp only[zN,zS,xG,yY,not_or];exact⟨zG (xA _),jX hlS⟩
    have W:=(Walks.list (prog:=prog) (w:=w) hh3 _ l hneI items).toS;rw[hsz] at W;refine updM h8 W s.heap.objs.size hSf (fun i v hv=>hi i v hv) (ns.length-0) 0 _ rfl (jG _) ?hSt ?hS0 ?hR
    case hSt=>exact⟨⟨_,zK _ rfl,rfl,rfl⟩,⟨_,zD _ hol',rfl,nl,rfl⟩⟩
    case hS0=>
     refine⟨by rw[take_zero];decide, #[],0,?_,?_⟩
     ·rw[take_zero];exact zD _ hS
     ·rw[take_zero];exact .nil
    case hR=>
     intro s' hm hS';obtain⟨h',g',d',tk',os'⟩:=s';have eg:g'=s.gens:=hm.gens;have ed:d'=s.drawn:=hm.drawn;have eo:os'=s.os:=hm.os;subst eg;subst ed;subst eo;show wpAny _ _ _ _ _ _;refine zC ?_;show wpAny _ _ (ret Value.none) _ _ _;refine zC ⟨rfl,h',tk',rfl,hS',fun b o hb e=>?_⟩;have hb1:b≠s.heap.objs.size:=zG hb;have hb2:b≠(s.heap.push (setObjM #[] 0 (.fresh 0 0 (!byT w)))).objs.size:=by
      rw[jI];exact zG (yB hb)
     exact hm.heap b o (by simp only[zN,zS,xG,yY,not_or];exact⟨hb1,hb2⟩) (zD _ (zD _ e))
   ·cases r₂ with
    | error e=>exact hr₂
    | ok fl₂=>
     cases fl₂ with
     | ret r=>
      obtain⟨rfl,h',tk,rfl,hS',hk'⟩:=hr₂
      repeat(any_goals(first|assumption|wp_step))
      exact h _ _ hS' hk'
     | _=>exact hr₂.elim
  | _=>exact hr.elim
end
section
open L2
variable {X:Cx}{e:Expr}{pos pos2 p p2:Pos}{fa:FA}
theorem a5P (hc:X.calm=true):CallR X (.type "set") (fun xs H Q=>∃p ns,xs=[.ref p]/\SqL X.K H p ((intsN ns).map V.int)/\(∀n∈ns,n<8)/\∀l,H l=none->Q (.ref l) (upd H l (.ext fun h=>SetM X.w h l (mAll ns)))):=by
 intro pins s σ H xs us Q I r h;obtain⟨p,ns,rfl,hp,h8,q⟩:=h;obtain⟨u,rfl,ru⟩:=vals1 r;cases ru;obtain⟨its,rv,ht,_⟩:=I.list hp;obtain⟨hl,hi⟩:=a1U rv;refine a1l (ns:=ns) (I.ok.hd hc) ht.isList h8 (by simpa using hl) (fun i v e=>hi i v (by simpa using e)) fun h' tk hS hk=>?_
 have kp:∀b o,s.heap.get? b=some o->h'.get? b=some o:=fun b o e=>hk b o (zO e) e;refine⟨.ref s.heap.objs.size,_,I.laid (t':=tk) (o:=.ext fun h=>SetM X.w h s.heap.objs.size (mAll ns)) kp (zE _) ⟨hS,?_,fun h1 h2 x k=>?_⟩,rfl,q _ (I.hok.fresh (zE _))⟩
 ·obtain⟨_,es,ep,ho,_⟩:=hS;exact⟨_,ho⟩
 ·obtain⟨hm,es,ep,ho,r⟩:=x;exact⟨hm,es,ep,k _ ho,r⟩
def gSL:D->Option W
 | .lst xs=>(intsOf xs).bind fun ns=>if ∀n∈ns,0<=n/\n<8 then some (.o (.lst ((intsN (lm (mAll (ns.map Int.toNat)))).map D.int))) else none
 | _=>none
def rSL (X:Cx):List V->Hp->VK->Prop:=fun xs H Q=>∃p ns,xs=[.ref p]/\SqL X.K H p ((intsN ns).map V.int)/\(∀n∈ns,n<8)/\∀l,H l=none->∃p m,[V.ref l]=[.ref p]/\(upd H l (.ext fun h=>SetM X.w h l (mAll ns))) p=some (.ext fun h=>SetM X.w h p m)/\
 ∀l',(upd H l (.ext fun h=>SetM X.w h l (mAll ns))) l'=none->Q (.ref l') (upd (upd H l (.ext fun h=>SetM X.w h l (mAll ns))) l' (.lst ((intsN (lm m)).map V.int)))
theorem pr_SL:PrA X (k1 gSL) (rSL X):=pr1 fun A d w v H Q e h q=>by
 cases d with
 | lst xs=>
  simp only[gSL] at e;cases e1:intsOf xs with
  | none=>rw[e1] at e;cases e
  | some bs=>
   rw[e1] at e;simp only[bind_some] at e;split at e
   ·rename_i hl;cases e;obtain⟨a,vs,rfl,hq,l⟩:=h;rw[v6 e1] at l;rw[q9 l] at hq;have eb:bs=intsN (bs.map Int.toNat):=by
     unfold intsN;rw[jA]
     conv=>lhs;rw[<-map_id bs]
     apply xE;intro n hn
     have:=(hl n hn).1
     show n=((n.toNat:Nat):Int);walk_at "o"
    refine⟨a,bs.map Int.toNat,rfl,by rw[<-eb];exact hq,fun n hn=>?_,fun l hl'=>⟨l,_,rfl,j3,fun l' hl2=>?_⟩⟩
    ·obtain⟨k,hk,rfl⟩:=qG.mp hn
     have:=hl k hk;walk_at "o"
    ·have hn:H l'=none:=by
      by_cases z:l'=l
      ·rw[z];exact hl'
      ·rw[c9 z] at hl2;exact hl2
     exact q _ _ ((i0 hl' _).trans (i0 hl2 _)) ⟨l',rfl,hn,_,j3,C0 _⟩
   ·cases e
 | _=>cases e
theorem a1i (hc:X.calm=true)(hm:X.mg "sorted"=none)(hm2:X.mg "set"=none)(ha:QA X [e] fa)(hv:bootBuiltins "sorted"=some (.builtin "sorted"):=by rfl)(hv2:bootBuiltins "set"=some (.type "set"):=by rfl)(hg:Gl X "sorted":=by rfl)(hg2:Gl X "set":=by rfl)
  (he:starEach [e] X.env=(false,eval e X.env)::starEach [] X.env:=by rfl) (he2:starEach [.Call (.Name "set" p2) [e] [] pos2] X.env=(false,eval (.Call (.Name "set" p2) [e] [] pos2) X.env)::starEach [] X.env:=by rfl):
  QX X (.Call (.Name "sorted" p) [.Call (.Name "set" p2) [e] [] pos2] [] pos) (fCall (k1 gSL) fa):=
 ⟨PE.weak (PE.weak (C8 (a2b hc) hg hm hv (w8 (Z0 (a5P hc) hg2 hm2 hv2 ha.to (by decide) (by decide) he rfl) N2 he2) (by decide) (by decide) he2 rfl) (u:=tCB (rSL X) (tA X fa)) fun σ H Q h=>h) (P0 pr_SL)⟩
end
section
variable {prog:Program}{w:World}{K:Type} [DecidableEq K] {knd:SetKey prog w K}
def SetIs (knd:SetKey prog w K) (h:Heap) (a:Addr) (kl:List K):Prop:=∃es ep t ks,SetAt knd h a es ep t ks/\∀k,k∈ks↔k∈kl
theorem SetIs.on {h h':Heap}{a:Addr}{kl:List K}(S:SetIs knd h a kl)(k1:∀o,h.get? a=some o->h'.get? a=some o)(k2:∀b o its n,h.get? b=some o->o.data= .seq its n->h'.get? b=some o):SetIs knd h' a kl:=
 let ⟨es,ep,t,ks,S,hk⟩:=S
 ⟨es,ep,t,ks,⟨k1 _ S.ob,S.tb,S.few,S.led,S.pl,S.en.imp fun _ _ ⟨c,e1,e2⟩=>⟨c,e1,knd.keeps e2 k2⟩,S.nd,S.lim⟩,hk⟩
variable {A:Around}{R:Result->Shared->Prop}{I:Addr}{fp wr:List Addr}{G:Array GenState->Array GenState->Prop}{P:Nat->Value->Prop}{St:Nat->Shared->Prop}
theorem updG {kl:List K}{h0:Heap}(hz:kl.length<=1200)(hr:knd.room A.in1)(W:WalksS prog w A.in1 I fp wr G kl.length P St)(S:Addr)(hSf:S∉fp)(hval:∀(i:Nat) (v:Value),P i v->∃(k:K) (b:Addr),kl[i]? =some k/\v= .ref b/\knd.is h0 k b)
  (hI:∀i s,St i s->∀b∈wr,∀o its n,s.heap.get? b=some o->o.data≠.seq its n):
  ∀(c i:Nat) (s:Shared),kl.length-i=c->i<=kl.length->St i s->(∀b o its n,h0.get? b=some o->o.data= .seq its n->s.heap.get? b=some o)->SetIs knd s.heap S (kl.take i)->
   (∀s',Moved (S::wr) G s s'->SetIs knd s'.heap S kl->R (.ok (.ret .none)) s')->codeAny (model prog w) A (.builtin "set.update.loop" ⟨[.ref S,.ref I],[]⟩) R s:=by
 have hSw:S∉wr:=fun h=>hSf (W.sub _ h);have hsub:∀b∈wr,b∈S::wr:=fun b hb=>zL _ hb;intro c
 induction c with
 | zero=>
  intro i s hk hi hst hh0 hS hR;have hin:i=kl.length:=by walk_at "o"
  subst hin;refine xK yO ?_;rw[yH jJ _];show wpAny _ A.in1 (pyNext (.ref I) >>=_) _ _ s;refine zA (W.done s _ _ hst fun s' hm=>?_);show wpAny _ A.in1 (ret Value.none) _ _ s';rw[take_length] at hS;exact zC (hR s' (hm.mono hsub) (hS.on (fun o ho=>hm.heap S _ hSw ho) fun b o its n ho hd=>hm.heap b _ (fun hb=>hI _ _ hst b hb _ _ _ ho hd) ho))
 | succ c ih=>
  intro i s hk hi hst hh0 hS hR;have hlt:i<kl.length:=by walk_at "o"
  refine xK yO ?_;rw[yH jJ _];show wpAny _ A.in1 (pyNext (.ref I) >>=_) _ _ s;refine zA (W.item i s _ _ hlt hst fun v s' hP hst' hm=>?_);obtain⟨k,b,hn,rfl,hb0⟩:=hval i v hP;have seqk:∀b o its n,s.heap.get? b=some o->o.data= .seq its n->s'.heap.get? b=some o:=fun b o its n ho hd=>hm.heap b _ (fun hb=>hI _ _ hst b hb _ _ _ ho hd) ho;have hh1:∀b o its n,h0.get? b=some o->o.data= .seq its n->s'.heap.get? b=some o:=fun b o its n ho hd=>seqk b o its n (hh0 b o its n ho hd) hd;have hb:knd.is s'.heap k b:=knd.keeps hb0 hh1;obtain⟨es,ep,t,ks,S1,hks⟩:=hS.on (fun o ho=>hm.heap S _ hSw ho) seqk;have etk:kl.take (i+1)=kl.take i++[k]:=by rw[List.take_add_one,hn];rfl
  have kss:∀x∈ks,x∈kl.take i:=fun x hx=>(hks x).mp hx;have hlen:ks.length<1200:=by
   have:=jO S1.nd kss
   rw[length_take] at this;walk_at "o"
  show wpAny _ A.in1 (holding [Value.ref b] (setAdd S (.ref b)) >>=_) _ _ s';refine zA (qE ?_);unfold setAdd;refine qE ?_;refine zA (knd.pyHash hr hb ?_);refine b1j (s:={s' with toks:=s'.toks+knd.draws k}) S1 hb hr hlen (fun hk'=>?_) (fun hk' h' es' ep' t' ks' hsb S2 hp=>?_)
  ·refine zC ⟨plainId_quiet jJ _,ih (i+1) _ (by walk_at "o") hlt (W.frame _ s' _ _ hst' (Nat.le_add_right _ _) fun b hb o e=>e) hh1 ⟨es,ep,t,ks,S1,fun x=>?_⟩ fun s'' hm'' hS''=>?_⟩
   ·rw[etk,jB,zS,hks x];exact⟨.inl,fun z=>z.elim id fun z=>by rw[z];exact(hks k).mp hk'⟩
   ·exact hR s'' (Moved.trans W.gtrans ((hm.mono hsub).then_heap (h':=s'.heap) (Nat.le_add_right _ _) fun b o hb e=>e) hm'') hS''
  ·refine zC ⟨plainId_quiet jJ _,ih (i+1) _ (by walk_at "o") hlt (W.frame _ s' _ _ hst' (Nat.le_add_right _ _) fun b hb o e=>?_) (fun c o its n ho hd=>?_) ⟨es',ep',t',ks',S2,fun x=>?_⟩ fun s'' hm'' hS''=>?_⟩
   ·rw[hsb.2 b (fun h:b=S=>hSf (by rw[<-h];exact hb))];exact e
   ·have e1:=hh1 c o its n ho hd;rw[hsb.2 c (fun z=>by subst z;rw[S1.ob] at e1;cases e1;cases hd)];exact e1
   ·rw[hp.mem_iff,zN,etk,jB,zS,hks x];exact⟨Or.symm,Or.symm⟩
   ·refine hR s'' (Moved.trans W.gtrans ((hm.mono hsub).then_heap (Nat.le_add_right _ _) fun b o hb e=>?_) hm'') hS'';rw[hsb.2 b (fun h:b=S=>hb (by rw[h];exact zJ))];exact e
theorem a7g (f m:Nat)(l:Bool):Tb (.fresh f m l) #[]:=by
 refine⟨⟨3,rfl⟩,zE _,(show 7<=8191 by decide),rfl,rfl,List.Pairwise.nil,fun j hj=>?_,fun p hp=>?_⟩
 ·cases hj
 ·cases hp
theorem a07 {A:Around}{E:Value->Shared->Prop}{s:Shared}{l:Addr}{items:Array Value}{kl:List K}{Q:Value->Shared->Prop}(hh:A.handled=none)(hr:knd.room A.in1.in1.in1)(hl:s.heap.IsList l items)(hz:kl.length<=1200)(hsz:items.size=kl.length)
  (hi:∀(i:Nat) (v:Value),items[i]? =some v->∃(k:K) (b:Addr),kl[i]? =some k/\v= .ref b/\knd.is s.heap k b)
  (h:∀(h':Heap) (tk:Nat),SetIs knd h' s.heap.objs.size kl->(∀b o,b<s.heap.objs.size->s.heap.get? b=some o->h'.get? b=some o)->Q (.ref s.heap.objs.size) {s with heap:=h',toks:=tk}):
  wpAny (model prog w) A (call (.type "set") [.ref l]) Q E s:=by
 obtain⟨c,tl,hmro⟩:=F.called_set.mro;have hmade:=F.called_set.made;have hsub:=F.called_set.sub;refine wpAny_call (codeAny_of_tree ?_);show wpAny _ _ (callAny (.type "set") _) _ _ _;refine zC ⟨Code.quiet_builtin _ (by decide +kernel),xK F.entry_type_call ?_⟩
 rw[Around.under_plain (weight_type_call_type "set" [.ref l] []) rfl];have h1:=F.called_set.notType;have h2:=F.called_set.canCreate;have hct:=F.typeCall_set_1 (.ref l)
 repeat(any_goals(first|assumption|wp_step))
 refine yK (U1 (a:=.ref l) (E:=E) (Q₁:=fun obj s₁=>obj= .ref s.heap.objs.size/\s₁={s with heap:=s.heap.push (setObjM #[] 0 (.fresh 0 0 (!byT w)))}) ⟨rfl,rfl⟩) fun r s₁ hr=>?_
 cases r with
 | error e=>exact hr
 | ok fl=>
  cases fl with
  | ret obj=>
   obtain⟨rfl,rfl⟩:=hr;have hS:(s.heap.push (setObjM #[] 0 (.fresh 0 0 (!byT w)))).get? s.heap.objs.size=some (setObjM #[] 0 (.fresh 0 0 (!byT w))):=zK _ rfl;have hT:Shared.TypeIs {s with heap:=s.heap.push (setObjM #[] 0 (.fresh 0 0 (!byT w)))} (.ref s.heap.objs.size) "set":=⟨_,hS,rfl⟩
   have hli:=F.called_set.init.lookup;have hbi:=F.called_set.init.bind (.ref s.heap.objs.size)
   repeat(any_goals(first|assumption|wp_step))
   refine yK (codeAny_call_builtin (R:=wants (fun r s₂=>r= .none/\∃h' tk,s₂={s with heap:=h',toks:=tk}/\SetIs knd h' s.heap.objs.size kl/\
     (∀b o,b<s.heap.objs.size->s.heap.get? b=some o->h'.get? b=some o)) E) F.called_set.init.plain F.entry_set_init (check_set_init_1 hT ?_)) fun r₂ s₂ hr₂=>?_
   ·have hlS:l<s.heap.objs.size:=by obtain⟨o,e,_⟩:=hl;exact zO e
    obtain⟨ol,hol,hcl,nl,hdl⟩:=id hl;obtain⟨ocls,odict,odata,oslots⟩:=ol;simp only at hcl hdl;subst hcl;subst hdl;have hol':(s.heap.push (setObjM #[] 0 (.fresh 0 0 (!byT w)))).get? l=some {cls:=.type "list",dict:=odict,data:=.seq items nl,slots:=oslots}:=zD _ hol;have hsls:=V7;have hslf:=D7;have hne:(Value.type "list" == Value.type "dict")=false:=by decide
    have hl1:(s.heap.push (setObjM #[] 0 (.fresh 0 0 (!byT w)))).IsList l items:=⟨_,hol',rfl,nl,rfl⟩;have hS':(s.heap.push (setObjM #[] 0 (.fresh 0 0 (!byT w)))).get? s.heap.objs.size=some {cls:=.type "set",dict:=none,data:=.set #[] 0 (.fresh 0 0 (!byT w)),slots:= #[]}:=hS;unfold Builtin.«set.__init__» noKeywords Builtin.Frozenset.updateFrom;generalize hPI:pyIter=PI
    wp_walk
    subst hPI;refine vC hl1 ?_;refine zA (wpAny_runValue ?_);have hh3:A.in1.in1.in1.handled=none:=by simp[hh]
    have hneI:l≠(s.heap.push (setObjM #[] 0 (.fresh 0 0 (!byT w)))).objs.size:=by
     rw[jI];exact zG (yB hlS)
    have hSf:s.heap.objs.size∉[(s.heap.push (setObjM #[] 0 (.fresh 0 0 (!byT w)))).objs.size,l]:=by
     rw[jI];simp only[zN,zS,xG,yY,not_or];exact⟨zG (xA _),jX hlS⟩
    have W:=(Walks.list (prog:=prog) (w:=w) hh3 _ l hneI items).toS;rw[hsz] at W;refine updG (knd:=knd) (h0:=s.heap) hz hr W s.heap.objs.size hSf (fun i v hv=>hi i v hv) ?hI (kl.length-0) 0 _ rfl (jG _) ?hSt ?hh0 ?hS0 ?hR
    case hI=>
     intro i s1 hst b hb o its n ho hd;obtain⟨⟨o1,q1,q2,q3⟩,_⟩:=hst;rw[zS.mp hb] at ho;rw[q1] at ho;cases ho;rw[q3] at hd;cases hd
    case hSt=>exact⟨⟨_,zK _ rfl,rfl,rfl⟩,⟨_,zD _ hol',rfl,nl,rfl⟩⟩
    case hh0=>exact fun b o its n ho hd=>zD _ (zD _ ho)
    case hS0=>
     refine⟨#[],0,_,[],⟨zD _ hS,a7g _ _ _,(show 0*5<7*3 by decide),rfl,rfl,True.intro,nodup_nil,(show 0<=1200 by decide)⟩,fun k=>?_⟩
     rw[take_zero]
    case hR=>
     intro s' hm hS';obtain⟨h',g',d',tk',os'⟩:=s';have eg:g'=s.gens:=hm.gens;have ed:d'=s.drawn:=hm.drawn;have eo:os'=s.os:=hm.os;subst eg;subst ed;subst eo;show wpAny _ _ _ _ _ _;refine zC ?_;show wpAny _ _ (ret Value.none) _ _ _;refine zC ⟨rfl,h',tk',rfl,hS',fun b o hb e=>?_⟩;have hb1:b≠s.heap.objs.size:=zG hb;have hb2:b≠(s.heap.push (setObjM #[] 0 (.fresh 0 0 (!byT w)))).objs.size:=by
      rw[jI];exact zG (yB hb)
     exact hm.heap b o (by simp only[zN,zS,xG,yY,not_or];exact⟨hb1,hb2⟩) (zD _ (zD _ e))
   ·cases r₂ with
    | error e=>exact hr₂
    | ok fl₂=>
     cases fl₂ with
     | ret r=>
      obtain⟨rfl,h',tk,rfl,hS',hk'⟩:=hr₂
      repeat(any_goals(first|assumption|wp_step))
      exact h _ _ hS' hk'
     | _=>exact hr₂.elim
  | _=>exact hr.elim
end
section
variable {prog:Program}{w:World}{A:Around}{E:Value->Shared->Prop}{s:Shared}{a:Addr}{o:PySem.Obj}{items:Array Value}{n:Nat}
theorem a7K:typeLookup (.type "tuple") "__hash__"=pure (some (.builtin "tuple.__hash__")):=by rw[typeLookup_type,vH];kernel_rfl
theorem a5F {fuel:Nat}(ho:s.heap.get? a=some o)(hc:o.cls= .type "tuple")(hd:o.data= .seq items n)(hi:∀v∈items.toList,∀{Q:Bool->Shared->Prop},Q true s->wpAny (model prog w) A (hashByValue fuel v) Q E s)
  {Q:Bool->Shared->Prop} (q:Q true s):wpAny (model prog w) A (hashByValue (fuel+1) (.ref a)) Q E s:=by
 have T:s.TypeIs (.ref a) "tuple":=⟨o,ho,hc⟩;rw[hashByValue];refine zA (wpAny_specialOf T a7K ?_);dsimp only;rw[seqItems?];refine zA (zA (wpAny_load ho ?_));rw[hd];refine zC ?_;refine zA ?_;show wpAny _ _ (forIn items _ _) _ _ _;rw[<-Array.forIn_toList];refine O6 _ _ (fun v hv Q' q'=>?_) (zC q);refine zA (hi v hv ?_);rw[if_neg (by decide)]
 exact zC q'
theorem a6y {fuel:Nat}(ho:s.heap.get? a=some o)(hc:o.cls= .type "tuple")(hd:o.data= .seq items n)(hi:∀v∈items.toList,∀{Q:Bool->Shared->Prop},Q false s->wpAny (model prog w) A (ofAClassStatement fuel v) Q E s)
  {Q:Bool->Shared->Prop} (q:Q false s):wpAny (model prog w) A (ofAClassStatement (fuel+1) (.ref a)) Q E s:=by
 have T:s.TypeIs (.ref a) "tuple":=⟨o,ho,hc⟩;rw[ofAClassStatement];refine zA (wpAny_typeOf T ?_);dsimp only;rw[if_pos (by decide)]
 refine zA (zC ?_);rw[if_neg (by decide)]
 rw[seqItems?];refine zA (zA (wpAny_load ho ?_));rw[hd];refine zC ?_;dsimp only;refine zA ?_;rw[<-Array.forIn_toList];refine O6 _ _ (fun v hv Q' q'=>?_) (zC q);refine zA (hi v hv ?_);rw[if_neg (by decide)]
 exact zC q'
end
theorem a0r {prog:Program}{w:World}{ks:List Int}{l:List Value}(h:ItemsAre (intKind prog w) ks l):∀v∈l,∃(i:Int) (t:Tok),v= .int i t:=by
 induction h with
 | nil=>intro v hv;cases hv
 | cons h _ ih=>
  intro v hv;rcases zN.mp hv with rfl|hv
  ·cases v with
   | int i t=>exact⟨i,t,rfl⟩
   | _=>exact absurd h (by first|(intro z;cases z)|(simp[intKind]))
  ·exact ih v hv
def tupSet (prog:Program) (w:World):SetKey prog w (List Int) where
 is:=IsTupleKey (intKind prog w)
 hash:=tupleKeyHash (intKind prog w)
 draws:=fun ks=>ks.length+1
 room:=fun A=>A.units<cLine
 inj:=fun x y=>x.inj y
 keeps:=fun⟨o,its,n,h1,h2,h3,h4⟩ hk=>⟨o,its,n,hk _ _ _ _ h1 h3,h2,h3,h4⟩
 pyHash:=fun hr h q=>wpAny_pyHash_tuple hr h q
 eqBool:=fun hr h h' q=>wpAny_eqBool_tuple hr h h' q
 quiet:=fun h q=>wpAny_eqIsQuiet_tuple h q
 noSt:=fun⟨o,its,n,h1,h2,h3,h4⟩ q=>a6y h1 h2 h3 (fun v hv Q q'=>by
  obtain⟨i,t,rfl⟩:=a0r h4 v hv;rw[ofAClassStatement]
  ·exact zC q'
  ·exact fun _ z=>nomatch z) q
 byVal:=fun⟨o,its,n,h1,h2,h3,h4⟩ q=>a5F h1 h2 h3 (fun v hv Q q'=>by
  obtain⟨i,t,rfl⟩:=a0r h4 v hv;rw[hashByValue]
  exact zC q') q
open PySem PySem.Spec PySem.W PyProof.Rows L2
def SetKey.only {prog:Program} {w:World} {K:Type} [DecidableEq K] (knd:SetKey prog w K) (al:List (K×Addr)):SetKey prog w K where
 is:=fun h k a=>knd.is h k a/\(k,a)∈al
 hash:=knd.hash
 draws:=knd.draws
 room:=knd.room
 inj:=fun x y=>knd.inj x.1 y.1
 keeps:=fun x hk=>⟨knd.keeps x.1 hk,x.2⟩
 pyHash:=fun hr h q=>knd.pyHash hr h.1 q
 eqBool:=fun hr h h' q=>knd.eqBool hr h.1 h'.1 q
 quiet:=fun h q=>knd.quiet h.1 q
 noSt:=fun h q=>knd.noSt h.1 q
 byVal:=fun h q=>knd.byVal h.1 q
def SetRf (w:World) (h:Heap) (p:Addr) (bs:List Addr):Prop:=∃es ep t,SRawG w h p es ep t/\es.toList.map (·.2)=bs.map Value.ref
theorem SetRf.on {w:World}{h h':Heap}{p:Addr}{bs:List Addr}(S:SetRf w h p bs)(k:∀o,h.get? p=some o->h'.get? p=some o):SetRf w h' p bs:=let ⟨es,ep,t,S,e⟩:=S;⟨es,ep,t,S.on k,e⟩
theorem a2Q {prog:Program}{w:World}:∀{k:List Int} {its:List Value},Vals (k.map V.int) its->ItemsAre (intKind prog w) k its
 | [],its,r=>by cases r;exact .nil
 | i::k,its,r=>by
  rw[zI] at r;cases r with
  | cons h t=>
   obtain⟨t',rfl⟩:=h;exact .cons (intKind_is _ _ _ _) (a2Q t)
theorem a8m {l:List Value}{bs:List Addr}(h:l.Perm (bs.map Value.ref)):∃as:List Addr,l=as.map Value.ref/\as.Perm bs:=by
 let un:Value->Addr:=fun v=>match v with
  | .ref a=>a
  | _=>0
 refine⟨l.map un,?_,?_⟩
 ·rw[jA]
  conv=>lhs;rw[<-map_id l]
  refine xE fun v hv=>?_;obtain⟨a,_,rfl⟩:=qG.mp (h.mem_iff.mp hv);rfl
 ·have:=h.map un
  rw[jA] at this;have e:(un∘Value.ref)=id:=rfl
  rwa [e,map_id] at this
section
variable {K:PySem.W.Frag}{H:Hp}
theorem Al.mem {as:List Addr}{ks:List (List Int)}(h:Al K H as ks):∀{k:List Int} {b:Addr},(k,b)∈ks.zip as->SqT K H b (k.map V.int):=by
 induction h with
 | nil=>intro k b z;cases z
 | cons q r ih=>
  intro k b z;rw[jS] at z;rcases zN.mp z with z|z
  ·cases z;exact q
  ·exact ih z
theorem Al.permT {as bs:List Addr}(p:as.Perm bs):∀{ks:List (List Int)},Al K H bs ks->∃ks',Al K H as ks'/\ks'.Perm ks:=by
 induction p with
 | nil=>intro ks h;exact⟨ks,h,.refl _⟩
 | cons x _ ih=>
  intro ks h;cases h with
  | cons q r=>
   obtain⟨ks',h',p'⟩:=ih r;exact⟨_,.cons q h',p'.cons _⟩
 | swap x y l=>
  intro ks h;cases h with
  | cons q r=>
   cases r with
   | cons q' r=>exact⟨_,.cons q' (.cons q r),.swap _ _ _⟩
 | trans _ _ i1 i2=>
  intro ks h;obtain⟨m1,h1,p1⟩:=i2 h;obtain⟨m2,h2,p2⟩:=i1 h1;exact⟨m2,h2,p2.trans p1⟩
theorem a8d {prog:Program}{w:World}{h:Heap}{as:List Addr}{ks:List (List Int)}(al:Al K H as ks):∀{l:List (Int×Value)} {ks':List (List Int)},Pr (EntK ((tupSet prog w).only (ks.zip as)) h) l ks'->∃bs:List Addr,l.map (·.2)=bs.map Value.ref/\Al K H bs ks'
 | [],[],_=>⟨[],rfl,.nil⟩
 | e::l,k::ks',h=>by
  obtain⟨⟨b,rfl,_,hm⟩,h2⟩:=h;obtain⟨bs,e1,a⟩:=a8d al h2;exact⟨b::bs,by rw[zI,zI,e1],.cons (al.mem hm) a⟩
 | [],k::ks',h=>h.elim
 | e::l,[],h=>h.elim
end
section
variable {X:Cx}{e:Expr}{pos pos2 p p2:Pos}{fa:FA}
theorem a6g {j:Nat}(hr:Room j X.A):CallR X (.type "set") (fun xs H Q=>∃(p:Addr) (as:List Addr) (ks:List (List Int)),xs=[.ref p]/\SqL X.K H p (as.map V.ref)/\Al X.K H as ks/\ks.length<=1200/\
  ∀(l:Addr) (bs:List Addr) (ks':List (List Int)),H l=none->Al X.K H bs ks'->ks'.Nodup->(∀k,k∈ks'↔k∈ks)->Q (.ref l) (upd H l (.ext fun h=>SetRf X.w h l bs))):=by
 intro pins s σ H xs us Q I r h;obtain⟨p,as,ks,rfl,hp,al,hz,q⟩:=h;obtain⟨u,rfl,ru⟩:=vals1 r;cases ru;obtain⟨its,rv,ht,_⟩:=I.list hp;have ei:=J8 rv;subst ei;have len:=al.len;refine a07 (knd:=(tupSet X.prog X.w).only (ks.zip as)) (kl:=ks) hr.hd (by show X.A.units+1+1+1<cLine;have:=hr.un;walk_at "o") ht.isList hz (by simp[len]) (fun i v hv=>?_) fun h' tk hS hk=>?_
 ·rw[List.getElem?_toArray,qH] at hv;cases ea:as[i]? with
  | none=>rw[ea] at hv;cases hv
  | some b=>
   rw[ea] at hv;cases hv;have hi:i<ks.length:=by rw[<-len];exact(zQ.mp ea).1
   have hm:(ks[i],b)∈ks.zip as:=jY.mpr ⟨i,by rw[List.getElem?_zip_eq_some];exact⟨by simp[hi],ea⟩⟩
   obtain⟨its,r1,⟨o,o1,o2,n,o3⟩,_⟩:=I.tuple (al.mem hm);exact⟨ks[i],b,by simp[hi],rfl,⟨o,_,n,o1,o2,o3,a2Q (by simpa using r1)⟩,hm⟩
 ·have kp:∀b o,s.heap.get? b=some o->h'.get? b=some o:=fun b o e=>hk b o (zO e) e;obtain⟨es,ep,t,ks',S,hks⟩:=hS;obtain⟨bs,e1,alb⟩:=a8d (K:=X.K) (H:=H) al S.en;refine⟨.ref s.heap.objs.size,_,I.laid (t':=tk) (o:=.ext fun h=>SetRf X.w h s.heap.objs.size bs) kp (zE _) ⟨⟨es,ep,t,⟨S.tb,by have:=S.few;walk_at "o",S.led,S.pl,S.ob⟩,e1⟩,⟨_,S.ob⟩,fun h1 h2 x k=>x.on k⟩,rfl,q _ bs ks' (I.hok.fresh (zE _)) alb S.nd hks⟩
theorem a0i (hc:X.calm=true):CallR X (.builtin "sorted") (fun xs H Q=>∃(p:Addr) (bs:List Addr) (ks:List (List Int)),xs=[.ref p]/\H p=some (.ext fun h=>SetRf X.w h p bs)/\Al X.K H bs ks/\ks.length<64/\(∀k∈ks,k≠[])/\
  ∀(l:Addr) (bs':List Addr),H l=none->Al X.K H bs' (sortK ks)->Q (.ref l) (upd H l (.lst (bs'.map V.ref)))):=by
 intro pins s σ H xs us Q I r h;obtain⟨p,bs,ks,rfl,hp,al,h64,ne,q⟩:=h;obtain⟨u,rfl,ru⟩:=vals1 r;cases ru;obtain⟨⟨es,ep,t,S,eb⟩,_,_⟩:=(show ObjOk X.K X.prog X.w H s.heap p (.ext fun h=>SetRf X.w h p bs) from I.hok p _ hp);have len:=al.len;have sz:es.size=ks.length:=by have:=congrArg List.length eb;simp at this;walk_at "o"
 have szl:es.size<=sizeLine:=by rw[sz,qR];walk_at "o"
 refine yF kind_sorted plain_sorted entry_sorted (args_sorted1 _) ?_;unfold Builtin.«sorted»;refine zA (m:=checkCount "sorted" 1 1 _) (zC ?_);refine zA (PySem.W.kdu_collect (a8S (t:=t) (ep:=ep) (es:=es)) (show X.A.in1.handled=none from I.ok.hd hc) S szl fun G tk acc hk hacc=>?_);have ea:acc.toList=(ordM X.w p es ep).toList.map (·.2):=by
  apply ext_getElem?;intro i;rw[qC,qH,qC]
  by_cases hi:i<es.size
  ·have hi2:i<acc.size:=by rw[hacc.1];exact hi
   obtain⟨e,he,hv⟩:=hacc.2 i acc[i] (by simp[hi2])
   rw[he,Array.getElem?_eq_getElem hi2,hv];rfl
  ·rw[jN (by rw[hacc.1];walk_at "o"),jN (by rw[B0];walk_at "o")];rfl
 have pm:acc.toList.Perm (bs.map Value.ref):=by rw[ea,<-eb];exact(X8 X.w p es ep).map _
 obtain⟨as2,e2,pb⟩:=a8m pm;obtain⟨ks2,al2,pk⟩:=al.permT pb;have sk:sortK ks2=sortK ks:=G5 ((p5 ks2).trans (pk.trans (p5 ks).symm)) (t6 _) (t6 _);rw[e2];refine zA (wpAny_newList ?_ (by rw[zH,al2.len,pk.length_eq,qR];walk_at "o"))
 have I1:Inv X pins σ H {s with heap:=G,toks:=tk}:=I.kept (t':=tk) hk
 refine zA (qE (zR (Y0 I1 al2 (fun k hk=>ne k (pk.mem_iff.mp hk)) (by rw[pk.length_eq];exact h64) (by rw[sk];exact q)) (fun _ s' x=>?_) fun _ _ z=>z))
 exact zC ⟨_,rfl,x⟩
def ddK {α:Type} [DecidableEq α]:List α->List α
 | []=>[]
 | k::ks=>if k∈ddK ks then ddK ks else k::ddK ks
theorem V9 {α:Type} [DecidableEq α] {k:α}:∀{ks:List α},k∈ddK ks↔k∈ks
 | []=>Iff.rfl
 | x::ks=>by
  rw[ddK]
  split
  ·rename_i h;rw[zN,V9];exact⟨.inr,fun z=>z.elim (fun e=>by rw[e];exact V9.mp h) id⟩
  ·rw[zN,zN,V9]
theorem P8 {α:Type} [DecidableEq α]:∀ks:List α,(ddK ks).Nodup
 | []=>nodup_nil
 | x::ks=>by
  rw[ddK]
  split
  ·exact P8 ks
  ·rename_i h;exact nodup_cons.mpr ⟨h,P8 ks⟩
theorem a4S {α:Type} [DecidableEq α]:∀ks:List α,(ddK ks).length<=ks.length
 | []=>zE _
 | x::ks=>by
  have:=a4S ks
  rw[ddK]
  split
  ·rw[zV];walk_at "o"
  ·rw[zV,zV];walk_at "o"
def gSST:D->Option W
 | .lst xs=>(tupsOf xs).bind fun ks=>if ks.length<64/\∀k∈ks,k≠[] then some (.o (.lst ((sortK (ddK ks)).map tupI))) else none
 | _=>none
def rSST (X:Cx):List V->Hp->VK->Prop:=fun xs H Q=>∃(p:Addr) (as:List Addr) (ks:List (List Int)),xs=[.ref p]/\SqL X.K H p (as.map V.ref)/\Al X.K H as ks/\ks.length<=1200/\
  ∀(l:Addr) (bs:List Addr) (ks':List (List Int)),H l=none->Al X.K H bs ks'->ks'.Nodup->(∀k,k∈ks'↔k∈ks)->∃(p:Addr) (bs2:List Addr) (ks2:List (List Int)),[V.ref l]=[.ref p]/\(upd H l (.ext fun h=>SetRf X.w h l bs)) p=some (.ext fun h=>SetRf X.w h p bs2)/\Al X.K (upd H l (.ext fun h=>SetRf X.w h l bs)) bs2 ks2/\ks2.length<64/\(∀k∈ks2,k≠[])/\
   ∀(l':Addr) (bs':List Addr),(upd H l (.ext fun h=>SetRf X.w h l bs)) l'=none->Al X.K (upd H l (.ext fun h=>SetRf X.w h l bs)) bs' (sortK ks2)->Q (.ref l') (upd (upd H l (.ext fun h=>SetRf X.w h l bs)) l' (.lst (bs'.map V.ref)))
theorem b08:PrA X (k1 gSST) (rSST X):=pr1 fun A d w v H Q e h q=>by
 cases d with
 | lst xs=>
  simp only[gSST] at e;cases e1:tupsOf xs with
  | none=>rw[e1] at e;cases e
  | some ks=>
   rw[e1] at e;simp only[bind_some] at e;split at e
   ·rename_i hl;cases e;obtain⟨a,vs,rfl,hq,l⟩:=h;obtain⟨as,rfl,al⟩:=S8 e1 l;refine⟨a,as,ks,rfl,hq,al,by walk_at "o",fun l bs ks' hl' alb nd mem=>?_⟩
    have sm:=i0 (o:=.ext fun h=>SetRf X.w h l bs) hl';have pk:ks'.Perm (ddK ks):=(xZ nd (P8 ks)).mpr fun k=>by rw[mem k,V9]
    have sk:sortK ks'=sortK (ddK ks):=G5 ((p5 ks').trans (pk.trans (p5 _).symm)) (t6 _) (t6 _);refine⟨l,bs,ks',rfl,j3,alb.same sm,by rw[pk.length_eq];have:=a4S ks;walk_at "o",fun k hk=>hl.2 k ((mem k).mp hk),fun l' bs' hl2 al2=>?_⟩
    have hn:H l'=none:=by
     by_cases z:l'=l
     ·rw[z];exact hl'
     ·rw[c9 z] at hl2;exact hl2
    rw[sk] at al2;refine q _ _ (sm.trans (i0 hl2 _)) ⟨l',rfl,hn,_,j3,(al2.same (i0 hl2 _)).den⟩
   ·cases e
 | _=>cases e
theorem a1n {j:Nat}(hr:Room j X.A)(hc:X.calm=true)(hm:X.mg "sorted"=none)(hm2:X.mg "set"=none)(ha:QA X [e] fa)(hv:bootBuiltins "sorted"=some (.builtin "sorted"):=by rfl)(hv2:bootBuiltins "set"=some (.type "set"):=by rfl)(hg:Gl X "sorted":=by rfl)(hg2:Gl X "set":=by rfl)
  (he:starEach [e] X.env=(false,eval e X.env)::starEach [] X.env:=by rfl) (he2:starEach [.Call (.Name "set" p2) [e] [] pos2] X.env=(false,eval (.Call (.Name "set" p2) [e] [] pos2) X.env)::starEach [] X.env:=by rfl):
  QX X (.Call (.Name "sorted" p) [.Call (.Name "set" p2) [e] [] pos2] [] pos) (fCall (k1 gSST) fa):=
 ⟨PE.weak (PE.weak (C8 (a0i hc) hg hm hv (w8 (Z0 (a6g hr) hg2 hm2 hv2 ha.to (by decide) (by decide) he rfl) N2 he2) (by decide) (by decide) he2 rfl) (u:=tCB (rSST X) (tA X fa)) fun σ H Q h=>h) (P0 b08)⟩
theorem o_SST {ks:List (List Int)}(h:ks.length<64)(ne:∀k∈ks,k≠[]):gSST (.lst (ks.map tupI))=some (.o (.lst ((sortK (ddK ks)).map tupI))):=by
 show(tupsOf (ks.map tupI)).bind _=_;rw[Q9];exact if_pos ⟨h,ne⟩
end
theorem P4 {eq:D->D->Option Bool}:∀{l:List D},(∀x∈l,eq x x=some true)->deqL eq l l=some true
 | [],_=>rfl
 | x::l,h=>by
  rw[deqL,h x (.head _),P4 fun y hy=>h y (.tail _ hy)];rfl
theorem a24 {m:Nat}(k:List Int):deq (m+1) (tupI k) (tupI k)=some true:=by rw[a3J];simp
end Z
def rwN:=(".lim .r_nt .b0X .r_fn .a8P .a74 .b0e .a3c .a7o .a8j .nb_f .nb_t .r_dp .b0L .b0R .a93 .b0h .b0H .b0N .b0b .b0w .a2A .it_t .it_l .r_iz .b0n .a8w .a6B .a6Z .nl_v .nl_n .b0Q .a7B .r_rc .b0r .b0P .b0F .b0g .b0E .b0S .r_r1 .b0I .r_lr .b0C .a8n .r_ch .b0U .b0Z .b0B .a5k .a5g .b00 .a4r .a5i .r_c .a6t .a8i .a5v .a7F .a7r .a7m .a4H .a4n .a8e .a98 .a6J .a7q .a6w .a6Y .r_un .b0m .a99 .a0T .a8L .a7w .a65 .a3u .b0M .a7H .b0V .r_or .a4u .a4L .a7T .a7X .r_if .a3q .a3b .a8O .a7D .b0J .a67 .a5e .a5j .a5n .a4W .a7J .b0a .b0t .a4p .a4z .a63 .a43 .a4X .r_k1 .r_k2 .b0u .a8x .a8B .a68 .r_sl .b0D .b0O .b0G .b02 .a7Z .a6F .r_o0 .r_o1 .b0y .a7L .a15 .a1H .b0j .a5o .a45 .a4Z .a3s .r_ifS .a5f .a4y .b0i .a4A .a4I .r_ag .b0T .b0p .a94 .a40 .a8g .a4P .b0x .a66 .a69 .a4v .r_is .b0W .a7e .a8h .b0Y .a8F .a72 .a5w .r_mu .b0q .a92 .a95 .b0A .b0v .b0s .b0o .a3i .o_i0 .o_i .a4D .a5b .a4G .b0c .a8J .a7E .a7Y .a4U .a4K .a1F .o_d2 .a_0 .a_1 .b0K .a97 .a5l .a0P .a5s .a5y .a64 .a8q .a1u .b0l .b0f .a7C .a8U .W.own .start0 .deq .flatE .isD .lf .lfL .frzL zV length_nil zI xN List.replicate yT nil_append List.cons_append yN xW List.set_cons_zero List.set_cons_succ bind_some jZ qW qY zZ Nat.zero_add Nat.reduceAdd Nat.reduceSub xI Nat.add_one_sub_one and_self and_true true_and Bool.and_self Bool.true_and yA Bool.not_false Bool.or_true Bool.true_or xD ite_self decide_true decide_false Nat.reduceLeDiff beq_self_eq_true".splitOn " ")
local macro_rules|`(tactic|walk_at "z r")=>do
 let xs:=(rwN.map fun s=>Lean.mkIdent (if s.startsWith "." then "Z"++s else s).toName).toArray
 `(tactic|simp only[$[$xs:ident],*])
local macro_rules|`(tactic| walk_at "q") => `(tactic| repeat(first|walk_at "z r"))
local macro_rules|`(tactic|walk_at "z i")=>do
 let xs:=((rwN.filter fun s=>![".r_ifS"].contains s).map fun s=>Lean.mkIdent (if s.startsWith "." then "Z"++s else s).toName).toArray
 `(tactic|simp only[$[$xs:ident],*])
set_option maxHeartbeats 1500000
namespace Q10
open PySem L2 Z
abbrev LO:=List D->Option W
abbrev LL:=D->List D->Option (W×D)
local macro_rules|`(tactic| walk_at "c") => `(tactic| exact⟨rfl, rfl, rfl, by decide +kernel, rfl, by decide +kernel, by decide +kernel⟩)
def top (i:Nat):Stmt:=PySem.Challenge.pw_twainhoard_k10_parts_and_without.main.body.getD i (.Pass ⟨0,0,0,0⟩)
section
variable {P:Program}{w:World}{K:PySem.W.Frag}{mg:Str->Option Value}{base:Heap}{f:Addr}{fd:FuncData}{k:Nat}
abbrev Q6 (mg:Str->Option Value) (K:PySem.W.Frag):Prop:=∃t,mg "MOST_PEOPLE"=some (.int 8 t)
abbrev a0b (mg:Str->Option Value) (K:PySem.W.Frag):Prop:=∃t,mg "MOST_GAIN"=some (.int (10^12) t)
abbrev R8:Stmt:=top 7
theorem a0c:FnScope ["thing"] ["thing"] (defScope R8):=by walk_at "c"
def I0 (g:LO):Prop:=∀d:D,isX d=false->g [d]=some (.v (.bl (whole d)))
theorem a3x (g5:mg "isinstance"=none)(m_int:mg "int"=none)(a3W:mg "bool"=none)(F:Fun K "is_whole" "is_whole" R8 f fd)(B:Binds K fd ["thing"] [])(hm:mg "is_whole"=some (.ref f)):∃g,Fn P w K mg base "is_whole" (k+1) g/\I0 g:=by
 have nd:=a0c.nd;refine⟨_,B8 F a0c B hm rfl rfl (fun cdv A outer s H E hr=>(c8 (j1 (X9 (X4 (T:="int") (Y9 (by decide)) g5 m_int (a8 0)) (Y7 (a5r (X4 (T:="bool") (Y9 (by decide)) g5 a3W (a8 0)))))))),?_⟩
 intro d hd;have i1:=b15 hd;have i2:=a9E hd;cases d with
 | exn C=>cases hd
 | _=>repeat(first|walk_at "z r" | simp only[i1,i2,isI,isB,whole])
abbrev a0M:Stmt:=top 8
theorem a1R:FnScope ["thing","count"] ["thing","count"] (defScope a0M):=by walk_at "c"
def a0Q (g:LO):Prop:=∀(xs:List D) (c:Int),g [.tup xs,.int c]=some (.v (.bl (((xs.length:Nat):Int)==c)))
theorem a6p (g5:mg "isinstance"=none)(k8:mg "tuple"=none)(m_len:mg "len"=none)(F:Fun K "is_row" "is_row" a0M f fd)(B:Binds K fd ["thing","count"] [])(hm:mg "is_row"=some (.ref f)):∃g,Fn P w K mg base "is_row" (k+1) g/\a0Q g:=by
 have nd:=a1R.nd;refine⟨_,B8 F a1R B hm rfl rfl (fun cdv A outer s H E hr=>(c8 (j1 (X9 (X4 (T:="tuple") (Y9 (by decide)) g5 k8 (a8 0)) (Y7 (qx_eq hr (qx_b W0 a6Q m_len (a9 (a8 0) c7)) (a8 1))))))),?_⟩
 intro xs c;have it:=a0s (d:=.tup xs) rfl
 repeat(first|walk_at "z r" | simp only[it,isT])
def RiseD (xs:List D):Prop:=∀x∈zipD xs (xs.drop 1),∃a b,x= .tup [a,b]/\oLtT a b=some (.v (.bl true))
theorem a5x {α:Type}{f:α->D}{R:α->α->Prop}(hR:∀a b,R a b->oLtT (f a) (f b)=some (.v (.bl true))):∀{xs:List α},xs.Pairwise R->RiseD (xs.map f)
 | [],_,x,hx=>by cases hx
 | [a],_,x,hx=>by cases hx
 | a::b::r,h,x,hx=>by
  unfold zipD at hx;rw[zI,zI,drop_succ_cons,drop_zero,vD] at hx;rcases zN.mp hx with rfl|hx
  ·exact⟨f a,f b,rfl,hR _ _ ((yP.mp h).1 b zJ)⟩
  ·exact a5x hR (yP.mp h).2 x (by unfold zipD;rw[zI,drop_succ_cons,drop_zero];exact hx)
theorem a5h:∀{xs:List D},lfL xs=true->∀{x:D},x∈xs->lf x=true
 | y::ys,h,x,hx=>by
  rw[lfL,jQ] at h;rcases zN.mp hx with rfl|hx
  ·exact h.1
  ·exact a5h h.2 hx
abbrev N8:Stmt:=top 9
theorem U9:FnScope ["row"] ["row"] (defScope N8):=by walk_at "c"
def Z4 (g:LO):Prop:=∀xs:List D,RiseD xs->xs.length<=100->lfL xs=true->g [.lst xs]=some (.v (.bl true))
theorem a2q (m_all:mg "all"=none)(m_zip:mg "zip"=none)(F:Fun K "is_rising" "is_rising" N8 f fd)(B:Binds K fd ["row"] [])(hm:mg "is_rising"=some (.ref f)):∃g,Fn P w K mg base "is_rising" (k+1) g/\Z4 g:=by
 have nd:=U9.nd;refine⟨_,B8 F U9 B hm rfl rfl (fun cdv A outer s H E hr=>(c8 (j1 (qx_b (Z1 rfl) a0L m_all (a9 (B5 (N:=["one","other"]) (js:=[none,none]) (li:=none) rfl (E5 (by exact(.own (.own .nil))) rfl (by exact trivial) (by rfl)) (Y1 (b1q m_zip (a9 (a8 0) (a9 (G1 (a8 0) (P2 b8) O8) c7)))) (fun _ _ _ _=>(F0 rfl (j4 (g9 0 (show((["one","other"]:List Str)++[accN]).Nodup by decide +kernel)) (j4 (g9 1 (show((["one","other"]:List Str)++[accN]).Nodup by decide +kernel)) B6)))) (fun _ _ _ _=>E2) (fun _ _ _ _=>(a7y hr (a8 0) (a8 1)))) c7))))),?_⟩
 intro xs hs hl hf;have lf1:lfL (xs.drop 1)=true:=V6 fun y hy=>a5h hf (mem_of_mem_drop hy);walk_at "q";rw[v3 (ρ1:=[some (.v (.lst xs))]) (xs:=zipD xs (xs.drop 1)) (fun B=>∃o1 o2:Option D,B=[o1.map .v,o2.map .v]) (fun _=>true) (fun _=>.bl true)]
 ·rw[v5];have gb:=a4b (r:=fun bs=>bs.all id) (L6 (fun _=>true) (zipD xs (xs.drop 1)));rw[S5,show((zipD xs (xs.drop 1)).all fun _=>true)=true by simp] at gb
  repeat(first|walk_at "z r" | simp only[gb])
 ·repeat(first|walk_at "z r" | simp only[a7G,lf1])
 ·rintro _ ⟨_,_,rfl⟩;rfl
 ·exact⟨none,none,rfl⟩
 ·rw[a9A];simp[lim];walk_at "o"
 ·exact a3L _ _
 ·rintro x hx _ zs ⟨o1,o2,rfl⟩;obtain⟨a,b,rfl,lt⟩:=hs x hx;refine⟨[some (.v a),some (.v b)],.v (.bl true),⟨some _,some _,rfl⟩,?_,rfl,fun _=>⟨?_,.inl rfl⟩⟩
  ·walk_at "q"
  ·repeat(first|walk_at "z r" | simp only[lt])
abbrev M9:Stmt:=top 13
theorem V4:FnScope ["thing"] ["thing"] (defScope M9):=by walk_at "c"
def a0d (g:LO):Prop:=∀n:Int,1<=n->n<=8->g [.int n]=some (.v (.bl true))
theorem a2L {p6:LO}(u4:Fn P w K mg base "is_whole" k p6)(t9:I0 p6)(E6:Q6 mg K)(F:Fun K "is_people" "is_people" M9 f fd)(B:Binds K fd ["thing"] [])(hm:mg "is_people"=some (.ref f)):∃g,Fn P w K mg base "is_people" (k+1) g/\a0d g:=by
 have nd:=V4.nd;refine⟨_,B8 F V4 B hm rfl rfl (fun cdv A outer s H E hr=>(c8 (j1 (X9 (l5 u4 hr (a9 (a8 0) c7)) (Y7 (a4N b8 (a8 0) (a2S E6))))))),?_⟩;intro n h1 h8;have w:p6 [.int n]=some (.v (.bl true)):=t9 (.int n) rfl;have d1:decide (1<=n)=true:=zP h1;have d2:decide (n<=8)=true:=zP h8
 repeat(first|walk_at "z r" | simp only[w,d1,d2])
abbrev N4:Stmt:=top 14
theorem T2:FnScope ["people","thing"] ["people","thing"] (defScope N4):=by walk_at "c"
def E1 (g:LO):Prop:=∀(n:Int) (d:D),isX d=false->g [.int n,d]=some (.v (.bl (pers n d)))
theorem a2n {p6:LO}(u4:Fn P w K mg base "is_whole" k p6)(t9:I0 p6)(F:Fun K "is_person" "is_person" N4 f fd)(B:Binds K fd ["people","thing"] [])(hm:mg "is_person"=some (.ref f)):∃g,Fn P w K mg base "is_person" (k+1) g/\E1 g:=by
 have nd:=T2.nd;refine⟨_,B8 F T2 B hm rfl rfl (fun cdv A outer s H E hr=>(c8 (j1 (X9 (l5 u4 hr (a9 (a8 1) c7)) (Y7 (a9e b8 (a8 1) (a8 0))))))),?_⟩;intro n d hd;have w:=t9 d hd;cases d with
 | int i=>
  by_cases h:0<=i
  ·have h':decide (0<=i)=true:=zP h
   repeat(first|walk_at "z r" | simp only[w,whole,h',pers])
  ·have h':decide (0<=i)=false:=zU h
   repeat(first|walk_at "z r" | simp only[w,whole,h',pers])
 | exn C=>cases hd
 | _=>repeat(first|walk_at "z r" | simp only[w,whole,pers])
theorem W1 (n i:Int)(h0:0<=i)(hn:i<n):pers n (.int i)=true:=by
 show(decide (0<=i)&&decide (i<n))=true;rw[zP h0,zP hn];rfl
abbrev L3:Stmt:=top 15
theorem V0:FnScope ["people","thing","one","other","gain"] ["people","thing"] (defScope L3):=by walk_at "c"
def Z6 (g:LO):Prop:=∀(n:Int) (t:Tie),(0<=t.1/\t.1<t.2.1/\t.2.1<n)->1<=t.2.2->t.2.2<=10^12->g [.int n,tieD t]=some (.v (.bl true))
theorem a2J {F6:LO}{p6:LO}{q8:LO}(F7:Fn P w K mg base "is_row" k F6)(G2:a0Q F6)(u4:Fn P w K mg base "is_whole" k p6)(t9:I0 p6)(n8:Fn P w K mg base "is_person" k q8)(n9:E1 q8)(M4:a0b mg K)(F:Fun K "is_triple" "is_triple" L3 f fd)(B:Binds K fd ["people","thing"] [])(hm:mg "is_triple"=some (.ref f)):∃g,Fn P w K mg base "is_triple" (k+1) g/\Z6 g:=by
 have nd:=V0.nd
 refine⟨_,B8 F V0 B hm rfl rfl (fun cdv A outer s H E hr=>(c5 (t4 (A2 (A1 (l5 F7 hr (a9 (a8 1) (a9 b8 c7))))) (c8 (j1 E3)) j5)
  (c5 (R1 (a8 1) (F0 rfl (j4 (g9 2 nd) (j4 (g9 3 nd) (j4 (g9 4 nd) B6)))))
  (c5 (t4 (a0Z (Z7 (A2 (A1 (l5 n8 hr (a9 (a8 0) (a9 (a8 2) c7))))) (Z7 (A2 (A1 (l5 n8 hr (a9 (a8 0) (a9 (a8 3) c7))))) (a0J (C9 hr (a8 2) (a8 3)))))) (c8 (j1 E3)) j5)
  (c8 (j1 (X9 (l5 u4 hr (a9 (a8 4) c7)) (Y7 (a4N b8 (a8 4) (a2S M4)))))))))),?_⟩
 intro n t h g1 g2;have er:=G2 [.int t.1,.int t.2.1,.int t.2.2] 3;rw[show(((([D.int t.1,.int t.2.1,.int t.2.2]:List D).length:Nat):Int)==3)=true from rfl] at er;have w:p6 [.int t.2.2]=some (.v (.bl true)):=t9 (.int t.2.2) rfl;have p1:=n9 n (.int t.1) rfl;have p2:=n9 n (.int t.2.1) rfl;rw[W1 n t.1 h.1 (by walk_at "o")] at p1
 rw[W1 n t.2.1 (by walk_at "o") h.2.2] at p2
 have ne:(t.1==t.2.1)=false:=by simp;walk_at "o"
 have d1:decide (1<=t.2.2)=true:=zP g1;have d2:decide (t.2.2<=10^12)=true:=zP g2;rw[show tieD t= .tup [.int t.1,.int t.2.1,.int t.2.2] from rfl]
 repeat(first|walk_at "z r" | simp only[er,w,p1,p2,ne,d1,d2])
def cut2:D->D
 | .tup [a,b,_]=>.tup [a,b]
 | d=>d
theorem a38 {a b c:D}:cutD [a,b,c] none (some 2)=[a,b]:=rfl
structure WebR (n:Int) (ts:List Tie):Prop where
 ok:WebOk n ts
 g:∀t∈ts,t.2.2<=10^12
 r:(ts.map key2).Pairwise fun a b=>HT.lexLt a b=true
abbrev a0D:Stmt:=top 16
theorem a18:FnScope ["thing","people","ties"] ["thing"] (defScope a0D):=by walk_at "c"
def a3d (g:LO):Prop:=∀(n:Int) (ts:List Tie),WebR n ts->g [webD n ts]=some (.v (.bl true))
theorem a50 {N1:LO}{F6:LO}{M5:LO}{O3:LO}(M1:Fn P w K mg base "is_rising" k N1)(L8:Z4 N1)(F7:Fn P w K mg base "is_row" k F6)(G2:a0Q F6)(M0:Fn P w K mg base "is_people" k M5)(N6:a0d M5)(O5:Fn P w K mg base "is_triple" k O3)(N0:Z6 O3)(m_all:mg "all"=none)(g5:mg "isinstance"=none)(k8:mg "tuple"=none)(F:Fun K "is_web" "is_web" a0D f fd)(B:Binds K fd ["thing"] [])(hm:mg "is_web"=some (.ref f)):∃g,Fn P w K mg base "is_web" (k+1) g/\a3d g:=by
 have nd:=a18.nd
 refine⟨_,B8 F a18 B hm rfl rfl (fun cdv A outer s H E hr=>(c5 (t4 (A2 (A1 (l5 F7 hr (a9 (a8 0) (a9 b8 c7))))) (c8 (j1 E3)) j5)
  (c5 (R1 (a8 0) (F0 rfl (j4 (g9 1 nd) (j4 (g9 2 nd) B6))))
  (c5 (t4 (a0Z (Z7 (A2 (A1 (l5 M0 hr (a9 (a8 1) c7)))) (a0J (A2 (A1 (X4 (T:="tuple") (Y9 (by decide)) g5 k8 (a8 2))))))) (c8 (j1 E3)) j5)
  (c5 (t4 (A2 (A1 (qx_b (Z1 rfl) a0L m_all (a9 (B5 (N:=["tie","people"]) (js:=[none,some 1]) (li:=none) rfl (E5 (by exact(.own (.cap rfl rfl rfl rfl .nil))) rfl (by exact⟨rfl,trivial⟩) (by rfl)) (N5 2) (fun _ _ _ _=>(g9 0 (show((["tie","people"]:List Str)++[accN]).Nodup by decide +kernel))) (fun _ _ _ _=>E2) (fun _ _ _ _=>(X9 (l5 O5 hr (a9 (a8 1) (a9 (a8 0) c7))) (Y7 (a7y hr (k7 hr (a8 0) b8) (k7 hr (a8 0) b8)))))) c7)))) (c8 (j1 E3)) j5)
  (c8 (j1 (l5 M1 hr (a9 (B5 (N:=["tie"]) (js:=[none]) (li:=none) rfl (E5 (by exact(.own .nil)) rfl (by exact trivial) (by rfl)) (N5 2) (fun _ _ _ _=>(g9 0 (show((["tie"]:List Str)++[accN]).Nodup by decide +kernel))) (fun _ _ _ _=>E2) (fun _ _ _ _=>(G1 (a8 0) O8 (P2 b8)))) c7))))))))),?_⟩
 intro n ts hw;have er:=G2 [.int n,.tup (ts.map tieD)] 2;rw[show(((([D.int n,.tup (ts.map tieD)]:List D).length:Nat):Int)==2)=true from rfl] at er;have hn:=hw.ok.n1;have hl:=hw.ok.len;have ep:=N6 n hn.1 hn.2;have it:=a0s (d:=.tup (ts.map tieD)) rfl;have em:(ts.map tieD).map cut2=(ts.map key2).map tupI:=by rw[jA,jA];rfl
 have lk:=U8 (ts.map key2)
 have ri:=L8 ((ts.map key2).map tupI) (a5x (R:=fun a b=>HT.lexLt a b=true) (fun a b h=>by
  show(intsOf (a.map D.int)).bind _=_
  rw[m6,bind_some,m6,jZ,h]) hw.r) (by rw[zH,zH];walk_at "o") lk
 have lt:(ts.map tieD).length<=1000000:=by rw[zH];walk_at "o"
 rw[show webD n ts= .tup [.int n,.tup (ts.map tieD)] from rfl]
 repeat(first|walk_at "z r" | simp only[er,ep,it,isT])
 rw[v3 (ρ1:=[some (.v (.tup [.int n,.tup (ts.map tieD)])),some (.v (.int n)),some (.v (.tup (ts.map tieD)))]) (xs:=ts.map tieD) (fun B=>∃o1:Option D,B=[o1.map .v,some (.v (.int n))]) (fun _=>true) (fun _=>.bl true)]
 ·rw[v5];have gb:=a4b (r:=fun bs=>bs.all id) (L6 (fun _=>true) (ts.map tieD));rw[S5,show((ts.map tieD).all fun _=>true)=true by simp] at gb
  repeat(first|walk_at "z r" | simp only[gb])
  rw[v3 (ρ1:=[some (.v (.tup [.int n,.tup (ts.map tieD)])),some (.v (.int n)),some (.v (.tup (ts.map tieD)))]) (xs:=ts.map tieD) (fun B=>∃o1:Option D,B=[o1.map .v]) (fun _=>true) cut2]
  ·rw[v5,em]
   repeat(first|walk_at "z r" | simp only[ri,lk])
  ·walk_at "q"
  ·rintro _ ⟨_,rfl⟩;rfl
  ·exact⟨none,rfl⟩
  ·unfold lim;exact lt
  ·rw[v5,em];exact lk
  ·rintro x hx _ zs ⟨o1,rfl⟩;obtain⟨t,ht,rfl⟩:=qG.mp hx;refine⟨[some (.v (tieD t))],.v (.tup [.int t.1,.int t.2.1]),⟨some _,rfl⟩,?_,rfl,fun _=>⟨?_,.inl rfl⟩⟩
   ·walk_at "q"
   ·rw[show tieD t= .tup [.int t.1,.int t.2.1,.int t.2.2] from rfl]
    repeat(first|walk_at "z r" | simp only[a38])
 ·walk_at "q"
 ·rintro _ ⟨_,rfl⟩;rfl
 ·exact⟨none,rfl⟩
 ·unfold lim;exact lt
 ·exact a3L _ _
 ·rintro x hx _ zs ⟨o1,rfl⟩;obtain⟨t,ht,rfl⟩:=qG.mp hx;have h:=hw.ok.t t ht;have e:=N0 n t ⟨h.1,h.2.1,h.2.2.1⟩ h.2.2.2.1 (hw.g t ht);have d1:decide (t.1<t.2.1)=true:=zP h.2.1;refine⟨[some (.v (tieD t)),some (.v (.int n))],.v (.bl true),⟨some _,rfl⟩,?_,rfl,fun _=>⟨?_,.inl rfl⟩⟩
  ·walk_at "q"
  ·rw[show tieD t= .tup [.int t.1,.int t.2.1,.int t.2.2] from rfl] at e ⊢
   repeat(first|walk_at "z r" | simp only[e,d1])
structure Mk (n:Nat) (ts:List Tie) (ms:List Int):Prop where
 len:ms.length=n
 le:∀x,x<n->0<=ms.getD x 0/\ms.getD x 0<=(x:Int)
 idem:∀x,x<n->ms.getD (ms.getD x 0).toNat 0=ms.getD x 0
 tie:∀t∈ts,ms.getD t.1.toNat 0=ms.getD t.2.1.toNat 0
 con:∀S:Nat->Prop,(∀t∈ts,(S t.1.toNat↔S t.2.1.toNat))->∀x y,x<n->y<n->ms.getD x 0=ms.getD y 0->(S x↔S y)
theorem Mk.start (n:Nat):Mk n [] (up n):=by
 have g:∀x,x<n->(up n).getD x 0=(x:Int):=fun x hx=>by
  unfold up;rw[qL,qH,getElem?_range hx];simp
 refine⟨a2d n,fun x hx=>by rw[g x hx];walk_at "o",fun x hx=>by rw[g x hx,xM,g x hx],(fun _ h=>by cases h),fun S _ x y hx hy e=>?_⟩
 rw[g x hx,g y hy] at e;rw[show x=y by walk_at "o"]
def reM (k d m:Int):Int:=if m=d then k else m
theorem Mk.next {n:Nat}{ts:List Tie}{ms:List Int}{t:Tie}(h:Mk n ts ms)(ha:t.1.toNat<n)(hb:t.2.1.toNat<n){k d:Int}(hk:k=min (ms.getD t.1.toNat 0) (ms.getD t.2.1.toNat 0))(hd:d=max (ms.getD t.1.toNat 0) (ms.getD t.2.1.toNat 0)):Mk n (ts++[t]) (ms.map (reM k d)):=by
 have g:∀x,x<n->(ms.map (reM k d)).getD x 0=reM k d (ms.getD x 0):=fun x hx=>by
  rw[qL,qL,qH,qT (by rw[h.len];exact hx)];rfl
 have la:=h.le _ ha;have lb:=h.le _ hb;have kd:(k=ms.getD t.1.toNat 0/\d=ms.getD t.2.1.toNat 0)\/(k=ms.getD t.2.1.toNat 0/\d=ms.getD t.1.toNat 0):=by walk_at "o"
 have kk:ms.getD k.toNat 0=k/\k.toNat<n/\0<=k:=by
  rcases kd with ⟨e,_⟩|⟨e,_⟩
  ·rw[e];exact⟨h.idem _ ha,by walk_at "o",la.1⟩
  ·rw[e];exact⟨h.idem _ hb,by walk_at "o",lb.1⟩
 refine⟨by rw[zH];exact h.len,fun x hx=>?_,fun x hx=>?_,fun u hu=>?_,fun S hS x y hx hy e=>?_⟩
 ·rw[g x hx]
  have:=h.le x hx
  unfold reM
  split<;>walk_at "o"
 ·rw[g x hx];have lx:=h.le x hx
  by_cases e:ms.getD x 0=d
  ·have r1:reM k d (ms.getD x 0)=k:=if_pos e;rw[r1,g _ kk.2.1,kk.1];unfold reM
   split<;>rfl
  ·have r1:reM k d (ms.getD x 0)=ms.getD x 0:=if_neg e;rw[r1,g _ (by walk_at "o"),h.idem x hx,r1]
 ·rcases jB.mp hu with z|z
  ·have e:=h.tie u z
   by_cases h1:u.1.toNat<n
   ·by_cases h2:u.2.1.toNat<n
    ·rw[g _ h1,g _ h2,e]
    ·have o:∀l:List Int,l.length=n->l.getD u.2.1.toNat 0=0:=fun l hl=>by rw[qL,jR (by walk_at "o")];rfl
     rw[o ms h.len] at e;rw[g _ h1,o _ (by rw[zH];exact h.len),e]
     unfold reM
     split
     ·have:=kk.2.2;walk_at "o"
     ·rfl
   ·have o:∀l:List Int,l.length=n->l.getD u.1.toNat 0=0:=fun l hl=>by rw[qL,jR (by walk_at "o")];rfl
    rw[o ms h.len] at e
    by_cases h2:u.2.1.toNat<n
    ·rw[g _ h2,o _ (by rw[zH];exact h.len),<-e]
     unfold reM
     split
     ·have:=kk.2.2;walk_at "o"
     ·rfl
    ·have o2:(ms.map (reM k d)).getD u.2.1.toNat 0=0:=by rw[qL,jR (by rw[zH,h.len];walk_at "o")];rfl
     rw[o _ (by rw[zH];exact h.len),o2]
  ·rw[zS.mp z,g _ ha,g _ hb];unfold reM
   split<;>split<;>walk_at "o"
 ·rw[g x hx,g y hy] at e;have hS0:=h.con S fun u hu=>hS u (yR _ hu);have hab:=hS t (qN _ (List.mem_singleton_self _))
  by_cases q:ms.getD x 0=ms.getD y 0
  ·exact hS0 x y hx hy q
  ·have c1:(ms.getD x 0=ms.getD t.1.toNat 0/\ms.getD y 0=ms.getD t.2.1.toNat 0)\/(ms.getD x 0=ms.getD t.2.1.toNat 0/\ms.getD y 0=ms.getD t.1.toNat 0):=by
    unfold reM at e;split at e<;>split at e<;>walk_at "o"
   rcases c1 with ⟨e1,e2⟩|⟨e1,e2⟩
   ·exact((hS0 x _ hx ha e1).trans hab).trans (hS0 y _ hy hb e2).symm
   ·exact((hS0 x _ hx hb e1).trans hab.symm).trans (hS0 y _ hy ha e2).symm
def reH (k d:Int):D->D
 | .int m=>.int (reM k d m)
 | _=>.non
theorem b11 (k d:Int)(ms:List Int):((ms.map D.int).filter fun _=>true).map (reH k d)=(ms.map (reM k d)).map .int:=by
 rw[v5,jA,jA];rfl
def rootsOf (ms:List Int):List Int:=intsN (lm (mAll (ms.map Int.toNat)))
def partOf (n:Nat) (ms:List Int) (r:Int):List Int:=(up n).filter fun x=>ms.getD x.toNat 0==r
theorem Mk.roots {n:Nat}{ts:List Tie}{ms:List Int}(h:Mk n ts ms)(h8:n<=8){r:Int}:r∈rootsOf ms↔0<=r/\r.toNat<n/\ms.getD r.toNat 0=r:=by
 unfold rootsOf intsN;constructor
 ·intro hr;obtain⟨m,hm,rfl⟩:=qG.mp hr;obtain⟨_,hb⟩:=a06.mp hm;rw[a3G,decide_eq_true_eq] at hb;obtain⟨x,hx,e⟩:=qG.mp hb;obtain⟨i,hi,e2⟩:=mem_iff_getElem.mp hx;have hi':i<n:=by rw[<-h.len];exact hi
  have eg:ms.getD i 0=x:=by rw[qL,qT hi,e2];rfl
  have l:=h.le i hi';have id:=h.idem i hi';rw[eg] at l id;refine⟨by walk_at "o",by walk_at "o",?_⟩
  rw[xM,<-e];rw[show((x.toNat:Nat):Int)=x by walk_at "o"]
  exact id
 ·rintro⟨h0,h1,h2⟩;refine qG.mpr ⟨r.toNat,a06.mpr ⟨by walk_at "o",?_⟩,by walk_at "o"⟩
  rw[a3G,decide_eq_true_eq];refine qG.mpr ⟨r,?_,rfl⟩;rw[<-h2,qL,qT (by rw[h.len];exact h1)]
  exact List.getElem_mem _
theorem a14 (ms:List Int):(rootsOf ms).length<=8:=by unfold rootsOf intsN;rw[zH];exact a0W _
def atM (ms:List Int) (r:Int):D->Bool
 | .int x=>ms.getD x.toNat 0==r
 | _=>false
theorem a6s (n:Nat)(ms:List Int)(r:Int):((rngD 0 n).filter (atM ms r)).map id=(partOf n ms r).map .int:=by
 rw[map_id,a4d,List.filter_map];rfl
def partH (n:Nat) (ms:List Int):D->D
 | .int r=>tupI (partOf n ms r)
 | _=>.non
abbrev a2e:Stmt:=top 17
theorem a2Y:FnScope ["web","people","ties","least","one","other","gain","kept","dropped"] ["web"] (defScope a2e):=by walk_at "c"
def a47 (g:LO):Prop:=∀(n:Int) (ts:List Tie),WebOk n ts->∃ms:List Int,Mk n.toNat ts ms/\g [webD n ts]=some (.o (.lst (((rootsOf ms).map fun r=>partOf n.toNat ms r).map tupI)))
theorem a6T (X1:mg "list"=none)(p9:mg "range"=none)(k8:mg "tuple"=none)(m_min:mg "min"=none)(m_max:mg "max"=none)(u5:mg "sorted"=none)(m_set:mg "set"=none)(F:Fun K "parts" "parts" a2e f fd)(B:Binds K fd ["web"] [])(hm:mg "parts"=some (.ref f)):∃g,Fn P w K mg base "parts" (k+1) g/\a47 g:=by
 have nd:=a2Y.nd
 refine⟨_,B8 F a2Y B hm rfl rfl (fun cdv A outer s H E hr=>(c5 (R1 (a8 0) (F0 rfl (j4 (g9 1 nd) (j4 (g9 2 nd) B6))))
  (c5 (k6 3 nd (a8y rfl X1 p9 (a9 (a8 1) c7)))
  (c5 (S7 jF rfl (W8 (a8 2)) (F0 rfl (j4 (g9 4 nd) (j4 (g9 5 nd) (j4 (g9 6 nd) B6)))) (c5 (R1 (z0 (a9 (qx_b (P9 rfl) a2j m_min (a9 (k7 hr (a8 3) (a8 4)) (a9 (k7 hr (a8 3) (a8 5)) c7))) (a9 (qx_b (a1L rfl) a7R m_max (a9 (k7 hr (a8 3) (a8 4)) (a9 (k7 hr (a8 3) (a8 5)) c7))) c7))) (F0 rfl (j4 (g9 7 nd) (j4 (g9 8 nd) B6))))
  (c8 (k6 3 nd (B5 (N:=["mark","kept","dropped"]) (js:=[none,some 7,some 8]) (li:=none) rfl (E5 (by exact(.own (.cap rfl rfl rfl rfl (.cap rfl rfl rfl rfl .nil)))) rfl (by exact⟨rfl,⟨rfl,trivial⟩⟩) (by rfl)) (N5 3) (fun _ _ _ _=>(g9 0 (show((["mark","kept","dropped"]:List Str)++[accN]).Nodup by decide +kernel))) (fun _ _ _ _=>E2) (fun _ _ _ _=>(qx_if (C9 hr (a8 0) (a8 2)) (a8 1) (a8 0))))))))
  (c8 (j1 (a8N (N:=["mark","people","least"]) (js:=[none,some 1,some 3]) (li:=none) rfl (a9u (by exact(.own (.cap rfl rfl rfl rfl (.cap rfl rfl rfl rfl .nil)))) rfl (by exact⟨rfl,⟨rfl,trivial⟩⟩) (by rfl) (by rfl)) (Y1 (W8 (a1i rfl u5 m_set (a9 (a8 3) c7)))) (fun _ _ _ _=>(g9 0 (show((["mark","people","least"]:List Str)++[accN]).Nodup by decide +kernel))) (fun _ _ _ _=>E2) (fun _ _ _ _=>(qx_t w4 K4 k8 (a9 (B5 (N:=["who","mark","least"]) (js:=[none,some 0,some 2]) (li:=none) rfl (E5 (by exact(.own (.cap rfl rfl rfl rfl (.cap rfl rfl rfl rfl .nil)))) rfl (by exact⟨rfl,⟨rfl,trivial⟩⟩) (by rfl)) (Y1 (a11 p9 (a9 (a8 1) c7))) (fun _ _ _ _=>(g9 0 (show((["who","mark","least"]:List Str)++[accN]).Nodup by decide +kernel))) (fun _ _ _ _=>(a2k rfl (C9 hr (k7 hr (a8 2) (a8 0)) (a8 1)))) (fun _ _ _ _=>(a8 0))) c7)))))))))),?_⟩
 intro n ts hw;have hn:=hw.n1;have hlen:=hw.len;have r1:(0<=n/\n<=1000):=by walk_at "o"
 have r2:(-(2^62:Int)<=n/\n<2^62):=by walk_at "o"
 have ru:rngD 0 n.toNat=(up n.toNat).map .int:=a4d _;have lu:=l0 (up n.toNat);unfold webD
 repeat(first|walk_at "z r" | simp only[r1,ru,lu])
 generalize el:loopF _ _ _=r;refine U3 el (fun i ρ=>∃(ms:List Int) (o4 o5 o6 o7 o8:Option D),ρ=[some (.v (.tup [.int n,.tup (ts.map tieD)])),some (.v (.int n)),some (.v (.tup (ts.map tieD))),some (.o (.lst (ms.map .int))),o4.map .v,o5.map .v,o6.map .v,o7.map .v,o8.map .v]/\Mk n.toNat (ts.take i) ms) ⟨up n.toNat,none,none,none,none,none,rfl,Mk.start _⟩ ?_ ?_
 ·rintro i x _ hx ⟨ms,o4,o5,o6,o7,o8,rfl,hm⟩;rw[qH] at hx;cases hi:ts[i]? with
  | none=>rw[hi] at hx;cases hx
  | some t=>
   rw[hi] at hx;cases hx;have ht:=hw.t t (qQ hi);have eT:ts.take (i+1)=ts.take i++[t]:=by rw[List.take_add_one,hi];rfl
   have ml:=hm.len;have xa:=Q1 (ns:=ms) (i:=t.1) ht.1 (by walk_at "o")
   have xb:=Q1 (ns:=ms) (i:=t.2.1) (by walk_at "o") (by walk_at "o")
   have lm':=l0 ms;obtain⟨k,ek,hk⟩:∃k,(if ms.getD t.2.1.toNat 0<ms.getD t.1.toNat 0 then ms.getD t.2.1.toNat 0 else ms.getD t.1.toNat 0)=k/\k=min (ms.getD t.1.toNat 0) (ms.getD t.2.1.toNat 0):=⟨_,rfl,by split<;>walk_at "o"⟩
   obtain⟨d,ed,hd⟩:∃d,(if ms.getD t.2.1.toNat 0>ms.getD t.1.toNat 0 then ms.getD t.2.1.toNat 0 else ms.getD t.1.toNat 0)=d/\d=max (ms.getD t.1.toNat 0) (ms.getD t.2.1.toNat 0):=⟨_,rfl,by split<;>walk_at "o"⟩
   have rm:=b11 k d ms;refine⟨_,?_,ms.map (reM k d),some (.int t.1),some (.int t.2.1),some (.int t.2.2),some (.int k),some (.int d),rfl,by rw[eT];exact hm.next (by walk_at "o") (by walk_at "o") hk hd⟩
   rw[show tieD t= .tup [.int t.1,.int t.2.1,.int t.2.2] from rfl]
   repeat(first|walk_at "z r" | simp only[xa,xb,ek,ed,lm'])
   rw[v3 (ρ1:=[some (.v (.tup [.int n,.tup (ts.map tieD)])),some (.v (.int n)),some (.v (.tup (ts.map tieD))),some (.o (.lst (ms.map .int))),some (.v (.int t.1)),some (.v (.int t.2.1)),some (.v (.int t.2.2)),some (.v (.int k)),some (.v (.int d))]) (xs:=ms.map .int) (fun B=>∃o1:Option D,B=[o1.map .v,some (.v (.int k)),some (.v (.int d))]) (fun _=>true) (reH k d)]
   ·rw[rm];have l2:=l0 (ms.map (reM k d))
    repeat(first|walk_at "z r" | simp only[l2])
    try rfl
   ·repeat(first|walk_at "z r" | simp only[lm'])
   ·rintro _ ⟨_,rfl⟩;rfl
   ·exact⟨none,rfl⟩
   ·rw[zH];unfold lim;walk_at "o"
   ·rw[rm];exact l0 _
   ·rintro x hx _ zs ⟨o1,rfl⟩;obtain⟨m,_,rfl⟩:=a3a hx;refine⟨[some (.v (.int m)),some (.v (.int k)),some (.v (.int d))],.v (.int (reM k d m)),⟨some _,rfl⟩,?_,rfl,fun _=>⟨?_,.inl rfl⟩⟩
    ·walk_at "q"
    ·by_cases e:m=d
     ·have z:(m==d)=true:=by simpa using e
      rw[show reM k d m=k from if_pos e]
      repeat(first|walk_at "z r" | simp only[z])
     ·have z:(m==d)=false:=by simpa using e
      rw[show reM k d m=m from if_neg e]
      repeat(first|walk_at "z r" | simp only[z])
 ·rintro _ rfl ⟨ms,o4,o5,o6,o7,o8,rfl,hm⟩;rw[zH,take_length] at hm;refine⟨ms,hm,?_⟩;have ml:=hm.len;have lm':=l0 ms;have r8:∀x∈ms,0<=x/\x<8:=fun x hx=>by
   obtain⟨i,hi,e⟩:=mem_iff_getElem.mp hx
   have:=hm.le i (by walk_at "o")
   rw[qL,qT hi,e] at this;have h:0<=x/\x<=(i:Int):=this;walk_at "o"
  have sl:gSL (.lst (ms.map .int))=some (.o (.lst ((rootsOf ms).map .int))):=by
   unfold gSL;dsimp only;rw[m6,bind_some,if_pos r8];rfl
  have rl:=a14 ms;have lr:=l0 (rootsOf ms);have pm:(((rootsOf ms).map D.int).filter fun _=>true).map (partH n.toNat ms)=((rootsOf ms).map fun r=>partOf n.toNat ms r).map tupI:=by
   rw[v5,jA,jA];rfl
  have lp:lfL (((rootsOf ms).map fun r=>partOf n.toNat ms r).map tupI)=true:=V6 fun x hx=>by
   obtain⟨k,_,rfl⟩:=qG.mp hx;exact l0 k
  repeat(first|walk_at "z r" | simp only[lm',sl,lr])
  rw[v3 (ρ1:=[some (.v (.tup [.int n,.tup (ts.map tieD)])),some (.v (.int n)),some (.v (.tup (ts.map tieD))),some (.o (.lst (ms.map .int))),o4.map .v,o5.map .v,o6.map .v,o7.map .v,o8.map .v]) (xs:=(rootsOf ms).map .int) (fun B=>∃o1:Option D,B=[o1.map .v,some (.v (.int n)),some (.v (.lst (ms.map .int)))]) (fun _=>true) (partH n.toNat ms)]
  ·rw[pm]
   repeat(first|walk_at "z r" | simp only[lp])
   try rfl
  ·repeat(first|walk_at "z r" | simp only[lm',sl,lr])
  ·rintro _ ⟨_,rfl⟩;rfl
  ·exact⟨none,rfl⟩
  ·rw[zH];unfold lim;walk_at "o"
  ·rw[pm];exact lp
  ·rintro x hx _ zs ⟨o1,rfl⟩;obtain⟨r,_,rfl⟩:=a3a hx;have qm:=a6s n.toNat ms r;have lq:=l0 (partOf n.toNat ms r);refine⟨[some (.v (.int r)),some (.v (.int n)),some (.v (.lst (ms.map .int)))],.v (tupI (partOf n.toNat ms r)),⟨some _,rfl⟩,?_,rfl,fun _=>⟨?_,.inl rfl⟩⟩
   ·walk_at "q"
   ·walk_at "q";rw[v3 (ρ1:=[some (.v (.int r)),some (.v (.int n)),some (.v (.lst (ms.map .int)))]++acc zs) (xs:=rngD 0 n.toNat) (fun B=>∃o1:Option D,B=[o1.map .v,some (.v (.int r)),some (.v (.lst (ms.map .int)))]) (atM ms r) id]
    ·rw[qm]
     repeat(first|walk_at "z r" | simp only[lq])
     try rfl
    ·repeat(first|walk_at "z r" | simp only[r2])
    ·rintro _ ⟨_,rfl⟩;rfl
    ·exact⟨none,rfl⟩
    ·rw[T6];unfold lim;walk_at "o"
    ·rw[qm];exact lq
    ·rintro y hy _ zs' ⟨o1,rfl⟩;obtain⟨w,rfl,hw0,hw1⟩:=a2D hy;have xw:=Q1 (ns:=ms) (i:=w) hw0 (by walk_at "o")
     refine⟨[some (.v (.int w)),some (.v (.int r)),some (.v (.lst (ms.map .int)))],.v (.int w),⟨some _,rfl⟩,?_,?_,fun _=>⟨?_,.inl rfl⟩⟩
     ·walk_at "q"
     ·rw[show atM ms r (.int w)=(ms.getD w.toNat 0==r) from rfl]
      repeat(first|walk_at "z r" | simp only[xw])
     ·walk_at "q"
abbrev J7:Stmt:=top 20
theorem Q4:FnScope ["cell","k","number"] ["cell","k"] (defScope J7):=by walk_at "c"
def T7 (g:LO):Prop:=∀c k:Int,0<=k->k<=1000->∃i:Int,g [.int c,.int k]=some (.v (.int i))
theorem a1f (F:Fun K "_law_mixed" "_law_mixed" J7 f fd)(B:Binds K fd ["cell","k"] [])(hm:mg "_law_mixed"=some (.ref f)):∃g,Fn P w K mg base "_law_mixed" (k+1) g/\T7 g:=by
 have nd:=Q4.nd
 refine⟨_,B8 F Q4 B hm rfl rfl (fun cdv A outer s H E hr=>(c5 (k6 2 nd (j8 (A8 (n6 (n6 (j8 (a8 0) b8) (A8 b8 (a8 1))) b8) b8) b8))
  (c5 (k6 2 nd (j8 (n6 (j8 (A8 (a8 2) (a8 2)) b8) (A8 b8 (a8 1))) b8))
  (c8 (j1 (j8 (A8 (a8 2) b8) b8)))))),?_⟩
 intro c k h0 h1;have p0:∀a:Int,mOk a 48271:=fun a=>.inr (.inl (by decide))
 have p1:∀a:Int,mOk a 39373:=fun a=>.inr (.inl (by decide))
 have p2:∀a:Int,mOk 7919 a:=fun a=>.inl (by decide)
 have p4:∀a:Int,mOk 104729 a:=fun a=>.inl (by decide)
 have p3:∀a:Int,mOk (a%2147483647) (a%2147483647):=fun a=>.inl (by
  have:=xY a (b:=2147483647) (by decide)
  have:=xF a (b:=2147483647) (by decide)
  walk_at "o")
 have d1:(0:Int)<2147483629:=by decide
 have d2:(0:Int)<2147483647:=by decide
 refine⟨?_,?_⟩
 rotate_left
 ·repeat(first|walk_at "z r" | simp only[p0,p1,p2,p3,p4,d1,d2])
  rfl
structure Nums (m:Nat) (ns:List Int):Prop where
 len:ns.length=m
 rg:∀n∈ns,0<=n/\n<100000000000000000000
abbrev C7:Stmt:=top 21
theorem K2:FnScope ["cell","many","base","found","left","k","number","turns"] ["cell","many","base"] (defScope C7):=by walk_at "c"
def L0 (g:LO):Prop:=∀c m:Int,0<=m->m<=80->∃ns:List Int,Nums m.toNat ns/\g [.int c,.int m,.int 100000000000000000000]=some (.o (.lst (ns.map .int)))
theorem a0h {J1:LO}(J6:Fn P w K mg base "_law_mixed" k J1)(G8:T7 J1)(p9:mg "range"=none)(F:Fun K "_law_numbers" "_law_numbers" C7 f fd)(B:Binds K fd ["cell","many","base"] [])(hm:mg "_law_numbers"=some (.ref f)):∃g,Fn P w K mg base "_law_numbers" (k+1) g/\L0 g:=by
 have nd:=K2.nd
 refine⟨_,B8 F K2 B hm rfl rfl (fun cdv A outer s H E hr=>(c5 (k6 3 nd (W5 c7))
  (c5 (k6 4 nd (a4k (a8 0) (a2c b8 b8)))
  (c5 (S7 jF rfl (a11 p9 (a9 (a8 1) c7)) (g9 5 nd) (c5 (k6 6 nd (a8 4))
  (c5 (t4 (qt_gt (a8 4) b8) (c8 (k6 4 nd (S6 (a8 4) (a8 2)))) (c5 (k6 6 nd b8)
  (c5 (k6 7 nd b8)
  (c8 (a6X jF (b1H hr (A8 (a8 7) b8) (n6 (a9T (a8 2)) b8)) (c5 (k6 6 nd (n6 (A8 (a8 6) b8) (l5 J6 hr (a9 (a8 0) (a9 (n6 (A8 b8 (a8 5)) (a8 7)) c7)))))
  (c8 (k6 7 nd (n6 (a8 7) b8)))))))))
  (c8 (a0l (O7 (a8 3) (a9 (j8 (a8 6) (a8 2)) c7)))))))
  (c8 (j1 (a8 3))))))),?_⟩
 intro c m h0 h1;have pw:CPow 10 18:=by decide
 have e18:(10:Int)^(18:Int).toNat=1000000000000000000:=by decide +kernel
 have rm:(-(2^62:Int)<=m/\m<2^62):=by walk_at "o"
 have dB:dOk 100000000000000000000:=⟨by decide,zF (by decide +kernel:Int.natAbs 100000000000000000000<2^67) (jK (by decide) (by decide))⟩
 have zB:(0:Int)<100000000000000000000:=by decide
 have bB:Builtin.Int.intBits 100000000000000000000=67:=by decide +kernel
 repeat(first|walk_at "z r" | simp only[pw,e18,rm])
 generalize el:loopF _ _ _=r;refine U3 el (fun i ρ=>∃(ns:List Int) (left:Int) (o5 o6 o7:Option D),ρ=[some (.v (.int c)),some (.v (.int m)),some (.v (.int 100000000000000000000)),some (.o (.lst (ns.map .int))),some (.v (.int left)),o5.map .v,o6.map .v,o7.map .v]/\Nums i ns/\i<=80) ⟨[],_,none,none,none,rfl,⟨rfl,fun _ h=>(nomatch h)⟩,jG _⟩ ?_ ?_
 ·rintro i x _ hx ⟨ns,left,o5,o6,o7,rfl,hn,hi⟩;obtain⟨rfl,hi⟩:=a3Q hx
  have add:∀y:Int,Nums (i+1) (ns++[y%100000000000000000000]):=fun y=>⟨by rw[qK,hn.len];rfl,fun n h=>by
   rcases jB.mp h with h|h
   ·exact hn.rg n h
   ·rw[zS.mp h];exact⟨xY _ (by decide),xF _ (by decide)⟩⟩
  have ll:=l0 ns;have lk:ns.length<1000000:=by have:=hn.len;walk_at "o"
  have m3:∀a:Int,mOk a 2147483647:=fun a=>.inr (.inl (by decide))
  have m4:∀a:Int,mOk 8 a:=fun a=>.inl (by decide)
  have m5:∀a:Int,mOk a 30:=fun a=>.inr (.inl (by decide))
  by_cases hl:left>0
  ·have hl':decide (left>0)=true:=zP hl;refine⟨_,?_,ns++[left%100000000000000000000],left/100000000000000000000,some (.int (0+(i:Int))),some (.int left),o7,rfl,add _,by walk_at "o"⟩
   repeat(first|walk_at "z r" | simp only[hl',dB,zB,ll,lk,zH,yD])
   try rfl
  ·have hl':decide (left>0)=false:=zU hl
   repeat(first|walk_at "z i" | simp only[hl'])
   repeat(first|walk_at "z r" | simp only[hl'])
   generalize ew:whileV _ _ _=rw;refine a4f ew (fun ρ=>∃(num tu:Int),ρ=[some (.v (.int c)),some (.v (.int m)),some (.v (.int 100000000000000000000)),some (.o (.lst (ns.map .int))),some (.v (.int left)),some (.v (.int (0+(i:Int)))),some (.v (.int num)),some (.v (.int tu))]/\0<=tu/\tu<=3)
    (fun ρ=>∃(num tu:Int),ρ=[some (.v (.int c)),some (.v (.int m)),some (.v (.int 100000000000000000000)),some (.o (.lst (ns.map .int))),some (.v (.int left)),some (.v (.int (0+(i:Int)))),some (.v (.int num)),some (.v (.int tu))])
    (fun ρ=>match ρ with
     | [_,_,_,_,_,_,_,some (.v (.int tu))]=>(3-tu).toNat
     | _=>0) ⟨0,0,rfl,by decide,by decide⟩ ?_ ?_
   ·rintro _ ⟨num,tu,rfl,t0,t3⟩
    by_cases ht:tu=3
    ·subst ht;refine .inl ⟨_,?_,num,3,rfl⟩
     repeat(first|walk_at "z r" | simp only[a2A,bB,m5])
     rfl
    ·obtain⟨j,ej⟩:=G8 c (8*(0+(i:Int))+tu) (by walk_at "o") (by walk_at "o")
     have lt:decide (tu*30<((67:Nat):Int)+8)=true:=zP (by walk_at "o")
     refine .inr ⟨[some (.v (.int c)),some (.v (.int m)),some (.v (.int 100000000000000000000)),some (.o (.lst (ns.map .int))),some (.v (.int left)),some (.v (.int (0+(i:Int)))),some (.v (.int num)),some (.v (.int tu))],_,?_,?_,⟨num*2147483647+j,tu+1,rfl,by walk_at "o",by walk_at "o"⟩,?_⟩
     ·repeat(first|walk_at "z r" | simp only[a2A,bB,m5,lt])
     ·repeat(first|walk_at "z r" | simp only[m3,m4,ej])
     ·show(3-(tu+1)).toNat<(3-tu).toNat;walk_at "o"
   ·rintro _ rfl ⟨num,tu,rfl⟩;refine⟨_,?_,ns++[num%100000000000000000000],left,some (.int (0+(i:Int))),some (.int num),some (.int tu),rfl,add _,by walk_at "o"⟩
    repeat(first|walk_at "z r" | simp only[zB,dB,ll,lk,zH,yD])
    try rfl
 ·rintro _ rfl ⟨ns,left,o5,o6,o7,rfl,hn,_⟩;rw[T6] at hn;refine⟨ns,hn,?_⟩;have ll:=l0 ns
  repeat(first|walk_at "z r" | simp only[ll])
  try rfl
theorem a8H {ks:List (List Int)}{x:D}(h:x∈ks.map tupI):∃k∈ks,x=tupI k:=by obtain⟨k,hk,rfl⟩:=qG.mp h;exact⟨k,hk,rfl⟩
def TkOk (n:Int) (ts:List Tie):Prop:=(∀t∈ts,0<=t.1/\t.1<t.2.1/\t.2.1<n/\1<=t.2.2/\t.2.2<=10^12)/\(ts.map fun t=>(t.1,t.2.1)).Nodup
theorem a3j {α β γ δ:Type}(f:β->γ->δ)(g:α->β)(h:α->γ):∀l:List α,List.zipWith f (l.map g) (l.map h)=l.map fun x=>f (g x) (h x)
 | []=>rfl
 | x::l=>by rw[zI,zI,vD,a3j f g h l,zI]
theorem b1T {n:Int}{ts:List Tie}{a b g:Int}(h:TkOk n ts)(ha:0<=a/\a<b/\b<n/\1<=g/\g<=10^12):∃ts',TkOk n ts'/\ts'.length<=ts.length+1/\putKs (ts.map tkK) [Sum.inl a,Sum.inl b]=ts'.map tkK/\putX (ts.map tkK) (ts.map fun t=>D.int t.2.2) [Sum.inl a,Sum.inl b] (.int g)=ts'.map fun t=>D.int t.2.2:=by
 by_cases hm:[Sum.inl a,Sum.inl b]∈ts.map tkK
 ·refine⟨ts.map fun t=>if tkK t=[Sum.inl a,Sum.inl b] then(t.1,t.2.1,g) else t,⟨fun t ht=>?_,?_⟩,by rw[zH];walk_at "o",?_,?_⟩
  ·obtain⟨t,ht',rfl⟩:=qG.mp ht
   have:=h.1 t ht'
   split
   ·exact⟨this.1,this.2.1,this.2.2.1,ha.2.2.2⟩
   ·exact this
  ·rw[jA];rw[show((fun t:Tie=>(t.1,t.2.1))∘fun t=>if tkK t=[Sum.inl a,Sum.inl b] then(t.1,t.2.1,g) else t)=fun t=>(t.1,t.2.1) from funext fun t=>by dsimp only[Function.comp];split<;>rfl]
   exact h.2
  ·unfold putKs;rw[if_pos hm,jA];refine xE fun t _=>?_;dsimp only[Function.comp]
   split<;>rfl
  ·unfold putX;rw[if_pos hm,a3j,jA];refine xE fun t _=>?_;dsimp only[Function.comp]
   split<;>rfl
 ·obtain⟨q1,q2⟩:=a9p (kl:=ts.map tkK) (xs:=ts.map fun t=>D.int t.2.2) (d:=.int g) hm;refine⟨ts++[(a,b,g)],⟨fun t ht=>?_,?_⟩,by rw[qK,length_singleton];walk_at "o",by rw[q1,yD];rfl,by rw[q2,yD];rfl⟩
  ·rcases jB.mp ht with ht|ht
   ·exact h.1 t ht
   ·rw[zS.mp ht];exact ha
  ·rw[yD,nodup_append];refine⟨h.2,by simp,fun x hx y hy e=>?_⟩
   rw[zI,xN,zS] at hy;subst hy;obtain⟨t,ht,rfl⟩:=qG.mp hx;have e1:t.1=a:=congrArg Prod.fst e;have e2:t.2.1=b:=congrArg Prod.snd e;refine hm (qG.mpr ⟨t,ht,?_⟩);unfold tkK;rw[e1,e2]
def gT (ts:List Tie):D:=.dT (ts.map tkK) (ts.map fun t=>D.int t.2.2)
theorem b1p (ts:List Tie):ts.map tkK=(ts.map key2).map fun k=>k.map Sum.inl:=by rw[jA];rfl
theorem a9Z {ts:List Tie}(hl:ts.length<64):gSort (gT ts)=some (.o (.lst ((sortK (ts.map key2)).map tupI))):=by
 show gSortT (gT ts)=_;have e:keysOf (gT ts)=some (ts.map key2):=by
  show inlKs (ts.map tkK)=_;rw[b1p,a1I]
 unfold gSortT;rw[e];exact if_pos ⟨by rw[zH];exact hl,fun k hk=>by obtain⟨t,_,rfl⟩:=qG.mp hk;exact nofun⟩
def tieH (ts:List Tie):D->D
 | .tup ds=>match intsOf ds with
  | some k=>tieD (tieOf ts k)
  | none=>.non
 | _=>.non
theorem a3n (ts:List Tie)(k:List Int):tieH ts (tupI k)=tieD (tieOf ts k):=by unfold tieH tupI;simp only[m6]
theorem a2Z (ts:List Tie):(((sortK (ts.map key2)).map tupI).filter fun _=>true).map (tieH ts)=(resort ts).map tieD:=by
 rw[v5,jA];unfold resort;rw[jA];apply xE;intro k _;exact a3n ts k
theorem a4l {ts:List Tie}(nd:(ts.map key2).Nodup):(resort ts).map key2=sortK (ts.map key2):=by
 unfold resort;rw[jA]
 conv=>rhs;rw[<-map_id (sortK (ts.map key2))]
 refine xE fun k hk=>?_;obtain⟨t,ht,rfl⟩:=qG.mp ((p5 _).mem_iff.mp hk);show key2 (tieOf ts (key2 t))=key2 t;rfl
theorem a79 {ts:List Tie}(nd:(ts.map key2).Nodup):((resort ts).map key2).Pairwise fun a b=>HT.lexLt a b=true:=by
 rw[a4l nd];have h:=t6 (ts.map key2);have h2:=List.pairwise_and_iff.mpr ⟨h,(p5 _).nodup_iff.mpr nd⟩;refine h2.imp fun{a b} ⟨h1,h3⟩=>?_;cases e:HT.lexLt a b with
 | true=>rfl
 | false=>exact absurd (a0q a b e h1) h3
abbrev E8:Stmt:=top 22
theorem K6:FnScope ["people","kind","one","other"] ["people","kind","one","other"] (defScope E8):=by walk_at "c"
def Q5 (g:LO):Prop:=∀n k a b:Int,1<=n->n<=8->∃x y:Int,(0<=x/\x<n/\0<=y/\y<n)/\g [.int n,.int k,.int a,.int b]=some (.v (.tup [.int x,.int y]))
theorem a0F (m_min:mg "min"=none)(F:Fun K "_law_two_of" "_law_two_of" E8 f fd)(B:Binds K fd ["people","kind","one","other"] [])(hm:mg "_law_two_of"=some (.ref f)):∃g,Fn P w K mg base "_law_two_of" (k+1) g/\Q5 g:=by
 have nd:=K6.nd
 refine⟨_,B8 F K6 B hm rfl rfl (fun cdv A outer s H E hr=>(c5 (t4 (C9 hr (a8 1) b8) (c8 (j1 (z0 (a9 (j8 (a8 2) (a8 0)) (a9 (j8 (a8 3) (a8 0)) c7))))) j5)
  (c5 (t4 (C9 hr (a8 1) b8) (c8 (j1 (z0 (a9 (j8 (a8 2) (a8 0)) (a9 (j8 (n6 (a8 2) b8) (a8 0)) c7))))) j5)
  (c5 (t4 (C9 hr (a8 1) b8) (c8 (j1 (z0 (a9 b8 (a9 (j8 (a8 3) (a8 0)) c7))))) j5)
  (c5 (t4 (C9 hr (a8 1) b8) (c8 (j1 (z0 (a9 (j8 (a8 2) (a8 0)) (a9 (j8 (n6 (n6 (a8 2) b8) (A8 b8 (j8 (a8 3) b8))) (a8 0)) c7))))) j5)
  (c5 (t4 (C9 hr (a8 1) b8) (c8 (j1 (z0 (a9 (j8 (a8 2) (qx_b (P9 rfl) a2j m_min (a9 (a8 0) (a9 b8 c7)))) (a9 (j8 (a8 3) (qx_b (P9 rfl) a2j m_min (a9 (a8 0) (a9 b8 c7)))) c7))))) j5)
  (c8 (j1 (z0 (a9 (j8 (a8 2) (a8 0)) (a9 (j8 (n6 (a8 2) (A8 b8 (j8 (a8 3) (a8 0)))) (a8 0)) c7))))))))))),?_⟩
 intro n k a b h1 h8;have z:(0:Int)<n:=by walk_at "o"
 have z4:(0:Int)<4:=by decide
 have m2:∀a:Int,mOk 2 a:=fun a=>.inl (by decide)
 have md:∀x:Int,0<=x%n/\x%n<n:=fun x=>⟨xY _ (by walk_at "o"),xF _ z⟩
 obtain⟨m,em,hm⟩:∃m:Int,(if(3:Int)<n then(3:Int) else n)=m/\0<m/\m<=n:=⟨_,rfl,by split<;>walk_at "o",by split<;>walk_at "o"⟩
 have mm:∀x:Int,0<=x%m/\x%m<n:=fun x=>⟨xY _ (by walk_at "o"),Int.lt_of_lt_of_le (xF _ hm.1) hm.2⟩
 have zm:(0:Int)<m:=hm.1
 by_cases k0:k=0
 ·subst k0;refine⟨a%n,b%n,⟨(md a).1,(md a).2,(md b).1,(md b).2⟩,?_⟩
  repeat(first|walk_at "z r" | simp only[z])
 have k0':(k==0)=false:=by simpa using k0
 by_cases k1:k=1
 ·subst k1;refine⟨a%n,(a+1)%n,⟨(md a).1,(md a).2,(md _).1,(md _).2⟩,?_⟩
  repeat(first|walk_at "z r" | simp only[k0',z])
 have k1':(k==1)=false:=by simpa using k1
 by_cases k2:k=2
 ·subst k2;refine⟨0,b%n,⟨by decide,z,(md _).1,(md _).2⟩,?_⟩
  repeat(first|walk_at "z r" | simp only[k0',k1',z])
 have k2':(k==2)=false:=by simpa using k2
 by_cases k3:k=3
 ·subst k3;refine⟨a%n,(a+1+2*(b%4))%n,⟨(md a).1,(md a).2,(md _).1,(md _).2⟩,?_⟩
  repeat(first|walk_at "z r" | simp only[k0',k1',k2',z,z4,m2])
 have k3':(k==3)=false:=by simpa using k3
 by_cases k4:k=4
 ·subst k4;refine⟨a%m,b%m,⟨(mm a).1,(mm a).2,(mm b).1,(mm b).2⟩,?_⟩
  repeat(first|walk_at "z r" | simp only[k0',k1',k2',k3',z,em,zm])
 have k4':(k==4)=false:=by simpa using k4
 refine⟨a%n,(a+2*(b%n))%n,⟨(md a).1,(md a).2,(md _).1,(md _).2⟩,?_⟩
 repeat(first|walk_at "z r" | simp only[k0',k1',k2',k3',k4',z,m2])
abbrev N9:Stmt:=top 23
theorem V3:FnScope ["way","number"] ["way","number"] (defScope N9):=by walk_at "c"
def Z5 (g:LO):Prop:=∀w n:Int,∃i:Int,(1<=i/\i<=10^12)/\g [.int w,.int n]=some (.v (.int i))
theorem a2O (F:Fun K "_law_gain" "_law_gain" N9 f fd)(B:Binds K fd ["way","number"] [])(hm:mg "_law_gain"=some (.ref f)):∃g,Fn P w K mg base "_law_gain" (k+1) g/\Z5 g:=by
 have nd:=V3.nd
 refine⟨_,B8 F V3 B hm rfl rfl (fun cdv A outer s H E hr=>(c5 (t4 (C9 hr (a8 0) b8) (c8 (j1 b8)) j5)
  (c5 (t4 (C9 hr (a8 0) b8) (c8 (j1 (n6 b8 (j8 (a8 1) b8)))) j5)
  (c5 (t4 (C9 hr (a8 0) b8) (c8 (j1 (n6 b8 (j8 (a8 1) b8)))) j5)
  (c5 (t4 (C9 hr (a8 0) b8) (c8 (j1 (a2c b8 b8))) j5)
  (c8 (j1 (n6 b8 (j8 (a8 1) (a2c b8 b8)))))))))),?_⟩
 intro w n;have z4:(0:Int)<4:=by decide
 have z3:(0:Int)<3:=by decide
 have pw:CPow 10 12:=by decide
 have e12:(10:Int)^(12:Int).toNat=1000000000000:=by decide +kernel
 have z12:(0:Int)<1000000000000:=by decide
 by_cases k0:w=0
 ·subst k0;refine⟨7,by walk_at "o",?_⟩
  walk_at "q"
 have k0':(w==0)=false:=by simpa using k0
 by_cases k1:w=1
 ·subst k1;refine⟨1+n%4,by walk_at "o",?_⟩
  repeat(first|walk_at "z r" | simp only[k0',z4])
 have k1':(w==1)=false:=by simpa using k1
 by_cases k2:w=2
 ·subst k2;refine⟨999+n%3,by walk_at "o",?_⟩
  repeat(first|walk_at "z r" | simp only[k0',k1',z3])
 have k2':(w==2)=false:=by simpa using k2
 by_cases k3:w=3
 ·subst k3;refine⟨1000000000000,by walk_at "o",?_⟩
  repeat(first|walk_at "z r" | simp only[k0',k1',k2',pw,e12])
 have k3':(w==3)=false:=by simpa using k3
 refine⟨1+n%1000000000000,by walk_at "o",?_⟩
 repeat(first|walk_at "z r" | simp only[k0',k1',k2',k3',pw,e12,z12])
abbrev S9:Stmt:=top 24
theorem Z9:FnScope ["numbers","people","kind","many","gains","k","one","other"] ["numbers"] (defScope S9):=by walk_at "c"
def a0N (g:LO):Prop:=∀ns:List Int,59<=ns.length->ns.length<=100->(∀n∈ns,0<=n)->∃(n:Int) (ts:List Tie),WebR n ts/\ts.length<=28/\g [.lst (ns.map .int)]=some (.v (webD n ts))
theorem a3r {E9:LO}{M8:LO}(E7:Fn P w K mg base "_law_two_of" k E9)(E4:Q5 E9)(L9:Fn P w K mg base "_law_gain" k M8)(O1:Z5 M8)(p9:mg "range"=none)(k8:mg "tuple"=none)(m_min:mg "min"=none)(m_max:mg "max"=none)(u5:mg "sorted"=none)(F:Fun K "_law_web" "_law_web" S9 f fd)(B:Binds K fd ["numbers"] [])(hm:mg "_law_web"=some (.ref f)):∃g,Fn P w K mg base "_law_web" (k+1) g/\a0N g:=by
 have nd:=Z9.nd
 refine⟨_,B8 F Z9 B hm rfl rfl (fun cdv A outer s H E hr=>(c5 (k6 1 nd (n6 b8 (j8 (k7 hr (a8 0) b8) b8)))
  (c5 (t4 (C9 hr (j8 (S6 (k7 hr (a8 0) b8) b8) b8) b8) (c8 (k6 1 nd (n6 b8 (j8 (S6 (k7 hr (a8 0) b8) b8) b8)))) j5)
  (c5 (k6 2 nd (j8 (k7 hr (a8 0) b8) b8))
  (c5 (k6 3 nd (j8 (S6 (k7 hr (a8 0) b8) b8) b8))
  (c5 (t4 (C9 hr (j8 (S6 (k7 hr (a8 0) b8) b8) b8) b8) (c8 (k6 3 nd b8)) j5)
  (c5 (k6 4 nd a73)
  (c5 (S7 jF rfl (a11 p9 (a9 (a8 3) c7)) (g9 5 nd) (c5 (R1 (l5 E7 hr (a9 (a8 1) (a9 (a8 2) (a9 (k7 hr (a8 0) (n6 b8 (A8 b8 (a8 5)))) (a9 (k7 hr (a8 0) (n6 b8 (A8 b8 (a8 5)))) c7))))) (F0 rfl (j4 (g9 6 nd) (j4 (g9 7 nd) B6))))
  (c5 (t4 (C9 hr (a8 3) b8) (c5 (k6 6 nd (j8 (a8 5) (a8 1)))
  (c8 (k6 7 nd (j8 (n6 (n6 (a8 6) b8) (S6 (a8 5) (a8 1))) (a8 1))))) j5)
  (c8 (t4 (a4M hr (a8 6) (a8 7)) (c8 (a7V hr (a8 4) (a9 (qx_b (P9 rfl) a2j m_min (a9 (a8 6) (a9 (a8 7) c7))) (a9 (qx_b (a1L rfl) a7R m_max (a9 (a8 6) (a9 (a8 7) c7))) c7)) (l5 L9 hr (a9 (j8 (k7 hr (a8 0) b8) b8) (a9 (S6 (k7 hr (a8 0) (n6 b8 (A8 b8 (a8 5)))) b8) c7))))) j5)))))
  (c8 (j1 (z0 (a9 (a8 1) (a9 (qx_t w4 K4 k8 (a9 (B5 (N:=["two","gains"]) (js:=[none,some 4]) (li:=none) rfl (E5 (by exact(.own (.cap rfl rfl rfl rfl .nil))) rfl (by exact⟨rfl,trivial⟩) (by rfl)) (Y1 (W8 (a10 hr rfl u5 (a9 (a8 4) c7)))) (fun _ _ _ _=>(g9 0 (show((["two","gains"]:List Str)++[accN]).Nodup by decide +kernel))) (fun _ _ _ _=>E2) (fun _ _ _ _=>(n6 (a8 0) (z0 (a9 (k7 hr (a8 1) (a8 0)) c7))))) c7)) c7))))))))))))),?_⟩
 intro ns hl hl2 hp;have d6:dOk 6:=T1 (by decide) (by decide)
 have d48:dOk 48:=T1 (by decide) (by decide)
 have d60:dOk 60:=T1 (by decide) (by decide)
 have d1000:dOk 1000:=T1 (by decide) (by decide)
 have z6:(0:Int)<6:=by decide
 have z8:(0:Int)<8:=by decide
 have z2:(0:Int)<2:=by decide
 have z5:(0:Int)<5:=by decide
 have z10:(0:Int)<10:=by decide
 have m2:∀a:Int,mOk 2 a:=fun a=>.inl (by decide)
 have at_:∀i:Int,0<=i->i<59->atI (ns.map D.int) i=some (.int (ns.getD i.toNat 0)):=fun i h0 h1=>Q1 h0 (by walk_at "o")
 have a0:=at_ 0 (by decide) (by decide)
 have a1:=at_ 1 (by decide) (by decide)
 have a2:=at_ 2 (by decide) (by decide)
 have p0:0<=ns.getD (Int.toNat 0) 0:=by
  cases ns with
  | nil=>simp at hl
  | cons x r=>exact hp x zJ
 generalize ns.getD (Int.toNat 0) 0=n0 at a0 p0;generalize ns.getD (Int.toNat 1) 0=n1 at a1;generalize ns.getD (Int.toNat 2) 0=n2 at a2
 repeat(first|walk_at "z r" | simp only[a0,a1,d6,z6,z8])
 generalize ei:ifO _ _ _=q1;obtain⟨n,hn,rfl⟩:∃n:Int,(1<=n/\n<=8)/\q1=some (.nx [some (.v (.lst (ns.map .int))),some (.v (.int n)),none,none,none,none,none,none]):=by
  rw[<-ei];cases hb:(n0/6%8==1) with
  | true=>
   refine⟨7+n0/48%2,by walk_at "o",?_⟩
   repeat(first|walk_at "z r" | simp only[a0,d48,z2])
  | false=>
   refine⟨1+n0%6,by walk_at "o",?_⟩
   walk_at "q"
 repeat(first|walk_at "z r" | simp only[a1,d6,d60,z6,z8,z10])
 generalize ei:ifO _ _ _=q1;obtain⟨M,hM,rfl⟩:∃M:Int,(0<=M/\M<=28)/\q1=some (.nx [some (.v (.lst (ns.map .int))),some (.v (.int n)),some (.v (.int (n1%6))),some (.v (.int M)),none,none,none,none]):=by
  rw[<-ei];cases hb:(n1/60%8==1) with
  | true=>
   refine⟨28,by walk_at "o",?_⟩
   walk_at "q"
  | false=>
   refine⟨n1/6%10,by walk_at "o",?_⟩
   walk_at "q"
 have rm:(-(2^62:Int)<=M/\M<2^62):=by walk_at "o"
 generalize n1%6=k;have zn:(0:Int)<n:=by walk_at "o"
 have dn:dOk n:=T1 (by walk_at "o") (by walk_at "o")
 repeat(first|walk_at "z r" | simp only[rm])
 generalize el:loopF _ _ _=r;refine U3 el (fun i ρ=>∃(ts:List Tie) (o5 o6 o7:Option D),ρ=[some (.v (.lst (ns.map .int))),some (.v (.int n)),some (.v (.int k)),some (.v (.int M)),some (.o (.dT (ts.map tkK) (ts.map fun t=>D.int t.2.2))),o5.map .v,o6.map .v,o7.map .v]/\TkOk n ts/\ts.length<=i) ⟨[],none,none,none,rfl,⟨(fun _ h=>by cases h),nodup_nil⟩,zE _⟩ ?_ ?_
 ·rintro i x _ hx ⟨ts,o5,o6,o7,rfl,hts,htl⟩;obtain⟨rfl,hi⟩:=a3Q hx;have b3:=at_ (3+2*(0+(i:Int))) (by walk_at "o") (by walk_at "o")
  have b4:=at_ (4+2*(0+(i:Int))) (by walk_at "o") (by walk_at "o")
  generalize ns.getD (3+2*(0+(i:Int))).toNat 0=A at b3;generalize ns.getD (4+2*(0+(i:Int))).toNat 0=C at b4;obtain⟨x0,y0,hxy0,e2⟩:=E4 n k A C hn.1 hn.2
  repeat(first|walk_at "z r" | simp only[b3,b4,m2,e2])
  generalize ei:ifO _ _ _=q1;obtain⟨x,y,hxy,rfl⟩:∃x y:Int,(0<=x/\x<n/\0<=y/\y<n)/\q1=some (.nx [some (.v (.lst (ns.map .int))),some (.v (.int n)),some (.v (.int k)),some (.v (.int M)),some (.o (.dT (ts.map tkK) (ts.map fun t=>D.int t.2.2))),some (.v (.int (0+(i:Int)))),some (.v (.int x)),some (.v (.int y))]):=by
   rw[<-ei];cases hb:(M==28) with
   | true=>
    refine⟨(0+(i:Int))%n,((0+(i:Int))%n+1+(0+(i:Int))/n)%n,⟨xY _ (by walk_at "o"),xF _ zn,xY _ (by walk_at "o"),xF _ zn⟩,?_⟩
    repeat(first|walk_at "z r" | simp only[zn,dn])
   | false=>
    refine⟨x0,y0,hxy0,?_⟩;walk_at "q"
  cases hne:(x==y) with
  | true=>
   refine⟨_,?_,ts,some (.int (0+(i:Int))),some (.int x),some (.int y),rfl,hts,by walk_at "o"⟩
   repeat(first|walk_at "z r" | simp only[hne])
  | false=>
   have hab2:x≠y:=by simpa using hne
   obtain⟨g,hg,eg⟩:=O1 (n2%5) (A/1000);obtain⟨ts',ht',hl',ek,ex⟩:=b1T (a:=if y<x then y else x) (b:=if y>x then y else x) hts ⟨by split<;>walk_at "o",by split<;>split<;>walk_at "o",by split<;>walk_at "o",hg⟩
   have klt:(ts.map tkK).length<1000000:=by rw[zH];walk_at "o"
   refine⟨_,?_,ts',some (.int (0+(i:Int))),some (.int x),some (.int y),rfl,ht',by walk_at "o"⟩
   repeat(first|walk_at "z r" | simp only[hne,a2,z5,b3,m2,d1000,eg,klt,ek,ex])
 ·rintro _ rfl ⟨ts,o5,o6,o7,rfl,hts,htl⟩;rw[T6] at htl;have sg:=a9Z (ts:=ts) (by walk_at "o")
  have ltk:=U8 (sortK (ts.map key2));have hw:WebOk n ts:=⟨hn,fun t ht=>by have:=hts.1 t ht;exact⟨this.1,this.2.1,this.2.2.1,this.2.2.2.1,by walk_at "o"⟩,hts.2,by walk_at "o"⟩
  refine⟨n,resort ts,⟨hw.perm (M7 hw.nk),fun t ht=>(hts.1 t ((M7 hw.nk).mem_iff.mp ht)).2.2.2.2,a79 hw.nk⟩,by rw[(M7 hw.nk).length_eq];walk_at "o",?_⟩
  rw[show D.dT (ts.map tkK) (ts.map fun t=>D.int t.2.2)=gT ts from rfl];walk_at "q";rw[v3 (ρ1:=[some (.v (.lst (ns.map .int))),some (.v (.int n)),some (.v (.int k)),some (.v (.int M)),some (.o (gT ts)),o5.map .v,o6.map .v,o7.map .v]) (xs:=(sortK (ts.map key2)).map tupI) (fun B=>∃o1:Option D,B=[o1.map .v,some (.v (gT ts))]) (fun _=>true) (tieH ts)]
  ·rw[a2Z];have lt:=P5 (resort ts)
   repeat(first|walk_at "z r" | simp only[lt])
   try rfl
  ·repeat(first|walk_at "z r" | simp only[sg,ltk])
  ·rintro _ ⟨_,rfl⟩;rfl
  ·exact⟨none,rfl⟩
  ·rw[zH,(p5 _).length_eq,zH];unfold lim;walk_at "o"
  ·rw[a2Z];exact P5 _
  ·rintro x hx _ zs ⟨o1,rfl⟩;obtain⟨k,hk,rfl⟩:=a8H hx;obtain⟨t,ht,rfl⟩:=qG.mp ((p5 _).mem_iff.mp hk);have lk:oIxG (gT ts) (tupI (key2 t))=some (.v (.int (gainOf ts (key2 t)))):=b1J (a9l (key2 t)) (Q7 (qG.mpr ⟨t,ht,rfl⟩));rw[a3n];have tk:tupI (key2 t)= .tup [.int t.1,.int t.2.1]:=rfl;rw[tk] at lk ⊢;refine⟨[some (.v (.tup [.int t.1,.int t.2.1])),some (.v (gT ts))],.v (tieD (tieOf ts (key2 t))),⟨some _,rfl⟩,?_,rfl,fun _=>⟨?_,.inl rfl⟩⟩
   ·walk_at "q"
   ·repeat(first|walk_at "z r" | simp only[lk])
    try rfl
structure Fd (n:Nat) (ms:List Int) (p:Int) (fs:List Int):Prop where
 pm:p∈fs
 nd:fs.Nodup
 rg:∀x∈fs,0<=x/\x<n
 ms:∀x∈fs,ms.getD x.toNat 0=ms.getD p.toNat 0
def Shut (ts:List Tie) (fs:List Int):Prop:=∀t∈ts,(t.1∈fs↔t.2.1∈fs)
theorem Fd.add {n:Nat}{ms:List Int}{p:Int}{fs:List Int}(h:Fd n ms p fs){a b:Int}(ha:a∈fs)(hb:b∉fs)(rb:0<=b/\b<n)(e:ms.getD a.toNat 0=ms.getD b.toNat 0):Fd n ms p (fs++[b]):=by
 refine⟨yR _ h.pm,?_,fun x hx=>?_,fun x hx=>?_⟩
 ·rw[nodup_append];exact⟨h.nd,by simp,fun x hx y hy=>by rw[zS.mp hy];exact fun z=>hb (z▸hx)⟩
 ·rcases jB.mp hx with hx|hx
  ·exact h.rg x hx
  ·rw[zS.mp hx];exact rb
 ·rcases jB.mp hx with hx|hx
  ·exact h.ms x hx
  ·rw[zS.mp hx,<-e];exact h.ms a ha
theorem Fd.len {n:Nat}{ms:List Int}{p:Int}{fs:List Int}(h:Fd n ms p fs):fs.length<=n:=by
 have:=jO h.nd (l₂:=up n) fun x hx=>J9.mpr (h.rg x hx)
 rwa [a2d] at this
theorem Fd.all {n:Nat}{ms:List Int}{p:Int}{fs:List Int}(h:Fd n ms p fs)(hl:n<=fs.length):∀x:Int,0<=x->x<n->x∈fs:=fun x h0 h1=>by
 apply jD;intro hx;have nd:(x::fs).Nodup:=nodup_cons.mpr ⟨hx,h.nd⟩
 have:=jO nd (l₂:=up n) fun y hy=>by
  rcases zN.mp hy with rfl|hy
  ·exact J9.mpr ⟨h0,h1⟩
  ·exact J9.mpr (h.rg y hy)
 rw[a2d,zV] at this;walk_at "o"
theorem Fd.fin {n:Nat}{ts:List Tie}{ms:List Int}{p:Int}{fs:List Int}(M:Mk n ts ms)(h:Fd n ms p fs)(s:Shut ts fs)(rt:∀t∈ts,0<=t.1/\0<=t.2.1):sortI fs=partOf n ms (ms.getD p.toNat 0):=by
 have rp:=h.rg p h.pm;refine PySem.W.lks_uniq ((S3 fs).trans ((xZ h.nd ((a8f n).filter _)).mpr fun x=>?_)) (T8 fs) (((P1 n).filter _).imp fun h=>by walk_at "o")
 rw[jP,J9];constructor
 ·intro hx;exact⟨h.rg x hx,by rw[h.ms x hx];simp⟩
 ·rintro⟨hx,e⟩;have e:ms.getD x.toNat 0=ms.getD p.toNat 0:=by simpa using e
  have c:=M.con (fun i=>(i:Int)∈fs) (fun t ht=>by
   have r:=rt t ht;rw[show((t.1.toNat:Nat):Int)=t.1 by walk_at "o",show((t.2.1.toNat:Nat):Int)=t.2.1 by walk_at "o"]
   exact s t ht) x.toNat p.toNat (by walk_at "o") (by walk_at "o") e
  rw[show((x.toNat:Nat):Int)=x by walk_at "o",show((p.toNat:Nat):Int)=p by walk_at "o"] at c
  exact c.mpr h.pm
theorem a55 {ns:List Int}(h:ns.length<64):gSort (.lst (ns.map .int))=some (.o (.lst ((sortI ns).map .int))):=by
 unfold gSort gSortI;dsimp only;rw[m6,bind_some,if_pos h]
abbrev O0:Stmt:=top 25
theorem U0:FnScope ["web","person","found","turn","a","b","gain"] ["web","person"] (defScope O0):=by walk_at "c"
def Z8 (g:LO):Prop:=∀(n:Int) (ts:List Tie) (ms:List Int) (p:Int),WebOk n ts->Mk n.toNat ts ms->0<=p->p<n->g [webD n ts,.int p]=some (.v (tupI (partOf n.toNat ms (ms.getD p.toNat 0))))
theorem a2y (p9:mg "range"=none)(k8:mg "tuple"=none)(u5:mg "sorted"=none)(F:Fun K "_law_part" "_law_part" O0 f fd)(B:Binds K fd ["web","person"] [])(hm:mg "_law_part"=some (.ref f)):∃g,Fn P w K mg base "_law_part" (k+1) g/\Z8 g:=by
 have nd:=U0.nd
 refine⟨_,B8 F U0 B hm rfl rfl (fun cdv A outer s H E hr=>(c5 (k6 2 nd (W5 (a9 (a8 1) c7)))
  (c5 (S7 jF rfl (a11 p9 (a9 b8 c7)) (g9 3 nd) (c8 (S7 jF rfl (W8 (k7 hr (a8 0) b8)) (F0 rfl (j4 (g9 4 nd) (j4 (g9 5 nd) (j4 (g9 6 nd) B6)))) (c5 (t4 (a0Z (a7t (a61 hr (a8 4) (a8 2)) (a5a (F2 hr (a8 5) (a8 2))))) (c8 (a0l (O7 (a8 2) (a9 (a8 5) c7)))) j5)
  (c8 (t4 (a0Z (a7t (a61 hr (a8 5) (a8 2)) (a5a (F2 hr (a8 4) (a8 2))))) (c8 (a0l (O7 (a8 2) (a9 (a8 4) c7)))) j5))))))
  (c8 (j1 (qx_t w4 K4 k8 (a9 (a10 hr rfl u5 (a9 (a8 2) c7)) c7))))))),?_⟩
 intro n ts ms p hw M h0 hp;have hn:=hw.n1;have r8:(-(2^62:Int)<=8/\(8:Int)<2^62):=by decide
 have hlt:=hw.len;unfold webD
 repeat(first|walk_at "z r" | simp only[r8])
 generalize el:loopF _ _ _=r;refine U3 el (fun i ρ=>∃(fs:List Int) (o3 o4 o5 o6:Option D),ρ=[some (.v (.tup [.int n,.tup (ts.map tieD)])),some (.v (.int p)),some (.o (.lst (fs.map .int))),o3.map .v,o4.map .v,o5.map .v,o6.map .v]/\Fd n.toNat ms p fs/\(Shut ts fs\/i+1<=fs.length)) ⟨[p],none,none,none,none,rfl,⟨List.mem_singleton_self _,by simp,fun x hx=>by rw[zS.mp hx];walk_at "o",fun x hx=>by rw[zS.mp hx]⟩,.inr (zE _)⟩ ?_ ?_
 ·rintro i x _ hx ⟨fs0,o3,o4,o5,o6,rfl,h,hs⟩;obtain⟨rfl,hi⟩:=a3Q hx;walk_at "q";generalize el2:loopF _ _ _=r2;refine U3 el2 (fun j ρ=>∃(fs:List Int) (o4 o5 o6:Option D),ρ=[some (.v (.tup [.int n,.tup (ts.map tieD)])),some (.v (.int p)),some (.o (.lst (fs.map .int))),some (.v (.int (0+(i:Int)))),o4.map .v,o5.map .v,o6.map .v]/\Fd n.toNat ms p fs/\((fs=fs0/\Shut (ts.take j) fs)\/(fs0.length<fs.length/\¬Shut ts fs0))) ⟨fs0,o4,o5,o6,rfl,h,.inl ⟨rfl,by rw[take_zero];exact fun t ht=>by cases ht⟩⟩ ?_ ?_
  ·rintro j x _ hx ⟨fs,o4,o5,o6,rfl,hf,hc⟩;rw[qH] at hx;cases hj:ts[j]? with
   | none=>rw[hj] at hx;cases hx
   | some t=>
    rw[hj] at hx;cases hx;have tm:=qQ hj;have ht:=hw.t t tm;have eT:ts.take (j+1)=ts.take j++[t]:=by rw[List.take_add_one,hj];rfl
    have em:=M.tie t tm;have ln:=hf.len;have l6:fs.length<1000000:=by walk_at "o"
    have ia:=fun b=>a0n (b:=b) (n:=t.1) (m6 fs);have ib:=fun b=>a0n (b:=b) (n:=t.2.1) (m6 fs);rw[show tieD t= .tup [.int t.1,.int t.2.1,.int t.2.2] from rfl];have grow:∀fs':List Int,fs'.length=fs.length+1->¬(t.1∈fs↔t.2.1∈fs)->fs0.length<fs'.length/\¬Shut ts fs0:=fun fs' hl hne=>by
     rcases hc with ⟨e,_⟩|⟨e,e2⟩
     ·subst e;exact⟨by walk_at "o",fun z=>hne (z t tm)⟩
     ·exact⟨by walk_at "o",e2⟩
    by_cases ha:t.1∈fs
    ·by_cases hb:t.2.1∈fs
     ·have da:decide (t.1∈fs)=true:=zP ha;have db:decide (t.2.1∈fs)=true:=zP hb;refine⟨_,?_,fs,some (.int t.1),some (.int t.2.1),some (.int t.2.2),rfl,hf,?_⟩
      ·repeat(first|walk_at "z r" | simp only[ia,ib,da,db])
      ·rcases hc with ⟨e,e2⟩|hc
       ·refine .inl ⟨e,fun u hu=>?_⟩;rw[eT] at hu;rcases jB.mp hu with hu|hu
        ·exact e2 u hu
        ·rw[zS.mp hu];exact⟨fun _=>hb,fun _=>ha⟩
       ·exact .inr hc
     ·have da:decide (t.1∈fs)=true:=zP ha;have db:decide (t.2.1∈fs)=false:=zU hb;have ia':=fun b=>a0n (b:=b) (n:=t.1) (m6 (fs++[t.2.1]));have ib':=fun b=>a0n (b:=b) (n:=t.2.1) (m6 (fs++[t.2.1]));have da':decide (t.1∈fs++[t.2.1])=true:=zP (yR _ ha);have db':decide (t.2.1∈fs++[t.2.1])=true:=zP (qN _ (List.mem_singleton_self _));simp only[yD,zI,xN] at ia' ib';refine⟨_,?_,fs++[t.2.1],some (.int t.1),some (.int t.2.1),some (.int t.2.2),rfl,hf.add ha hb (by walk_at "o") em,.inr (grow _ (by rw[qK];rfl) fun z=>hb (z.mp ha))⟩
      repeat(first|walk_at "z r" | simp only[ia,ib,da,db,ia',ib',da',db',zH,l6,yD,zI,xN])
    ·by_cases hb:t.2.1∈fs
     ·have da:decide (t.1∈fs)=false:=zU ha;have db:decide (t.2.1∈fs)=true:=zP hb;refine⟨_,?_,fs++[t.1],some (.int t.1),some (.int t.2.1),some (.int t.2.2),rfl,hf.add hb ha (by walk_at "o") em.symm,.inr (grow _ (by rw[qK];rfl) fun z=>ha (z.mpr hb))⟩
      repeat(first|walk_at "z r" | simp only[ia,ib,da,db,zH,l6,yD,zI,xN])
     ·have da:decide (t.1∈fs)=false:=zU ha;have db:decide (t.2.1∈fs)=false:=zU hb;refine⟨_,?_,fs,some (.int t.1),some (.int t.2.1),some (.int t.2.2),rfl,hf,?_⟩
      ·repeat(first|walk_at "z r" | simp only[ia,ib,da,db])
      ·rcases hc with ⟨e,e2⟩|hc
       ·refine .inl ⟨e,fun u hu=>?_⟩;rw[eT] at hu;rcases jB.mp hu with hu|hu
        ·exact e2 u hu
        ·rw[zS.mp hu];exact⟨fun z=>absurd z ha,fun z=>absurd z hb⟩
       ·exact .inr hc
  ·rintro _ rfl ⟨fs,o4,o5,o6,rfl,hf,hc⟩;rw[zH,take_length] at hc;refine⟨_,rfl,fs,some (.int (0+(i:Int))),o4,o5,o6,rfl,hf,?_⟩;rcases hc with ⟨rfl,hc⟩|⟨hc,hc2⟩
   ·exact .inl hc
   ·refine .inr ?_;rcases hs with hs|hs
    ·exact absurd hs hc2
    ·walk_at "o"
 ·rintro _ rfl ⟨fs,o3,o4,o5,o6,rfl,hf,hs⟩;have sh:Shut ts fs:=by
   rcases hs with hs|hs
   ·exact hs
   ·rw[T6] at hs;have all:=hf.all (by walk_at "o")
    exact fun t ht=>by
     have:=hw.t t ht
     exact⟨fun _=>all _ (by walk_at "o") (by walk_at "o"),fun _=>all _ (by walk_at "o") (by walk_at "o")⟩
  have fi:=hf.fin M sh fun t ht=>by have:=hw.t t ht;walk_at "o"
  have ln:=hf.len;have sg:=a55 (ns:=fs) (by walk_at "o")
  rw[fi] at sg;have lf1:=l0 (partOf n.toNat ms (ms.getD p.toNat 0))
  repeat(first|walk_at "z r" | simp only[sg,lf1])
  try rfl
def offP (p:Int) (t:Tie):Bool:=!(p==t.1||p==t.2.1)
def offD (p:Int):D->Bool
 | .tup [.int a,.int b,_]=>!(p==a||p==b)
 | _=>false
theorem a4o (p:Int)(ts:List Tie):((ts.map tieD).filter (offD p)).map id=(ts.filter (offP p)).map tieD:=by
 rw[map_id,List.filter_map];rfl
theorem a4s {n:Int}{ts:List Tie}(h:WebOk n ts)(f:Tie->Bool):WebOk n (ts.filter f):=
 ⟨h.n1,fun t ht=>h.t t (jP.mp ht).1,(List.filter_sublist.map _).nodup h.nd,zX (List.length_filter_le _ _) h.len⟩
theorem WebR.off {n:Int}{ts:List Tie}(h:WebR n ts)(f:Tie->Bool):WebR n (ts.filter f):=
 ⟨a4s h.ok f,fun t ht=>h.g t (jP.mp ht).1,h.r.sublist (List.filter_sublist.map _)⟩
theorem a8s (p a b:Int):oInG true (.int p) (.tup [.int a,.int b])=some (.v (.bl (!(p==a||p==b)))):=by
 rw[show[D.int a,.int b]=[a,b].map D.int from rfl,a8Y (m6 [a,b])];show some (W.v (.bl (!decide (p∈[a,b]))))=_;congr 4;simp only[zN,zS,xG,yY]
 by_cases h1:p=a<;>by_cases h2:p=b<;>simp[h1,h2]
abbrev Q2:Stmt:=top 18
theorem J4:FnScope ["web","person","people","ties"] ["web","person"] (defScope Q2):=by walk_at "c"
def a1s (g:LO):Prop:=∀(n:Int) (ts:List Tie) (p:Int),ts.length<=1000->0<=p->p<n->g [webD n ts,.int p]=some (.v (webD n (ts.filter (offP p))))
theorem a3R {q8:LO}(n8:Fn P w K mg base "is_person" k q8)(n9:E1 q8)(k8:mg "tuple"=none)(F:Fun K "without" "without" Q2 f fd)(B:Binds K fd ["web","person"] [])(hm:mg "without"=some (.ref f)):∃g,Fn P w K mg base "without" (k+1) g/\a1s g:=by
 have nd:=J4.nd
 refine⟨_,B8 F J4 B hm rfl rfl (fun cdv A outer s H E hr=>(c5 (R1 (a8 0) (F0 rfl (j4 (g9 2 nd) (j4 (g9 3 nd) B6))))
  (c5 (t4 (A2 (A1 (l5 n8 hr (a9 (a8 2) (a9 (a8 1) c7))))) (c8 a8l) j5)
  (c8 (j1 (z0 (a9 (a8 2) (a9 (qx_t w4 K4 k8 (a9 (B5 (N:=["tie","person"]) (js:=[none,some 1]) (li:=none) rfl (E5 (by exact(.own (.cap rfl rfl rfl rfl .nil))) rfl (by exact⟨rfl,trivial⟩) (by rfl)) (N5 3) (fun _ _ _ _=>(g9 0 (show((["tie","person"]:List Str)++[accN]).Nodup by decide +kernel))) (fun _ _ _ _=>(a2k rfl (F2 hr (a8 1) (G1 (a8 0) O8 (P2 b8))))) (fun _ _ _ _=>(a8 0))) c7)) c7)))))))),?_⟩
 intro n ts p hl h0 hp;have ep:=n9 n (.int p) rfl;rw[W1 n p h0 hp] at ep;have om:=a4o p ts;have lt:=P5 (ts.filter (offP p));unfold webD
 repeat(first|walk_at "z r" | simp only[ep])
 rw[v3 (ρ1:=[some (.v (.tup [.int n,.tup (ts.map tieD)])),some (.v (.int p)),some (.v (.int n)),some (.v (.tup (ts.map tieD)))]) (xs:=ts.map tieD) (fun B=>∃o:Option D,B=[o.map .v,some (.v (.int p))]) (offD p) id]
 ·rw[om]
  repeat(first|walk_at "z r" | simp only[lt])
  try rfl
 ·walk_at "q"
 ·rintro _ ⟨_,rfl⟩;rfl
 ·exact⟨none,rfl⟩
 ·rw[zH];unfold lim;walk_at "o"
 ·rw[om];exact lt
 ·rintro x hx _ zs ⟨o,rfl⟩;obtain⟨t,ht,rfl⟩:=qG.mp hx;have oi:=a8s p t.1 t.2.1;refine⟨[some (.v (tieD t)),some (.v (.int p))],.v (tieD t),⟨some _,rfl⟩,?_,?_,fun _=>⟨?_,.inl rfl⟩⟩
  ·walk_at "q"
  ·rw[show offD p (tieD t)=(!(p==t.1||p==t.2.1)) from rfl,show tieD t= .tup [.int t.1,.int t.2.1,.int t.2.2] from rfl]
   repeat(first|walk_at "z r" | simp only[a38,oi])
  ·walk_at "q"
def a1K (c:Addr) (gx:List D->Option Addr):Prop:=∀(n:Int) (ts:List Tie) (d:D),isX d=false->gx [webD n ts,d]=if pers n d=true then none else some c
theorem a2X {q8:LO}{c:Addr}(n8:Fn P w K mg base "is_person" k q8)(n9:E1 q8)(A5:mg "NoPerson"=some (.ref c))(q:PySem.W.excIn K c bmV nwV=true)(F:Fun K "without" "without" Q2 f fd)(B:Binds K fd ["web","person"] [])(hm:mg "without"=some (.ref f)):
  ∃gx,FnR P w K mg base "without" (k+1) gx/\a1K c gx:=by
 have nd:=J4.nd;refine⟨_,b1D F J4 B hm rfl rfl (fun cdv A outer s H E hr=>a75 (R1 (a8 0) (F0 rfl (j4 (g9 2 nd) (j4 (g9 3 nd) B6)))) (a3F (pr_if (A2 (A1 (l5 n8 hr (a9 (a8 2) (a9 (a8 1) c7))))) (a3F (a8T rfl A5 q (a9 a2a c7))) Z.a9d))),?_⟩;intro n ts d hd;have e:=n9 n d hd;unfold runR fRN fRIf fRaise webD;cases hb:pers n d with
 | true=>rw[hb] at e;repeat(first|walk_at "z r" | simp only[e])
 | false=>rw[hb] at e;repeat(first|walk_at "z r" | simp only[e])
abbrev B3:Stmt:=top 26
theorem D8:FnScope ["web","far","number","some"] ["web","far","number"] (defScope B3):=by walk_at "c"
def G3 (g:LO):Prop:=∀(n:Int) (ts:List Tie) (far num:Int),1<=n->0<=far->∃d:D,isX d=false/\pers n d=false/\g [webD n ts,.int far,.int num]=some (.v d)
theorem U5 (F:Fun K "_law_no_person" "_law_no_person" B3 f fd)(B:Binds K fd ["web","far","number"] [])(hm:mg "_law_no_person"=some (.ref f)):∃g,Fn P w K mg base "_law_no_person" (k+1) g/\G3 g:=by
 have nd:=D8.nd
 refine⟨_,B8 F D8 B hm rfl rfl (fun cdv A outer s H E hr=>(c5 (k6 3 nd (W5 (a9 (k7 hr (a8 0) b8) (a9 (b1P b8) (a9 E3 (a9 E3 (a9 a6x (a9 a2a (a9 a2a (a9 (W5 (a9 b8 c7)) (a9 (z0 (a9 b8 c7)) (a9 (n6 (k7 hr (a8 0) b8) (a8 1)) (a9 (a4k (a4k b8 b8) (a8 1)) (a9 a8X (a9 (z0 c7) (a9 (W5 c7) (a9 a2a c7)))))))))))))))))
  (c8 (j1 (k7 hr (a8 3) (j8 (a8 2) b8)))))),?_⟩
 intro n ts far num hn hf;have z15:(0:Int)<15:=by decide
 have hm:=And.intro (xY num (b:=15) (by decide)) (xF num (b:=15) (by decide))
 obtain⟨d,ed,dx,dp⟩:∃d:D,atI [.int n,.int (-1),.bl true,.bl false,.non,.str "0",.str "",.lst [.int 0],.tup [.int 0],.int (n+far),.int (0-1-far),.dK [] [],.tup [],.lst [],.str "none"] (num%15)=some d/\isX d=false/\pers n d=false:=by
  have pi:∀i:Int,i<0\/n<=i->pers n (.int i)=false:=fun i hi=>by
   show(decide (0<=i)&&decide (i<n))=false;rcases hi with hi|hi
   ·rw[zU (by walk_at "o")];rfl
   ·rw[zU (show ¬i<n by walk_at "o"),Bool.and_false]
  generalize num%15=i at hm
  have:i=0\/i=1\/i=2\/i=3\/i=4\/i=5\/i=6\/i=7\/i=8\/i=9\/i=10\/i=11\/i=12\/i=13\/i=14:=by walk_at "o"
  rcases this with rfl|rfl|rfl|rfl|rfl|rfl|rfl|rfl|rfl|rfl|rfl|rfl|rfl|rfl|rfl
  ·exact⟨_,rfl,rfl,pi _ (.inr (Int.le_refl _))⟩
  ·exact⟨_,rfl,rfl,pi _ (.inl (by decide))⟩
  ·exact⟨_,rfl,rfl,rfl⟩
  ·exact⟨_,rfl,rfl,rfl⟩
  ·exact⟨_,rfl,rfl,rfl⟩
  ·exact⟨_,rfl,rfl,rfl⟩
  ·exact⟨_,rfl,rfl,rfl⟩
  ·exact⟨_,rfl,rfl,rfl⟩
  ·exact⟨_,rfl,rfl,rfl⟩
  ·exact⟨_,rfl,rfl,pi _ (.inr (by walk_at "o"))⟩
  ·exact⟨_,rfl,rfl,pi _ (.inl (by walk_at "o"))⟩
  ·exact⟨_,rfl,rfl,rfl⟩
  ·exact⟨_,rfl,rfl,rfl⟩
  ·exact⟨_,rfl,rfl,rfl⟩
  ·exact⟨_,rfl,rfl,rfl⟩
 refine⟨d,dx,dp,?_⟩;unfold webD
 repeat(first|walk_at "z r" | simp only[z15,ed])
theorem kc_ex {c:Addr}{b:Bool}{p:Addr->Bool->Prop}(h:p c b):∃kc:Addr->Option Bool,kc c=some b/\∀C b',kc C=some b'->p C b':=⟨kcF c b,a8a,a34 h⟩
theorem a37 {c:Addr}{b:Bool}{p:Addr->Bool->Prop}(h:p c b)(hx:ExcC K c):∃kc:Addr->Option Bool,kc c=some b/\(∀C b',kc C=some b'->p C b')/\∀C b',kc C=some b'->ExcC K C:=⟨kcF c b,a8a,a34 h,a34 (p:=fun C _=>ExcC K C) hx⟩
abbrev D4:Stmt:=top 27
theorem K1:FnScope ["web","thing","caught","e"] ["web","thing"] (defScope D4):=by walk_at "c"
def L4 (g:LO):Prop:=∀(n:Int) (ts:List Tie) (d:D),isX d=false->pers n d=false->g [webD n ts,d]=some (.v (.bl true))
theorem a0j {F1:LO}{gx:List D->Option Addr}{c cT cNoParty cNoWeb cTwice:Addr}(C1:Fn P w K mg base "without" k F1)(W9:FnR P w K mg base "without" k gx)(R0:a1K c gx)
  (g5:mg "isinstance"=none) (J5:mg "ValueError"=none) (K0:mg "TwainError"=some (.ref cT)) (A5:mg "NoPerson"=some (.ref c)) (Y8:mg "NoParty"=some (.ref cNoParty)) (a2P:mg "NoWeb"=some (.ref cNoWeb)) (a2u:mg "Twice"=some (.ref cTwice))
  (k1:PySem.W.kitAny K (.ref c) [.ref cNoParty,.ref cNoWeb,.ref cTwice]=some false)
  (k3:PySem.W.kitOne K (.ref c) (.ref c)=some true) (k4:PySem.W.kitOne K (.ref c) (.type "ValueError")=some true) (k5:PySem.W.exmOne K (.ref c) (.ref cT)=some true) (hx:ExcC K c)
  (F:Fun K "_law_refused" "_law_refused" D4 f fd) (B:Binds K fd ["web","thing"] []) (hm:mg "_law_refused"=some (.ref f)):∃g,Fn P w K mg base "_law_refused" (k+1) g/\L4 g:=by
 have nd:=K1.nd;obtain⟨kc_t,ek_t,hk_t⟩:=kc_ex (p:=fun C b=>PySem.W.exmOne K (.ref C) (.ref cT)=some b) k5;obtain⟨a4c,ek_1,a3S,a3K⟩:=a37 (K:=K) (p:=fun C b=>PySem.W.kitAny K (.ref C) ([cNoParty,cNoWeb,cTwice].map Value.ref)=some b) k1 hx;obtain⟨a3D,ek_3,a3z,a2U⟩:=a37 (K:=K) (p:=fun C b=>PySem.W.kitOne K (.ref C) (.ref c)=some b) k3 hx;obtain⟨a1g,ek_4,a1k,a1o⟩:=a37 (K:=K) (p:=fun C b=>PySem.W.kitOne K (.ref C) (.type "ValueError")=some b) k4 hx
 refine⟨_,B8 F K1 B hm rfl rfl (fun cdv A outer s H E hr=>(c5 (k6 2 nd a6x)
  (c5 (b06 3 (kc:=kc_t) nd K0 hk_t (l5 C1 hr (a9 (a8 0) (a9 (a8 1) c7))) (a7W W9 hr (a9 (a8 0) (a9 (a8 1) c7))) (fun _=>(c8 (k6 2 nd (a8 3)))))
  (c5 (t4 (a0Z (Z7 (A2 (A1 (b1L (kc:=a3D) g5 A5 a3z a2U (a8 2)))) (a0J (A2 (A1 (b1K (kc:=a1g) g5 J5 a1k a1o (a8 2))))))) (c8 (j1 E3)) j5)
  (c8 (j1 (a5r (a8k (kc:=a4c) g5 (.cons Y8 rfl (by decide) (.cons a2P rfl (by decide) (.cons a2u rfl (by decide) .nil rfl) rfl) rfl) a3S a3K (a8 2) (show(3:Nat)<=sizeLine by decide))))))))),?_⟩
 intro n ts d hd hp;have er:=R0 n ts d hd;rw[hp,if_neg (by decide)] at er
 repeat(first|walk_at "z r" | simp only[er,ek_t,ek_1,ek_3,ek_4])
theorem b1C {xs:List D}(i:Nat):cutD xs (some (i:Int)) none=xs.drop i:=by
 unfold cutD;rw[HT.sIx_nat,HT.sIx_none]
 by_cases h:i<=xs.length
 ·rw[Nat.min_eq_left h,yV (by rw[length_drop];exact zE _)]
 ·rw[Nat.min_eq_right (by walk_at "o"),xI,take_zero,List.drop_eq_nil_of_le (by walk_at "o")]
theorem b1h {xs:List D}(i:Nat):cutD xs none (some (i:Int))=xs.take i:=by
 unfold cutD;rw[HT.sIx_nat,HT.sIx_none,drop_zero,Nat.sub_zero]
 by_cases h:i<=xs.length
 ·rw[Nat.min_eq_left h]
 ·rw[Nat.min_eq_right (by walk_at "o"),take_length,yV (by walk_at "o")]
theorem a9f {m:Nat}(n:Int)(ts:List Tie):deq (m+3) (webD n ts) (webD n ts)=some true:=by
 show deqL (deq (m+2)) [.int n,.tup (ts.map tieD)] [.int n,.tup (ts.map tieD)]=_;refine P4 fun x hx=>?_;rcases zN.mp hx with rfl|hx
 ·show some (decide (n=n))=some true;rw[zP rfl]
 ·rw[zS.mp hx];show deqL (deq (m+1)) _ _=_;refine P4 fun y hy=>?_;obtain⟨t,_,rfl⟩:=qG.mp hy;exact a24 [t.1,t.2.1,t.2.2]
theorem a5L {m:Nat}(ks:List (List Int)):deq (m+2) (.lst (ks.map tupI)) (.lst (ks.map tupI))=some true:=by
 show deqL (deq (m+1)) _ _=_;refine P4 fun x hx=>?_;obtain⟨k,_,rfl⟩:=qG.mp hx;exact a24 k
theorem W6 {n:Nat}{ts:List Tie}{ms:List Int}(M:Mk n ts ms){r:Int}(h0:0<=r)(hr:r.toNat<n)(e:ms.getD r.toNat 0=r):∃l,partOf n ms r=r::l:=by
 have mem:r∈partOf n ms r:=jP.mpr ⟨J9.mpr ⟨h0,by walk_at "o"⟩,by rw[e];simp⟩
 have so:(partOf n ms r).Pairwise (· < ·):=(P1 n).filter _;have ge:∀x∈partOf n ms r,r<=x:=fun x hx=>by
  obtain⟨h1,h2⟩:=jP.mp hx;have h1:=J9.mp h1
  have:=(M.le x.toNat (by walk_at "o")).2
  have h2:ms.getD x.toNat 0=r:=by simpa using h2
  walk_at "o"
 cases h:partOf n ms r with
 | nil=>rw[h] at mem;cases mem
 | cons y l=>
  rw[h] at mem so ge;rcases zN.mp mem with rfl|hm
  ·exact⟨l,rfl⟩
  ·have:=(yP.mp so).1 r hm
   have:=ge y zJ
   walk_at "o"
theorem a5C {n:Nat}{ts:List Tie}{ms:List Int}(M:Mk n ts ms)(h8:n<=8):sortK (ddK ((up n).map fun x=>partOf n ms (ms.getD x.toNat 0)))=(rootsOf ms).map (partOf n ms):=by
 have rt:=fun r=>M.roots h8 (r:=r);have rs:(rootsOf ms).Pairwise (· < ·):=by
  unfold rootsOf intsN;exact xU.mpr ((b01 _).imp fun h=>by walk_at "o")
 have lt:((rootsOf ms).map (partOf n ms)).Pairwise fun a b=>HT.lexLt a b=true:=by
  rw[xU];refine rs.imp_of_mem fun{a b} ha hb h=>?_;obtain⟨a0,a1,a2⟩:=(rt a).mp ha;obtain⟨b0,b1,b2⟩:=(rt b).mp hb;obtain⟨la,ea⟩:=W6 M a0 a1 a2;obtain⟨lb,eb⟩:=W6 M b0 b1 b2;rw[ea,eb,HT.lexLt_cons,if_neg (by walk_at "o")]
  exact zP h
 have nd:((rootsOf ms).map (partOf n ms)).Nodup:=lt.imp fun{a b} h z=>by rw[z,a0m] at h;cases h
 refine G5 ((p5 _).trans ((xZ (P8 _) nd).mpr fun k=>?_)) (t6 _) (lt.imp fun{a b} h=>?_)
 ·rw[V9,qG,qG];constructor
  ·rintro⟨x,hx,rfl⟩;have hx:=J9.mp hx;have l:=M.le x.toNat (by walk_at "o")
   refine⟨ms.getD x.toNat 0,(rt _).mpr ⟨l.1,by walk_at "o",M.idem x.toNat (by walk_at "o")⟩,rfl⟩
  ·rintro⟨r,hr,rfl⟩;obtain⟨a0,a1,a2⟩:=(rt r).mp hr;exact⟨r,J9.mpr ⟨a0,by walk_at "o"⟩,by rw[a2]⟩
 ·cases z:HT.lexLt b a with
  | false=>rfl
  | true=>have:=W3 _ _ _ h z;rw[a0m] at this;cases this
theorem a5T {n:Nat}{ts:List Tie}{ms:List Int}(M:Mk n ts ms)(h8:n<=8){p:Int}(h0:0<=p)(hp:p<n)(rt:∀t∈ts,0<=t.1/\0<=t.2.1)(h:∀t∈ts,t.1≠p/\t.2.1≠p):[p]∈(rootsOf ms).map (partOf n ms):=by
 have c:=M.con (fun i=>i=p.toNat) fun t ht=>by
  have r:=rt t ht;have q:=h t ht;exact⟨fun z=>absurd (by walk_at "o") q.1,fun z=>absurd (by walk_at "o") q.2⟩
 have one:∀x:Int,0<=x->x<n->ms.getD x.toNat 0=ms.getD p.toNat 0->x=p:=fun x x0 x1 e=>by
  have:=(c x.toNat p.toNat (by walk_at "o") (by walk_at "o") e).mpr rfl
  walk_at "o"
 have l:=M.le p.toNat (by walk_at "o")
 have ep:ms.getD p.toNat 0=p:=one _ l.1 (by walk_at "o") (M.idem p.toNat (by walk_at "o"))
 refine qG.mpr ⟨p,(M.roots h8).mpr ⟨h0,by walk_at "o",ep⟩,?_⟩
 obtain⟨tl,e⟩:=W6 M h0 (by walk_at "o") ep
 have so:(partOf n ms p).Pairwise (· < ·):=(P1 n).filter _;cases tl with
 | nil=>exact e
 | cons y tl=>
  have hm:y∈partOf n ms p:=by rw[e];exact zL _ zJ
  obtain⟨h1,h2⟩:=jP.mp hm;have h1:=J9.mp h1;have h2:ms.getD y.toNat 0=p:=by simpa using h2
  have:=one y h1.1 h1.2 (by rw[h2,ep])
  rw[e] at so
  have:=(yP.mp so).1 y zJ
  walk_at "o"
def dueH (n:Nat) (ms:List Int):D->D
 | .int x=>tupI (partOf n ms (ms.getD x.toNat 0))
 | _=>.non
theorem a4q (n:Nat)(ms:List Int):((rngD 0 n).filter fun _=>true).map (dueH n ms)=((up n).map fun x=>partOf n ms (ms.getD x.toNat 0)).map tupI:=by
 rw[v5,a4d,jA,jA];rfl
theorem a84 (xs:List D):gBools (fun bs=>bs.all id) (.lst (xs.map fun _=>D.bl true))=some (.v (.bl true)):=by
 have gb:=a4b (r:=fun bs=>bs.all id) (L6 (fun _=>true) xs)
 rwa [S5,show(xs.all fun _=>true)=true by simp] at gb
abbrev T9:Stmt:=top 28
theorem a6V:FnScope ["script","cell","numbers","web","due","found","person","left","ties"] ["script"] (defScope T9):=by walk_at "c"
theorem b1c {D6:LO}{R7:LO}{a2N:LO}{F1:LO}{C5:LO}{B4:LO}{K9:LO}{a0S:LO}(D5:Fn P w K mg base "_law_numbers" k D6)(D2:L0 D6)(S4:Fn P w K mg base "_law_web" k R7)(R5:a0N R7)(V1:Fn P w K mg base "parts" k a2N)(a0p:a47 a2N)(C1:Fn P w K mg base "without" k F1)(Y2:a1s F1)(D1:Fn P w K mg base "_law_refused" k C5)(C4:L4 C5)(A9:Fn P w K mg base "_law_no_person" k B4)(A4:G3 B4)(K7:Fn P w K mg base "_law_part" k K9)(M3:Z8 K9)(a02:Fn P w K mg base "is_web" k a0S)(a1a:a3d a0S)(u5:mg "sorted"=none)(p9:mg "range"=none)(m_len:mg "len"=none)(m_set:mg "set"=none)(k8:mg "tuple"=none)(g5:mg "isinstance"=none)(X1:mg "list"=none)(m_all:mg "all"=none)(F:Fun K "law" "law" T9 f fd):FnOk P w K mg base CX0 (k+1) f fd ["script"] (spLaw K):=by
 have nd:=a6V.nd
 refine b1u F a6V rfl rfl (fun cdv A outer s H E hr=>(c5 (S7 jF rfl (W8 (n6 (G1 (a8 0) O8 (P2 b8)) (W5 (a9 (qx_b W0 a6Q m_len (a9 (a8 0) c7)) c7)))) (g9 1 nd) (c5 (k6 2 nd (l5 D5 hr (a9 (a8 1) (a9 b8 (a9 (a2c b8 b8) c7)))))
  (c5 (k6 3 nd (l5 S4 hr (a9 (G1 (a8 2) (P2 b8) O8) c7)))
  (c5 (k6 4 nd (a1n hr rfl u5 m_set (a9 (B5 (N:=["person","web"]) (js:=[none,some 3]) (li:=none) rfl (E5 (by exact(.own (.cap rfl rfl rfl rfl .nil))) rfl (by exact⟨rfl,trivial⟩) (by rfl)) (Y1 (a11 p9 (a9 (k7 hr (a8 3) b8) c7))) (fun _ _ _ _=>(g9 0 (show((["person","web"]:List Str)++[accN]).Nodup by decide +kernel))) (fun _ _ _ _=>E2) (fun _ _ _ _=>(l5 K7 hr (a9 (a8 1) (a9 (a8 0) c7))))) c7)))
  (c5 (k6 5 nd (l5 V1 hr (a9 (a8 3) c7)))
  (c5 (t4 (a0Z (Z7 (A2 (A1 (X4 (T:="list") (Y9 (by decide)) g5 X1 (a8 5)))) (Z7 (a4M hr (a8 5) (a8 4)) (a0J (A2 (A1 (qx_b (Z1 rfl) a0L m_all (a9 (B5 (N:=["part"]) (js:=[none]) (li:=none) rfl (E5 (by exact(.own .nil)) rfl (by exact trivial) (by rfl)) (N5 5) (fun _ _ _ _=>(g9 0 (show((["part"]:List Str)++[accN]).Nodup by decide +kernel))) (fun _ _ _ _=>E2) (fun _ _ _ _=>(X4 (T:="tuple") (Y9 (by decide)) g5 k8 (a8 0)))) c7)))))))) (c8 (j1 E3)) j5)
  (c5 (a0l (O7 (a8 5) (a9 (z0 c7) c7)))
  (c5 (t4 (a4M hr (l5 V1 hr (a9 (a8 3) c7)) (a8 4)) (c8 (j1 E3)) j5)
  (c5 (S7 jF rfl (a11 p9 (a9 (k7 hr (a8 3) b8) c7)) (g9 6 nd) (c5 (k6 7 nd (l5 C1 hr (a9 (a8 3) (a9 (a8 6) c7))))
  (c5 (k6 8 nd (qx_t w4 K4 k8 (a9 (B5 (N:=["tie","person"]) (js:=[none,some 6]) (li:=none) rfl (E5 (by exact(.own (.cap rfl rfl rfl rfl .nil))) rfl (by exact⟨rfl,trivial⟩) (by rfl)) (Y1 (W8 (k7 hr (a8 3) b8))) (fun _ _ _ _=>(g9 0 (show((["tie","person"]:List Str)++[accN]).Nodup by decide +kernel))) (fun _ _ _ _=>(a2k rfl (F2 hr (a8 1) (G1 (a8 0) O8 (P2 b8))))) (fun _ _ _ _=>(a8 0))) c7)))
  (c8 (t4 (a0Z (Z7 (a4M hr (a8 7) (z0 (a9 (k7 hr (a8 3) b8) (a9 (a8 8) c7)))) (Z7 (a6U (l5 a02 hr (a9 (a8 7) c7)) E3) (a0J (F2 hr (z0 (a9 (a8 6) c7)) (l5 V1 hr (a9 (a8 7) c7))))))) (c8 (j1 E3)) j5)))))
  (c8 (t4 (A2 (A1 (l5 D1 hr (a9 (a8 3) (a9 (l5 A9 hr (a9 (a8 3) (a9 (k7 hr (a8 2) b8) (a9 (k7 hr (a8 2) b8) c7)))) c7))))) (c8 (j1 E3)) j5)))))))))))
  (c8 (j1 E3)))) ?_
 intro ns hl;have ln:=l0 ns;have c15:cutD (ns.map D.int) none (some 15)=(ns.take 15).map D.int:=by rw[List.map_take];exact b1h 15
 have l15:=l0 (ns.take 15);have lt15:(ns.take 15).length<=999999:=by rw[length_take];walk_at "o"
 repeat(first|walk_at "z r" | simp only[ln,c15,l15,lt15,zH])
 generalize el:loopF _ _ _=r;refine a1w el (fun _ ρ=>∃x1 x2 x3 x4 x5 x6 x7 x8:Option W,ρ=[some (.v (.lst (ns.map .int))),x1,x2,x3,x4,x5,x6,x7,x8]/\freeO x1=true/\freeO x2=true/\freeO x3=true/\freeO x4=true/\freeO x5=true/\freeO x6=true/\freeO x7=true/\freeO x8=true) ⟨none,none,none,none,none,none,none,none,rfl,rfl,rfl,rfl,rfl,rfl,rfl,rfl,rfl⟩ ?_ ?_
 ·rintro d x _ hx _ ⟨x1,x2,x3,x4,x5,x6,x7,x8,rfl,f1,f2,f3,f4,f5,f6,f7,f8⟩;obtain⟨c,rfl⟩:∃c:Int,x= .int c:=by
   rcases jB.mp hx with hx|hx
   ·obtain⟨c,_,rfl⟩:=qG.mp hx;exact⟨c,rfl⟩
   ·exact⟨_,zS.mp hx⟩
  clear hx;obtain⟨ms0,hN,eN⟩:=D2 c 70 (by decide) (by decide)
  have c4:cutD (ms0.map D.int) (some 4) none=(ms0.drop 4).map D.int:=by rw[List.map_drop];exact b1C 4
  have l4:=l0 (ms0.drop 4);have lm0:=l0 ms0;have hNl:ms0.length=70:=hN.len;obtain⟨n,ts,hW,hts,eW⟩:=R5 (ms0.drop 4) (by rw[length_drop];walk_at "o") (by rw[length_drop];walk_at "o") fun y hy=>(hN.rg y (mem_of_mem_drop hy)).1
  have pw:CPow 10 20:=by decide
  have e20:(10:Int)^(20:Int).toNat=100000000000000000000:=by decide +kernel
  have hn:=hW.ok.n1;obtain⟨ms,M,eP⟩:=a0p n ts hW.ok;have h8:n.toNat<=8:=by walk_at "o"
  have rn:(-(2^62:Int)<=n/\n<2^62):=by walk_at "o"
  have lw:lf (webD n ts)=true:=by
   show(true&&(lfL (ts.map tieD)&&true))=true;rw[P5];rfl
  repeat(first|walk_at "z r" | simp only[f1,f2,f3,f4,f5,f6,f7,f8,eN,pw,e20,c4,l4,lm0,eW,lw])
  have ix0:oIxG (webD n ts) (.int 0)=some (.v (.int n)):=rfl;have ix1:oIxG (webD n ts) (.int 1)=some (.v (.tup (ts.map tieD))):=rfl;have eL:sortK (ddK ((up n.toNat).map fun x=>partOf n.toNat ms (ms.getD x.toNat 0)))=(rootsOf ms).map fun r=>partOf n.toNat ms r:=a5C M h8;have eS:gSST (.lst (((up n.toNat).map fun x=>partOf n.toNat ms (ms.getD x.toNat 0)).map tupI))=some (.o (.lst (((rootsOf ms).map fun r=>partOf n.toNat ms r).map tupI))):=by
   rw[o_SST (by rw[zH,a2d];walk_at "o") fun k hk=>?_,eL]
   obtain⟨x,hx,rfl⟩:=qG.mp hk;exact List.ne_nil_of_mem (jP.mpr ⟨hx,by simp⟩)
  have lL:((rootsOf ms).map fun r=>partOf n.toNat ms r).length<=8:=by rw[zH];exact a14 ms
  have fL:=U8 ((rootsOf ms).map fun r=>partOf n.toNat ms r);have dL:deqL (deq 19) (((rootsOf ms).map fun r=>partOf n.toNat ms r).map tupI) (((rootsOf ms).map fun r=>partOf n.toNat ms r).map tupI)=some true:=a5L (m:=18) _;generalize (rootsOf ms).map (fun r=>partOf n.toNat ms r)=Lp at *;have il:oIsi "list" (.lst (Lp.map tupI))=some (.v (.bl true)):=a9W rfl;rw[v3 (ρ1:=[some (.v (.lst (ns.map .int))),some (.v (.int c)),some (.o (.lst (ms0.map .int))),some (.v (webD n ts)),x4,x5,x6,x7,x8]) (xs:=rngD 0 n.toNat) (fun B=>∃o:Option D,B=[o.map .v,some (.v (webD n ts))]) (fun _=>true) (dueH n.toNat ms)]
  ·rw[a4q]
   repeat(first|walk_at "z r" | simp only[f4,f5,eS,fL,eP,il,dL])
   rw[v3 (ρ1:=[some (.v (.lst (ns.map .int))),some (.v (.int c)),some (.o (.lst (ms0.map .int))),some (.v (webD n ts)),some (.o (.lst (Lp.map tupI))),some (.o (.lst (Lp.map tupI))),x6,x7,x8]) (xs:=Lp.map tupI) (fun B=>∃o:Option D,B=[o.map .v]) (fun _=>true) (fun _=>.bl true)]
   ·have at2:=a84 (Lp.map tupI);have lk:Lp.length<1000000:=by walk_at "o"
    rw[v5]
    repeat(first|walk_at "z r" | simp only[at2,lk,eP,fL,dL,ix0,rn,zH])
    generalize el2:loopF _ _ _=r2;obtain⟨y6,y7,y8,g6,g7,g8,rfl⟩:∃y6 y7 y8:Option W,freeO y6=true/\freeO y7=true/\freeO y8=true/\r2=some (.nx [some (.v (.lst (ns.map .int))),some (.v (.int c)),some (.o (.lst (ms0.map .int))),some (.v (webD n ts)),some (.o (.lst (Lp.map tupI))),some (.o (.lst (Lp.map tupI++[.tup []]))),y6,y7,y8]):=by
     refine a1w el2 (fun _ ρ=>∃y6 y7 y8:Option W,freeO y6=true/\freeO y7=true/\freeO y8=true/\ρ=[some (.v (.lst (ns.map .int))),some (.v (.int c)),some (.o (.lst (ms0.map .int))),some (.v (webD n ts)),some (.o (.lst (Lp.map tupI))),some (.o (.lst (Lp.map tupI++[.tup []]))),y6,y7,y8]) ⟨x6,x7,x8,f6,f7,f8,rfl⟩ ?_ ?_
     ·rintro d x _ hx _ ⟨y6,y7,y8,g6,g7,g8,rfl⟩;obtain⟨p,rfl,hp0,hp1⟩:=a2D hx;have hp2:p<n:=by walk_at "o"
      have ew:=Y2 n ts p (by walk_at "o") hp0 hp2
      have hW2:=hW.off (offP p);have ei:=a1a n _ hW2;obtain⟨ms2,M2,eP2⟩:=a0p n _ (a4s hW.ok (offP p));have lone:=a5T M2 h8 hp0 (by walk_at "o") (fun t ht=>by have:=hW2.ok.t t ht;walk_at "o") fun t ht=>by
       have:=(jP.mp ht).2
       unfold offP at this;simp only[Bool.not_eq_true',Bool.or_eq_false_iff,beq_eq_false_iff_ne] at this;exact⟨qM this.1,qM this.2⟩
      have it2:oInG true (.tup [.int p]) (.lst (((rootsOf ms2).map fun r=>partOf n.toNat ms2 r).map tupI))=some (.v (.bl false)):=by
       rw[a90 (ns:=[p]) rfl (Q9 _),zP lone];rfl
      have lw2:lf (webD n (ts.filter (offP p)))=true:=by
       show(true&&(lfL ((ts.filter (offP p)).map tieD)&&true))=true;rw[P5];rfl
      have dW:deq 20 (webD n (ts.filter (offP p))) (.tup [.int n,.tup ((ts.filter (offP p)).map tieD)])=some true:=a9f (m:=17) n _;have om:=a4o p ts;have lt2:=P5 (ts.filter (offP p));have fL2:=U8 ((rootsOf ms2).map fun r=>partOf n.toNat ms2 r)
      repeat(first|walk_at "z r" | simp only[g6,g7,g8,ew,lw2,ix1])
      rw[v3 (ρ1:=[some (.v (.lst (ns.map .int))),some (.v (.int c)),some (.o (.lst (ms0.map .int))),some (.v (webD n ts)),some (.o (.lst (Lp.map tupI))),some (.o (.lst (Lp.map tupI++[.tup []]))),some (.v (.int p)),some (.v (webD n (ts.filter (offP p)))),y8]) (xs:=ts.map tieD) (fun B=>∃o:Option D,B=[o.map .v,some (.v (.int p))]) (offD p) id]
      ·rw[om]
       repeat(first|walk_at "z r" | simp only[g8,lt2,ix0,dW,ei,eP2,it2,fL2])
       exact⟨_,rfl,some _,some _,some _,rfl,rfl,rfl,rfl⟩
      ·repeat(first|walk_at "z r" | simp only[ix1])
      ·rintro _ ⟨_,rfl⟩;rfl
      ·exact⟨none,rfl⟩
      ·rw[zH];unfold lim;walk_at "o"
      ·rw[om];exact lt2
      ·rintro x hx _ zs ⟨o,rfl⟩;obtain⟨t,ht,rfl⟩:=qG.mp hx;have oi:=a8s p t.1 t.2.1;refine⟨[some (.v (tieD t)),some (.v (.int p))],.v (tieD t),⟨some _,rfl⟩,?_,?_,fun _=>⟨?_,.inl rfl⟩⟩
       ·walk_at "q"
       ·rw[show offD p (tieD t)=(!(p==t.1||p==t.2.1)) from rfl,show tieD t= .tup [.int t.1,.int t.2.1,.int t.2.2] from rfl]
        repeat(first|walk_at "z r" | simp only[a38,oi])
       ·walk_at "q"
     ·rintro _ rfl ⟨y6,y7,y8,g6,g7,g8,rfl⟩;exact⟨y6,y7,y8,g6,g7,g8,rfl⟩
    have a0:=Q1 (ns:=ms0) (i:=0) (by decide) (by walk_at "o")
    have a1:=Q1 (ns:=ms0) (i:=1) (by decide) (by walk_at "o")
    have p0:0<=ms0.getD (Int.toNat 0) 0:=by
     cases ms0 with
     | nil=>simp at hNl
     | cons x r=>exact(hN.rg x zJ).1
    obtain⟨d,dx,dp,ed⟩:=A4 n ts (ms0.getD (Int.toNat 0) 0) (ms0.getD (Int.toNat 1) 0) hn.1 p0;have er:=C4 n ts d dx dp
    by_cases hlf:lf d=true
    ·repeat(first|walk_at "z r" | simp only[a0,a1,ed,hlf,er])
     exact⟨_,rfl,_,_,_,_,_,_,_,_,rfl,rfl,rfl,rfl,rfl,rfl,g6,g7,g8⟩
    ·have hlf':lf d=false:=by simpa using hlf
     repeat(first|walk_at "z r" | simp only[a0,a1,ed,hlf',er])
     exact⟨_,rfl,_,_,_,_,_,_,_,_,rfl,rfl,rfl,rfl,rfl,rfl,g6,g7,g8⟩
   ·repeat(first|walk_at "z r" | simp only[fL])
   ·rintro _ ⟨_,rfl⟩;rfl
   ·exact⟨none,rfl⟩
   ·rw[zH];unfold lim;walk_at "o"
   ·exact a3L _ _
   ·rintro x hx _ zs ⟨o,rfl⟩;obtain⟨k,_,rfl⟩:=qG.mp hx;have it:oIsi "tuple" (tupI k)=some (.v (.bl true)):=a0s rfl;refine⟨[some (.v (tupI k))],.v (.bl true),⟨some _,rfl⟩,?_,rfl,fun _=>⟨?_,.inl rfl⟩⟩
    ·walk_at "q"
    ·repeat(first|walk_at "z r" | simp only[it])
  ·repeat(first|walk_at "z r" | simp only[ix0,rn])
  ·rintro _ ⟨_,rfl⟩;rfl
  ·exact⟨none,rfl⟩
  ·rw[T6];unfold lim;walk_at "o"
  ·rw[a4q];exact U8 _
  ·rintro x hx _ zs ⟨o,rfl⟩;obtain⟨p,rfl,hp0,hp1⟩:=a2D hx;have ep:=M3 n ts ms p hW.ok M hp0 (by walk_at "o")
   have lfp:lf (tupI (partOf n.toNat ms (ms.getD p.toNat 0)))=true:=l0 _;refine⟨[some (.v (.int p)),some (.v (webD n ts))],.v (tupI (partOf n.toNat ms (ms.getD p.toNat 0))),⟨some _,rfl⟩,?_,rfl,fun _=>⟨?_,.inl rfl⟩⟩
   ·walk_at "q"
   ·repeat(first|walk_at "z r" | simp only[ep,lfp])
 ·rintro _ rfl ⟨x1,x2,x3,x4,x5,x6,x7,x8,rfl,_⟩;walk_at "q"
end
end Q10
namespace Q10
open PySem PySem.Spec PyProof.Rows L2 Z
structure DI (K:PySem.W.Frag) (x:Str) (st:Stmt) (f:Addr) (fd:FuncData):Prop where
 a:PySem.W.nsIn K mainGlobals x=some (some (.ref f))
 F:Fun K x x st f fd
theorem DI.mk2 {K:PySem.W.Frag}{x:Str}{st:Stmt}{f:Addr}{od an:Option Addr}{sl:Array (Option Value)}{oc kV dc pm cd ct:Value}(a:PySem.W.nsIn K mainGlobals x=some (some (.ref f)))(l:K.lookup f=some ⟨oc,od,.func (PySem.W.fnOf x x (defArgs st) (defBody st) (defScope st) .none kV dc pm an cd ct),sl⟩)(c:PySem.W.codeIn K cd x=true)(k:PySem.W.keepIn K (.ref f)=true):DI K x st f (PySem.W.fnOf x x (defArgs st) (defBody st) (defScope st) .none kV dc pm an cd ct):=⟨a,a8u l c k⟩
section
variable {P:Program}{w:World}{K:PySem.W.Frag}{mg:Str->Option Value}{base:Heap}{x:Str}{j k:Nat}
theorem _root_.Z.FnS.up {sp:Sp}(F:FnS P w K mg base x j sp)(h:j<=k:=by decide):FnS P w K mg base x k sp:=F.mono h
theorem _root_.Z.FnR.up {g:List D->Option Addr}(F:FnR P w K mg base x j g)(h:j<=k:=by decide):FnR P w K mg base x k g:=F.mono h
end
theorem b1N {l:PySem.W.OpenLaw}{w:World}{K:PySem.W.Frag}{h:Heap}{mg:Str->Option Value}{fa f1 f2 f3 f4 f5 f6 f7 f8 f9 f10 f11 f12 f13 f14 f15 f16 f17 f18:Addr}{d1 d2 d3 d4 d5 d6 d7 d8 d9 d10 d11 d12 d13 d14 d15 d16 d17:FuncData}(X:K.In h)(G:h.Ns mainGlobals mg)(hfa:mg "law"=some (.ref fa))
  {od an:Option Addr} {sl:Array (Option Value)} {oc kV dc pm cd ct:Value}
  (i1:DI K "_law_mixed" J7 f1 d1) (i2:DI K "_law_numbers" C7 f2 d2) (i3:DI K "_law_two_of" E8 f3 d3) (i4:DI K "_law_gain" N9 f4 d4) (i5:DI K "_law_web" S9 f5 d5) (i6:DI K "parts" a2e f6 d6) (i7:DI K "is_whole" R8 f7 d7) (i8:DI K "is_person" N4 f8 d8) (i9:DI K "without" Q2 f9 d9) (i10:DI K "_law_refused" D4 f10 d10) (i11:DI K "_law_no_person" B3 f11 d11) (i12:DI K "_law_part" O0 f12 d12) (i13:DI K "is_rising" N8 f13 d13) (i14:DI K "is_row" a0M f14 d14) (i15:DI K "is_people" M9 f15 d15) (i16:DI K "is_triple" L3 f16 d16) (i17:DI K "is_web" a0D f17 d17)
  (a:PySem.W.nsIn K mainGlobals "law"=some (some (.ref f18))) (ll:K.lookup f18=some ⟨oc,od,.func (PySem.W.fnOf "law" "law" (defArgs T9) (defBody T9) (defScope T9) .none kV dc pm an cd ct),sl⟩) (c:PySem.W.codeIn K cd "law"=true) (k:PySem.W.keepIn K (.ref f18)=true)
   {uTwainError uNoParty uNoWeb uTwice uNoPerson:Addr}(y1:PySem.W.nsIn K mainGlobals "range"=some none) (y2:PySem.W.nsIn K mainGlobals "min"=some none) (y3:PySem.W.nsIn K mainGlobals "tuple"=some none) (y4:PySem.W.nsIn K mainGlobals "max"=some none) (y5:PySem.W.nsIn K mainGlobals "sorted"=some none) (y6:PySem.W.nsIn K mainGlobals "list"=some none) (y7:PySem.W.nsIn K mainGlobals "set"=some none) (y8:PySem.W.nsIn K mainGlobals "isinstance"=some none) (y9:PySem.W.nsIn K mainGlobals "int"=some none) (y10:PySem.W.nsIn K mainGlobals "bool"=some none) (y11:PySem.W.nsIn K mainGlobals "ValueError"=some none) (y12:PySem.W.nsIn K mainGlobals "all"=some none) (y13:PySem.W.nsIn K mainGlobals "zip"=some none) (y14:PySem.W.nsIn K mainGlobals "len"=some none) {gt1:Tok} (n1:PySem.W.nsIn K mainGlobals "MOST_PEOPLE"=some (some (.int (8) gt1))) {gt2:Tok} (n2:PySem.W.nsIn K mainGlobals "MOST_GAIN"=some (some (.int (1000000000000) gt2))) (x1:PySem.W.nsIn K mainGlobals "TwainError"=some (some (.ref uTwainError))) (x2:PySem.W.nsIn K mainGlobals "NoParty"=some (some (.ref uNoParty))) (x3:PySem.W.nsIn K mainGlobals "NoWeb"=some (some (.ref uNoWeb))) (x4:PySem.W.nsIn K mainGlobals "Twice"=some (some (.ref uTwice))) (x5:PySem.W.nsIn K mainGlobals "NoPerson"=some (some (.ref uNoPerson))) (x6:PySem.W.excIn K uNoPerson bmV nwV=true) (x7:PySem.W.kitAny K (.ref uNoPerson) [.ref uNoParty,.ref uNoWeb,.ref uTwice]=some false) (x8:PySem.W.kitOne K (.ref uNoPerson) (.ref uNoPerson)=some true) (x9:PySem.W.kitOne K (.ref uNoPerson) (.type "ValueError")=some true) (x10:PySem.W.exmOne K (.ref uNoPerson) (.ref uTwainError)=some true) (x11:PySem.W.mroIn K uNoPerson (.type "object")=some true) (x12:PySem.W.mroIn K uNoPerson (.type "BaseException")=some true) (x13:PySem.W.findIn K (.ref uNoPerson) "__class__"=some (some (.builtin "object.__class__"))) (x14:PySem.W.findIn K (.ref uNoPerson) "__getattribute__"=some (some (.builtin "BaseException.__getattribute__"))) (x15:PySem.W.findIn K (.ref uNoPerson) "__getattr__"=some none):
  ∃fd:FuncData,(∀(s:Shared) (v:Value),BindsTo s fd ⟨[v],[]⟩ [("script",v)])/\∀base:Heap,K.In base->base.Ns mainGlobals mg->FnOk l.prog w K mg base CX0 60 fa fd ["script"] (spLaw K):=by
 cases hfa.symm.trans (zY X G a);have p9:=qO X G y1;have m_min:=qO X G y2;have k8:=qO X G y3;have m_max:=qO X G y4;have u5:=qO X G y5;have X1:=qO X G y6;have m_set:=qO X G y7;have g5:=qO X G y8;have m_int:=qO X G y9;have a3W:=qO X G y10;have J5:=qO X G y11;have m_all:=qO X G y12;have m_zip:=qO X G y13;have m_len:=qO X G y14;have E6:Q6 mg K:=⟨_,zY X G n1⟩;have M4:a0b mg K:=⟨_,zY X G n2⟩;have K0:=zY X G x1;have Y8:=zY X G x2;have a2P:=zY X G x3;have a2u:=zY X G x4;have A5:=zY X G x5;have hxc:ExcC K uNoPerson:=⟨x11,x12,x13,x14,x15⟩;refine⟨PySem.W.fnOf "law" "law" (defArgs T9) (defBody T9) (defScope T9) .none kV dc pm an cd ct,fun s v=>.of_eq rfl,fun base _ _=>?_⟩;obtain⟨J1,J6,G8⟩:=a1f (P:=l.prog) (w:=w) (base:=base) (k:=0) i1.F (i1.F.binds (ps:=["cell","k"]) fun _ _ _ _ _ _ us hl=>us2 hl fun _ _=>rfl) (zY X G i1.a);obtain⟨D6,D5,D2⟩:=a0h (P:=l.prog) (w:=w) (base:=base) (k:=1) J6.up G8 p9 i2.F (i2.F.binds (ps:=["cell","many","base"]) fun _ _ _ _ _ _ us hl=>us3 hl fun _ _ _=>rfl) (zY X G i2.a);obtain⟨E9,E7,E4⟩:=a0F (P:=l.prog) (w:=w) (base:=base) (k:=0) m_min i3.F (i3.F.binds (ps:=["people","kind","one","other"]) fun _ _ _ _ _ _ us hl=>us4 hl fun _ _ _ _=>rfl) (zY X G i3.a);obtain⟨M8,L9,O1⟩:=a2O (P:=l.prog) (w:=w) (base:=base) (k:=0) i4.F (i4.F.binds (ps:=["way","number"]) fun _ _ _ _ _ _ us hl=>us2 hl fun _ _=>rfl) (zY X G i4.a);obtain⟨R7,S4,R5⟩:=a3r (P:=l.prog) (w:=w) (base:=base) (k:=1) E7.up E4 L9.up O1 p9 k8 m_min m_max u5 i5.F (i5.F.binds (ps:=["numbers"]) fun _ _ _ _ _ _ us hl=>us1 hl fun _=>rfl) (zY X G i5.a);obtain⟨a2N,V1,a0p⟩:=a6T (P:=l.prog) (w:=w) (base:=base) (k:=0) X1 p9 k8 m_min m_max u5 m_set i6.F (i6.F.binds (ps:=["web"]) fun _ _ _ _ _ _ us hl=>us1 hl fun _=>rfl) (zY X G i6.a);obtain⟨p6,u4,t9⟩:=a3x (P:=l.prog) (w:=w) (base:=base) (k:=0) g5 m_int a3W i7.F (i7.F.binds (ps:=["thing"]) fun _ _ _ _ _ _ us hl=>us1 hl fun _=>rfl) (zY X G i7.a);obtain⟨q8,n8,n9⟩:=a2n (P:=l.prog) (w:=w) (base:=base) (k:=1) u4.up t9 i8.F (i8.F.binds (ps:=["people","thing"]) fun _ _ _ _ _ _ us hl=>us2 hl fun _ _=>rfl) (zY X G i8.a);have F9:=i9.F;have b9:=F9.binds (ps:=["web","person"]) fun _ _ _ _ _ _ us hl=>us2 hl fun _ _=>rfl;have m9:=zY X G i9.a;obtain⟨F1,C1,Y2⟩:=a3R (P:=l.prog) (w:=w) (base:=base) (k:=2) n8.up n9 k8 i9.F (i9.F.binds (ps:=["web","person"]) fun _ _ _ _ _ _ us hl=>us2 hl fun _ _=>rfl) (zY X G i9.a);obtain⟨b1z,W9,R0⟩:=a2X (P:=l.prog) (w:=w) (base:=base) (k:=2) (n8.mono (k:=2) (by decide)) n9 A5 x6 F9 b9 m9
 have F10:=i10.F;have b10:=F10.binds (ps:=["web","thing"]) fun _ _ _ _ _ _ us hl=>us2 hl fun _ _=>rfl;have m10:=zY X G i10.a;obtain⟨C5,D1,C4⟩:=a0j (P:=l.prog) (w:=w) (base:=base) (k:=3) (C1.mono (k:=3) (by decide)) (W9.mono (k:=3) (by decide)) R0 g5 J5 K0 A5 Y8 a2P a2u x7 x8 x9 x10 hxc F10 b10 m10
 obtain⟨B4,A9,A4⟩:=U5 (P:=l.prog) (w:=w) (base:=base) (k:=0) i11.F (i11.F.binds (ps:=["web","far","number"]) fun _ _ _ _ _ _ us hl=>us3 hl fun _ _ _=>rfl) (zY X G i11.a);obtain⟨K9,K7,M3⟩:=a2y (P:=l.prog) (w:=w) (base:=base) (k:=0) p9 k8 u5 i12.F (i12.F.binds (ps:=["web","person"]) fun _ _ _ _ _ _ us hl=>us2 hl fun _ _=>rfl) (zY X G i12.a);obtain⟨N1,M1,L8⟩:=a2q (P:=l.prog) (w:=w) (base:=base) (k:=0) m_all m_zip i13.F (i13.F.binds (ps:=["row"]) fun _ _ _ _ _ _ us hl=>us1 hl fun _=>rfl) (zY X G i13.a);obtain⟨F6,F7,G2⟩:=a6p (P:=l.prog) (w:=w) (base:=base) (k:=0) g5 k8 m_len i14.F (i14.F.binds (ps:=["thing","count"]) fun _ _ _ _ _ _ us hl=>us2 hl fun _ _=>rfl) (zY X G i14.a);obtain⟨M5,M0,N6⟩:=a2L (P:=l.prog) (w:=w) (base:=base) (k:=1) u4.up t9 E6 i15.F (i15.F.binds (ps:=["thing"]) fun _ _ _ _ _ _ us hl=>us1 hl fun _=>rfl) (zY X G i15.a);obtain⟨O3,O5,N0⟩:=a2J (P:=l.prog) (w:=w) (base:=base) (k:=2) F7.up G2 u4.up t9 n8.up n9 M4 i16.F (i16.F.binds (ps:=["people","thing"]) fun _ _ _ _ _ _ us hl=>us2 hl fun _ _=>rfl) (zY X G i16.a);obtain⟨a0S,a02,a1a⟩:=a50 (P:=l.prog) (w:=w) (base:=base) (k:=3) M1.up L8 F7.up G2 M0.up N6 O5.up N0 m_all g5 k8 i17.F (i17.F.binds (ps:=["thing"]) fun _ _ _ _ _ _ us hl=>us1 hl fun _=>rfl) (zY X G i17.a);exact b1c (P:=l.prog) (w:=w) (base:=base) (k:=59) D5.up D2 S4.up R5 V1.up a0p C1.up Y2 D1.up C4 A9.up A4 K7.up M3 a02.up a1a u5 p9 m_len m_set k8 g5 X1 m_all (a8u (st:=T9) ll c k)
end Q10
open PySem PySem.W PyProof.Rows
namespace PySem.W.Fast
def tw7468627371714453768:=()
def tw4675437759090151063:=()
def tw10277800137345776534:=()
def tw3630747241451447626:=()
def tw9708517252391707666:=()
def tw14382031837908271592:=()
def tw1031103525801017674:=()
def tw2731469034131105058:=()
def tw3466754515061159942:=()
def tw6829022615454444831:=()
def tw17405927886207814574:=()
def tw11404499903917430908:=()
def tw8438758139991389584:=()
def tw4343310826124453428:=()
def tw18325112163699906551:=()
def tw3260113061012881866:=()
def tw1365083003166370492:=()
def tw16286178682639349472:=()
def tw3436573507760357589:=()
def tw15302659062217507575:=()
def tw3082135598969235806:=()
def tw14365749007485736193:=()
def tw8213743571913946134:=()
def tw1618727157418313785:=()
def tw8773635569722001312:=()
def tw4097089196192541979:=()
def tw1458470064901117778:=()
def tw12389852818589898261:=()
def tw17517848089782339604:=()
def tw10463178825611322122:=()
def tw10699710491488107901:=()
def tw13782698036082990351:=()
def tw4788411983758218417:=()
def tw14172165680594144218:=()
def tw3781434607674084252:=()
def tw5196029979980091676:=()
def tw15592359277684179183:=()
def tw989407307419219144:=()
def tw4616756910529509147:=()
def tw6868083269629189370:=()
def tw10037226781903447885:=()
def tw11241449691214427928:=()
def tw12069271972647092353:=()
def tw13477729810988468135:=()
def tw3517913186914782114:=()
def tw15940153714678713622:=()
def tw8773969416460744677:=()
def tw7122121998862668906:=()
def tw6592546458035129939:=()
def tw5460169586541308376:=()
def tw9806775025666224863:=()
def tw13103587876367867172:=()
def tw15677171633646036101:=()
def tw8572739501271097005:=()
def tw6963759236688697983:=()
def tw11448440319747443974:=()
def tw863968757999639650:=()
def tw14206035095902445443:=()
def tw13424537467454415047:=()
def tw4535793028108731737:=()
def tw4214715283631552251:=()
def tw517813281655129135:=()
def tw1615208018706381415:=()
def tw15431540742246958985:=()
def tw11752128675419140250:=()
def tw14613804647548256875:=()
def tw5931139288955404062:=()
def tw6668941949293001633:=()
def tw16630354710173498860:=()
def tw6062488010566352174:=()
def tw1024777046379305906:=()
def tw9742909117608618179:=()
def tw4846740370701749340:=()
def tw8775438936964061571:=()
def tw15176861409986071196:=()
def tw16893307853609817731:=()
def tw5372106478667872287:=()
def tw2993068383829682205:=()
def tw1895567755609941287:=()
def tw16183842592720503135:=()
end PySem.W.Fast
set_option maxRecDepth 100000 in
set_option maxHeartbeats 0 in
theorem PySem.Challenge.cw_twainhoard_k10_parts_and_without_holds : PySem.Challenge.rw_twainhoard_k10_parts_and_without.Holds := by
 w_on;o_law;k_head;(case hw=>w_witness2)
 k_fill
 refine Z.walk (l:=PySem.Challenge.rw_twainhoard_k10_parts_and_without) rfl rfl (fun w h Y=>PySem.W.kIn_of Y) ?F
 case F=>
  intro w mg fa h KX G hmg
  refine' Q10.b1N KX G hmg (Q10.DI.mk2 ?_ ?_ ?_ ?_) (Q10.DI.mk2 ?_ ?_ ?_ ?_) (Q10.DI.mk2 ?_ ?_ ?_ ?_) (Q10.DI.mk2 ?_ ?_ ?_ ?_) (Q10.DI.mk2 ?_ ?_ ?_ ?_) (Q10.DI.mk2 ?_ ?_ ?_ ?_) (Q10.DI.mk2 ?_ ?_ ?_ ?_) (Q10.DI.mk2 ?_ ?_ ?_ ?_) (Q10.DI.mk2 ?_ ?_ ?_ ?_) (Q10.DI.mk2 ?_ ?_ ?_ ?_) (Q10.DI.mk2 ?_ ?_ ?_ ?_) (Q10.DI.mk2 ?_ ?_ ?_ ?_) (Q10.DI.mk2 ?_ ?_ ?_ ?_) (Q10.DI.mk2 ?_ ?_ ?_ ?_) (Q10.DI.mk2 ?_ ?_ ?_ ?_) (Q10.DI.mk2 ?_ ?_ ?_ ?_) (Q10.DI.mk2 ?_ ?_ ?_ ?_) ?_ ?_ ?_ ?_ ?_ ?_ ?_ ?_ ?_ ?_ ?_ ?_ ?_ ?_ ?_ ?_ ?_ ?_ ?_ ?_ ?_ ?_ ?_ ?_ ?_ ?_ ?_ ?_ ?_ ?_ ?_ ?_ ?_ ?_ ?_
  all_goals try k_is
  all_goals first | k_exc | kit_is | kts_exm
