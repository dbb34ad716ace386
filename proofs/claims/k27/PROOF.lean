import PyProof.Rows.All
import Wide.All
import OpenK.AllK
import Wide.FinOn
import Lean
import PyProof.EqAt
import PyProof.EqKinds
import PyProof.TupleCall
import PyProof.CompUse
import PyProof.SumWalkG
import KE.KSort
import PyProof.EnumMake
import PyProof.Rows.ZipGen
import PyProof.Rows.RuleDivmod
import PyProof.ListRange
import KE.KDictSum
import KE.KSortTup
import PyProof.DictCompW
import PyProof.ListMulAny
import PyProof.ReprRoads
import PyProof.FitsInt
import PyProof.AutoListH
import PyProof.Rows.MinMaxN
import PySem.Challenge.RW_twainhoard_k27_covers_known
set_option Elab.async false
set_option compiler.extract_closed false
set_option genSizeOf false
set_option genInjectivity false
set_option bootstrap.genMatcherCode false
set_option linter.all false
set_option maxRecDepth 100000
theorem ex5 {α β:Type}{A B C:α->β->Prop}{G:Prop}(h:∃x y,A x y/\B x y/\C x y)(k:∀x y,A x y->B x y->C x y->G):G:=by
 obtain ⟨x,y,a,b,c⟩:=h;exact k x y a b c
open List (mem_filterMap filterMap_cons set_comm nodup_cons of_mem_zip length_take length_replicate zip_nil_left length_drop map_nil all_cons any_cons reverse_cons append_assoc find?_cons all_map getElem?_eq_getElem getElem_mem take_length nil_append length_mapIdx getElem_map nodup_append cons_append isEmpty_nil sum_append map_set mem_flatMap filter_map map_id)
open Option (isSome_iff_exists getD_none isSome_map bind_some toList_some)
open PySem.Heap (size_push)
abbrev zA:=@PySem.wpAny_bind
abbrev zB:=@Nat.lt_of_lt_of_le
abbrev zC:=@PySem.wpAny_pure
abbrev zD:=@List.length_map
abbrev zE:=@Nat.le_refl
abbrev zF:=@PySem.Heap.get?_push_of_some
abbrev zG:=@PySem.wpAny_mono
abbrev zH:=@List.mem_cons_self
abbrev zI:=@List.mem_cons_of_mem
abbrev zJ:=@List.getElem?_eq_some_iff
abbrev zK:=@List.map_cons
abbrev zL:=@List.getD_eq_getElem?_getD
abbrev zM:=@PySem.W.mg_of
abbrev zN:=@Nat.ne_of_lt
abbrev zO:=@List.getElem?_set_ne
abbrev zP:=@List.mem_append_right
abbrev zQ:=@Bool.false_ne_true
abbrev zR:=@List.size_toArray
abbrev zS:=@List.mem_cons
abbrev zT:=@List.length_append
abbrev zU:=@List.mem_singleton
abbrev zV:=@PySem.Heap.lt_size
abbrev zW:=@List.mem_map
abbrev zX:=@PySem.PassesOwn.never
abbrev zY:=@Nat.le_trans
abbrev zZ:=@List.getElem?_eq_getElem
abbrev qA:=@List.getElem?_map
abbrev qB:=@PySem.Heap.get?_push_size
abbrev qC:=@List.getElem?_append_left
abbrev qD:=@Nat.pow_le_pow_right
abbrev qE:=@decide_eq_true
abbrev qF:=@List.map_append
abbrev qG:=@List.map_map
abbrev qH:=@PySem.wpAny_newObj_type
abbrev qI:=@List.length_cons
abbrev qJ:=@List.getElem?_append_right
abbrev qK:=@decide_eq_false
abbrev qL:=@List.length_set
abbrev qM:=@Int.toNat_natCast
abbrev qN:=@PySem.W.mg_none_of
abbrev qO:=@Ne.symm
abbrev qP:=@List.getElem?_cons_succ
abbrev qQ:=@if_true
abbrev qR:=@Option.some.inj
abbrev qS:=@Nat.lt_irrefl
abbrev qT:=@PyProof.Rows.slot_tuple_getitem
abbrev qU:=@PySem.wpAny_callSpecial?_slot
abbrev qV:=@List.sum_cons
abbrev qW:=@List.mem_filter
abbrev qX:=@Bool.false_eq_true
abbrev qY:=@Int.natAbs_natCast
abbrev qZ:=@Option.map_some
abbrev jA:=@PySem.wpAny_call_entry
abbrev jB:=@Array.length_toList
abbrev jC:=@List.mem_append
abbrev jD:=@PySem.wpAny_holding
abbrev jE:=@List.map_congr_left
abbrev jF:=@PyProof.Rows.callWith_type1
abbrev jG:=@PySem.wpAny_standAt
abbrev jH:=@Bool.and_eq_true
abbrev jI:=@List.getElem?_eq_none
abbrev jJ:=@PySem.wpAny_field
abbrev jK:=@Nat.zero_le
abbrev jL:=@PySem.F.slot_dict_keyiterator_next
abbrev jM:=@decide_eq_true_eq
abbrev jN:=@List.all_eq_true
abbrev jO:=@List.zip_cons_cons
abbrev jP:=@List.length_nil
abbrev jQ:=@List.length_singleton
abbrev jR:=@Nat.mul_lt_mul''
abbrev jS:=@Array.getElem?_toList
abbrev jT:=@PySem.sizeLine_eq
abbrev jU:=@List.mem_append_left
abbrev jV:=@List.mem_of_getElem?
abbrev jW:=@if_false
abbrev jX:=@List.append_assoc
abbrev jY:=@List.drop_eq_getElem_cons
abbrev jZ:=@PySem.W.kia_one
abbrev xB:=@Nat.sub_self
abbrev xC:=@PyProof.Rows.KeyOrd.kle_refl
abbrev xD:=@PySem.AutoSeq1.wpAny_loadPart'
abbrev xE:=@List.mem_range
abbrev xF:=@PySem.wpAny_typeNameOfWhole_keyiter
abbrev xG:=@List.not_mem_nil
abbrev xH:=@Array.getElem?_eq_none
abbrev xI:=@PyProof.Rows.assignInOrder_cons
abbrev xJ:=@List.flatten_cons
abbrev xK:=@Nat.lt_of_le_of_lt
abbrev xL:=@List.pairwise_map
abbrev xN:=@PySem.wpAny_passesOwn
abbrev xP:=@of_decide_eq_true
abbrev xQ:=@List.replicate_succ
abbrev xR:=@List.getElem?_range
abbrev xS:=@Int.natAbs_mul
abbrev xT:=@List.ext_getElem?
abbrev xU:=@Nat.lt_succ_self
abbrev xV:=@PySem.wpAny_comprehension_free
abbrev xW:=@PySem.wpAny_typeNameOf_keyiter
abbrev xX:=@List.flatMap_cons
abbrev xY:=@beq_eq_false_iff_ne
abbrev xZ:=@PySem.mem_of_lookup
abbrev yA:=@Int.toNat_of_nonneg
abbrev yB:=@List.getElem?_cons_zero
abbrev yC:=@List.filter_cons_of_pos
abbrev yD:=@List.map_singleton
abbrev yE:=@List.append_nil
abbrev yF:=@PySem.wpAny_Call_Name_kw
abbrev yG:=@List.getElem?_replicate
abbrev yH:=@Bool.eq_iff_iff
abbrev yI:=@PySem.wpAny_setField_rec
abbrev yJ:=@PyProof.Rows.subscriptTail_builtinR
abbrev yK:=@List.lookup_cons
abbrev yL:=@List.getElem?_set_self
abbrev yM:=@PySem.wpAny_truthy_bool
abbrev yN:=@List.drop_eq_nil_of_le
abbrev yO:=@Nat.le_of_succ_le
abbrev yP:=@Nat.ne_of_gt
abbrev yQ:=@PySem.Heap.get?_update_ne
abbrev yR:=@PySem.F.slot_enumerate_next
noncomputable section
local macro_rules | `(tactic| walk_at "o") => `(tactic| first | lia | omega)
namespace L2
open PySem PySem.Spec PyProof.Rows
abbrev Key:=Sum Int Str
def keyIs:Key->Value->Bool
 | .inl k,v=>Value.isInt k v
 | .inr x,v=>Value.isStrOf x v
def keyH (w:World):Key->Int
 | .inl k=>hashInt k
 | .inr x=>hashStr w x
theorem r6:∀{k:Key} {v:Value},keyIs k v=true->(∃i t,k=Sum.inl i/\v=Value.int i t)\/(∃x t,k=Sum.inr x/\v=Value.str x t)
 | .inl i,v,h=>by
  obtain ⟨t,e⟩:=Value.isInt_shape (k:=i) (v:=v) h;exact .inl ⟨i,t,rfl,e⟩
 | .inr x,v,h=>by
  obtain ⟨t,e⟩:=Value.isStrOf_shape (x:=x) (v:=v) h;exact .inr ⟨x,t,rfl,e⟩
theorem a8r (i:Int)(t:Tok):keyIs (.inl i) (.int i t)=true:=by simp [keyIs,Value.isInt]
theorem a7S (x:Str)(t:Tok):keyIs (.inr x) (.str x t)=true:=by simp [keyIs,Value.isStrOf]
theorem b4x (a b:Int):decide ((Sum.inl a:Key)=Sum.inl b)=(a == b):=by
 by_cases e:a=b
 ·subst e;simp
 ·have h:¬(Sum.inl a:Key)=Sum.inl b:=fun q=>e (Sum.inl.inj q);rw [qK h];exact (xY.mpr e).symm
theorem b3U (a b:Str):decide ((Sum.inr a:Key)=Sum.inr b)=decide (a=b):=by
 by_cases e:a=b
 ·subst e;simp
 ·have h:¬(Sum.inr a:Key)=Sum.inr b:=fun q=>e (Sum.inr.inj q);rw [qK h,qK e]
theorem b4l (a:Int)(b:Str):decide ((Sum.inl a:Key)=Sum.inr b)=false:=qK (fun q=>nomatch q)
theorem b3S (a:Str)(b:Int):decide ((Sum.inr a:Key)=Sum.inl b)=false:=qK (fun q=>nomatch q)
def mixKind (prog:Program) (w:World):PySem.KeyKind prog w Key where
 is:=keyIs
 hash:=keyH w
 inj:=fun v a b ha hb=>by
  rcases r6 ha with ⟨i,t,rfl,rfl⟩ | ⟨x,t,rfl,rfl⟩
  ·rcases r6 hb with ⟨j,u,rfl,e⟩ | ⟨y,u,rfl,e⟩
   ·injection e with e1 _;rw [e1]
   ·exact nomatch e
  ·rcases r6 hb with ⟨j,u,rfl,e⟩ | ⟨y,u,rfl,e⟩
   ·exact nomatch e
   ·injection e with e1 _;rw [e1]
 byValue:=fun k v h=>by
  rcases r6 h with ⟨i,t,rfl,rfl⟩ | ⟨x,t,rfl,rfl⟩ <;> rfl
 pyHash:=fun hv h=>by
  rcases r6 hv with ⟨i,t,rfl,rfl⟩ | ⟨x,t,rfl,rfl⟩
  ·exact wpAny_pyHash_int h
  ·exact wpAny_pyHash_str h
 eqBool:=fun hu hv h=>by
  rcases r6 hu with ⟨i,t,rfl,rfl⟩ | ⟨x,t,rfl,rfl⟩
  ·rcases r6 hv with ⟨j,u,rfl,rfl⟩ | ⟨y,u,rfl,rfl⟩
   ·rw [b4x] at h;exact wpAny_eqBool_int h
   ·rw [b4l] at h;exact SeqAt.EqAt.int_str i t y u _ _ _ _ h
  ·rcases r6 hv with ⟨j,u,rfl,rfl⟩ | ⟨y,u,rfl,rfl⟩
   ·rw [b3S] at h;exact SeqAt.EqAt.str_int x t j u _ _ _ _ h
   ·rw [b3U] at h;exact wpAny_eqBool_str h
 «strs»:=fun k x t v h=>by
  rcases r6 h with ⟨i,u,rfl,e⟩ | ⟨y,u,rfl,e⟩
  ·exact nomatch e
  ·injection e with e1 _
   subst e1;cases v <;> rfl
theorem a49 (prog:Program)(w:World)(i:Int)(t:Tok):(mixKind prog w).is (.inl i) (.int i t)=true:=a8r i t
theorem a4M (prog:Program)(w:World)(x:Str)(t:Tok):(mixKind prog w).is (.inr x) (.str x t)=true:=a7S x t
inductive V where
 | non | bl (b:Bool) | int (i:Int) | str (x:Str) | byt (b:Array UInt8) | flt (b:UInt64) | ref (a:Addr) | ty (n:String)
def RelV:V->Value->Prop
 | .non,u=>u=Value.none
 | .bl b,u=>u=Value.bool b
 | .int i,u=>∃t,u=Value.int i t
 | .str x,u=>∃t,u=Value.str x t
 | .byt b,u=>∃t,u=Value.bytes b t
 | .flt b,u=>∃t,u=Value.float b t
 | .ref a,u=>u=Value.ref a
 | .ty n,u=>u=Value.type n
abbrev Vals:List V->List Value->Prop:=Paired RelV
theorem Vals.length {xs:List V}{us:List Value}(r:Vals xs us):xs.length=us.length:=Paired.length r
theorem Vals.get:∀{xs:List V} {us:List Value} {i:Nat} {x:V},Vals xs us->xs[i]? =some x->∃u,us[i]? =some u/\RelV x u
 | _,_,_,_,.nil,e=>by simp at e
 | _,_,0,_,.cons r _,e=>by simp at e;subst e;exact ⟨_,rfl,r⟩
 | _,_,i + 1,x,.cons _ t,e=>by
  obtain ⟨u,h1,h2⟩:=Vals.get (i:=i) (x:=x) t (by simpa using e)
  exact ⟨u,by simpa using h1,h2⟩
theorem Vals.set {x:V}{u:Value}(r:RelV x u):∀{xs:List V} {us:List Value} (i:Nat),Vals xs us->Vals (xs.set i x) (us.set i u)
 | _,_,_,.nil=>.nil
 | _,_,0,.cons _ t=>.cons r t
 | _,_,i + 1,.cons q t=>.cons q (Vals.set r i t)
theorem Vals.append:∀{xs ys:List V} {us ws:List Value},Vals xs us->Vals ys ws->Vals (xs ++ ys) (us ++ ws)
 | _,_,_,_,.nil,s=>s
 | _,_,_,_,.cons r t,s=>.cons r (Vals.append t s)
theorem Vals.take:∀{xs:List V} {us:List Value} (n:Nat),Vals xs us->Vals (xs.take n) (us.take n)
 | _,_,0,_=>.nil
 | _,_,_ + 1,.nil=>.nil
 | _,_,n + 1,.cons r t=>.cons r (Vals.take n t)
theorem Vals.drop:∀{xs:List V} {us:List Value} (n:Nat),Vals xs us->Vals (xs.drop n) (us.drop n)
 | _,_,0,r=>r
 | _,_,_ + 1,.nil=>.nil
 | _,_,n + 1,.cons _ t=>Vals.drop n t
def RelO:Option V->Option Value->Prop
 | some v,some u=>RelV v u
 | none,none=>True
 | _,_=>False
def KV {κ:Type}:List (κ×V)->List (κ×Value)->Prop:=Paired fun (p:κ×V) (q:κ×Value)=>p.1=q.1/\RelV p.2 q.2
def kV:Key->V
 | .inl i=>.int i
 | .inr x=>.str x
inductive HO where
 | lst (xs:List V)
 | tup (xs:List V)
 | dK (kvs:List (Key×V)) | dT (kvs:List (List Key×V))
 | set (S:Int->Bool) (n:Nat)
 | ins (C dx:Addr) (fs:List (Str×V))
 | own (x:Addr)
 | xd (fs:List (Str×V))
 | met (f x:Addr)
 | rng (lo hi:Int)
 | frz (o:Obj) (u:HO)
 | tbl (ps:Array Value)
 | ext (φ:Heap->Prop)
abbrev Hp:=Addr->Option HO
def upd (H:Hp) (a:Addr) (o:HO):Hp:=fun b=>if b=a then some o else H b
theorem m7 {H:Hp}{a:Addr}{o:HO}:upd H a o a=some o:=by unfold upd;rw [if_pos rfl]
theorem c7 {H:Hp}{a b:Addr}{o:HO}(h:b≠a):upd H a o b=H b:=by unfold upd;rw [if_neg h]
theorem ne_of {H:Hp}{a b:Addr}{o u:HO}(h:H a=some o)(h':H b=some u)(d:o≠u):a≠b:=by
 intro e;subst e;rw [h] at h';exact d (qR h')
theorem m6 {H:Hp}{a b:Addr}{o:HO}(h:H a=some o)(h':H b=none):a≠b:=by
 intro e;subst e;rw [h] at h';cases h'
def TupN (h:Heap) (a:Addr) (its:Array Value):Prop:=∃o,h.get? a=some o/\o.cls= .type "tuple"/\(∃n,o.data= .seq its n)/\o.dict=none
theorem TupN.is {h:Heap}{a:Addr}{its:Array Value}(x:TupN h a its):IsTup h a its:=let ⟨o,e,c,d,_⟩:=x;⟨o,e,c,d⟩
theorem TupN.new (h:Heap)(its:Array Value):TupN (h.push {cls:=.type "tuple",data:=.seq its}) h.objs.size its:=⟨_,qB _ rfl,rfl,⟨_,rfl⟩,rfl⟩
section
variable (P:Program)(w:World)
def ObjOk (H:Hp) (h:Heap) (a:Addr):HO->Prop
 | .lst xs=>xs.length<=sizeLine/\∃(its:List Value) (n:Nat),Vals xs its/\h.get? a=some {cls:=.type "list",data:=.seq its.toArray n}
 | .tup xs=>xs.length<=sizeLine/\∃its:List Value,Vals xs its/\TupN h a its.toArray
 | .dK kvs=>kvs.length<=sizeLine/\(a == sysModules)=false/\∃vs,KV kvs vs/\h.DictOf (mixKind P w) a vs
 | .dT kvs=>kvs.length<=sizeLine/\(a == sysModules)=false/\∃xs:List (List Key×Addr×Value),
   Paired (fun (p:List Key×V) (q:List Key×Addr×Value)=>p.1=q.1/\H q.2.1=some (.tup (p.1.map kV))/\RelV p.2 q.2.2) kvs xs/\
   ∃o es ep,h.get? a=some o/\o.ExactDict/\o.data= .dict es ep/\es.toList=xs.map (entryOfKey (tupleKind (mixKind P w)))/\(xs.map (·.1)).Nodup
 | .set S n=>h.SetOf (intKind P w) a S n
 | .ins C dx fs=>H dx=some (.own a)/\fs.length<=1000/\dx≠a/\h.get? a=some (PySem.W.instObj C dx)/\
   ∃mA,h.Ns1 dx mA/\(∀f,RelO (fs.lookup f) (mA f))/\PySem.Within mA (fs.map (·.1))
 | .own _=>∃o,h.get? a=some o
 | .xd fs=>∃mA,h.Ns1 a mA/\∀f,RelO (fs.lookup f) (mA f)
 | .rng lo hi=>∃t u v,h.get? a=some {cls:=.type "range",data:=.fields #[.int lo t,.int hi u,.int 1 v]}
 | .frz o u=>h.get? a=some o/\ObjOk H h a u
 | .tbl ps=>h.get? a=some {cls:=.none,data:=.fields ps}
 | .met f x=>h.get? a=some (PySem.W.methodObj (.ref f) (.ref x))
 | .ext φ=>φ h/\(∃o,h.get? a=some o)/\∀h1 h2:Heap,φ h1->(∀o,h1.get? a=some o->h2.get? a=some o)->φ h2
def HOk (H:Hp) (h:Heap):Prop:=∀a o,H a=some o->ObjOk P w H h a o
end
section
variable {P:Program}{w:World}{H H':Hp}{h h':Heap}{a:Addr}{o:HO}
theorem ObjOk.lt (x:ObjOk P w H h a o):a < h.objs.size:=by
 cases o with
 | lst xs=>obtain ⟨_,_,_,_,e⟩:=x;exact zV e
 | tup xs=>obtain ⟨_,_,_,p⟩:=x;exact p.is.lt
 | dK kvs=>obtain ⟨_,_,_,_,o,_,_,e,_⟩:=x;exact zV e
 | dT kvs=>obtain ⟨_,_,_,_,o,_,_,e,_⟩:=x;exact zV e
 | set S n=>obtain ⟨o,_,_,_,e,_⟩:=x;exact zV e
 | ins C dx fs=>obtain ⟨_,_,_,e,_⟩:=x;exact zV e
 | own y=>obtain ⟨_,e⟩:=x;exact zV e
 | xd fs=>obtain ⟨_,⟨_,_,_,e,_⟩,_⟩:=x;exact zV e
 | rng lo hi=>obtain ⟨_,_,_,e⟩:=x;exact zV e
 | frz ob u=>obtain ⟨e,_⟩:=x;exact zV e
 | tbl ps=>exact zV (show h.get? a=some _ from x)
 | met f y=>exact zV (show h.get? a=some _ from x)
 | ext φ=>obtain ⟨_,⟨_,e⟩,_⟩:=x;exact zV e
theorem Paired.mapP {α β:Type}{F G:α->β->Prop}:∀{l₁:List α} {l₂:List β},Paired F l₁ l₂->(∀a b,F a b->G a b)->Paired G l₁ l₂
 | _,_,.nil,_=>.nil
 | _,_,.cons r t,f=>.cons (f _ _ r) (Paired.mapP t f)
theorem ObjOk.stay (x:ObjOk P w H h a o)(k:∀b u,(b=a\/H b=some (.own a))->h.get? b=some u->h'.get? b=some u)
  (ho:∀b,H b=some (.own a)->H' b=some (.own a)) (ht:∀b xs,H b=some (.tup xs)->H' b=some (.tup xs)):ObjOk P w H' h' a o:=by
 induction o with
 | lst xs=>obtain ⟨z,its,n,r,e⟩:=x;exact ⟨z,its,n,r,k _ _ (.inl rfl) e⟩
 | tup xs=>obtain ⟨z,its,r,ob,e,c⟩:=x;exact ⟨z,its,r,ob,k _ _ (.inl rfl) e,c⟩
 | dK kvs=>obtain ⟨z,y,vs,r,ob,es,ep,e,c⟩:=x;exact ⟨z,y,vs,r,ob,es,ep,k _ _ (.inl rfl) e,c⟩
 | dT kvs=>
  obtain ⟨z,y,xs,r,ob,es,ep,e,c⟩:=x;exact ⟨z,y,xs,Paired.mapP r fun p q z=>⟨z.1,ht _ _ z.2.1,z.2.2⟩,ob,es,ep,k _ _ (.inl rfl) e,c⟩
 | set S n=>obtain ⟨ob,es,ep,t,e,c⟩:=x;exact ⟨ob,es,ep,t,k _ _ (.inl rfl) e,c⟩
 | ins C dx fs=>
  obtain ⟨d,z,ne,e,mA,⟨od,es,ep,e2,c⟩,r⟩:=x;exact ⟨ho _ d,z,ne,k _ _ (.inl rfl) e,mA,⟨od,es,ep,k _ _ (.inr d) e2,c⟩,r⟩
 | own y=>obtain ⟨ob,e⟩:=x;exact ⟨ob,k _ _ (.inl rfl) e⟩
 | xd fs=>obtain ⟨mA,⟨od,es,ep,e,c⟩,r⟩:=x;exact ⟨mA,⟨od,es,ep,k _ _ (.inl rfl) e,c⟩,r⟩
 | rng lo hi=>obtain ⟨t,u,v,e⟩:=x;exact ⟨t,u,v,k _ _ (.inl rfl) e⟩
 | frz ob u ih=>obtain ⟨e,q⟩:=x;exact ⟨k _ _ (.inl rfl) e,ih q⟩
 | tbl ps=>
  have e:h.get? a=some {cls:=.none,data:=.fields ps}:=x;show h'.get? a=some {cls:=.none,data:=.fields ps};exact k a _ (.inl rfl) e
 | met f y=>
  have e:h.get? a=some (PySem.W.methodObj (.ref f) (.ref y)):=x;show h'.get? a=some (PySem.W.methodObj (.ref f) (.ref y));exact k a _ (.inl rfl) e
 | ext φ=>obtain ⟨p,⟨o,e⟩,st⟩:=x;exact ⟨st _ _ p fun o q=>k _ _ (.inl rfl) q,⟨o,k _ _ (.inl rfl) e⟩,st⟩
theorem HOk.lt (x:HOk P w H h)(e:H a=some o):a < h.objs.size:=(x a o e).lt
theorem HOk.fresh (x:HOk P w H h)(e:h.objs.size<=a):H a=none:=by
 cases q:H a with
 | none=>rfl
 | some u=>exact absurd (zB (x.lt q) e) (qS _)
theorem HOk.kept (x:HOk P w H h)(k:∀b u,h.get? b=some u->h'.get? b=some u):HOk P w H h':=fun a o e=>
 (x a o e).stay (fun b u _ q=>k b u q) (fun _ q=>q) fun _ _ q=>q
theorem HOk.laid (x:HOk P w H h)(k:∀b u,h.get? b=some u->h'.get? b=some u)(hp:h.objs.size<=a)(new:ObjOk P w (upd H a o) h' a o):HOk P w (upd H a o) h':=fun b u e=>by
 have hn:=x.fresh hp
 by_cases hb:b=a
 ·subst hb;rw [m7] at e;cases e;exact new
 ·rw [c7 hb] at e;exact (x b u e).stay (fun c v _ q=>k c v q) (fun c q=>by rw [c7 (m6 q hn)];exact q) fun c xs q=>by rw [c7 (m6 q hn)];exact q
end
def Rd (H:Hp) (a:Addr) (u:HO):Prop:=H a=some u\/∃o,H a=some (.frz o u)
theorem Rd.ok {P:Program}{w:World}{H:Hp}{h:Heap}{a:Addr}{u:HO}(r:Rd H a u)(x:HOk P w H h):ObjOk P w H h a u:=by
 rcases r with r | ⟨o,r⟩
 ·exact x a u r
 ·obtain ⟨_,q⟩:=x a _ r;exact q
def Mut:Option HO->Prop
 | some (.lst _)=>True
 | some (.dK _)=>True
 | some (.dT _)=>True
 | some (.set _ _)=>True
 | some (.ins _ _ _)=>True
 | some (.ext _)=>True
 | _=>False
section
variable {P:Program}{w:World}{H:Hp}{h h':Heap}{x e:Addr}{o':HO}
theorem HOk.write (ok:HOk P w H h)(mu:Mut (H x))(he:e=x\/H e=some (.own x))(k:∀b u,b≠e->h.get? b=some u->h'.get? b=some u)(heo:∃u,h'.get? e=some u)
  (new:ObjOk P w (upd H x o') h' x o'):HOk P w (upd H x o') h':=fun b u q=>by
 have nown:∀c y,H c=some (.own y)->c≠x:=fun c y r z=>by subst z;rw [r] at mu;exact mu
 have ntup:∀c xs,H c=some (.tup xs)->c≠x:=fun c xs r z=>by subst z;rw [r] at mu;exact mu
 by_cases hb:b=x
 ·subst hb;rw [m7] at q;cases q;exact new
 ·rw [c7 hb] at q
  by_cases hbe:b=e
  ·have q':H b=some (.own x):=by
    rcases he with z | z
    ·exact absurd (hbe.trans z) hb
    ·rw [hbe];exact z
   rw [q] at q';cases q';obtain ⟨v,hv⟩:=heo;exact ⟨v,by rw [hbe];exact hv⟩
  ·refine (ok b u q).stay (fun c v hc r=>k c v ?_ r) (fun c r=>by rw [c7 (nown c b r)];exact r) fun c xs r=>by rw [c7 (ntup c xs r)];exact r
   rcases hc with rfl | hc
   ·exact hbe
   ·rintro rfl;rcases he with z | z
    ·exact nown c b hc z
    ·rw [hc] at z;cases z;exact hb rfl
end
structure Un (fs ex:List Addr) (H H':Hp) (h h':Heap):Prop where
 keep:∀b o,h.get? b=some o->H b=none->b∉fs->b∉ex->h'.get? b=some o
 slot:∀b o,h.get? b=some o->H b=none->b∈fs->b∉ex->∃sl,h'.get? b=some {o with slots:=sl}
 free:∀b o,h.get? b=some o->H b=none->b∉ex->H' b=none
 there:∀b o,h.get? b=some o->b∉ex->∃o',h'.get? b=some o'
 tups:∀b xs,H b=some (.tup xs)->H' b=some (.tup xs)
 frzs:∀b o u,H b=some (.frz o u)->H' b=some (.frz o u)
 tbls:∀b ps,H b=some (.tbl ps)->∃more,H' b=some (.tbl (ps ++ more))
section
variable {fs ex:List Addr}{H H1:Hp}{h h1 h':Heap}{a x e:Addr}{o:HO}
theorem Un.any (u:Un fs ex H H1 h h1){b:Addr}{ob:Obj}(q:h.get? b=some ob)(n:H b=none)(hx:b∉ex):∃sl,h1.get? b=some {ob with slots:=sl}:=by
 by_cases hb:b∈fs
 ·exact u.slot b ob q n hb hx
 ·exact ⟨ob.slots,u.keep b ob q n hb hx⟩
theorem Un.kept (k:∀b u,h.get? b=some u->h'.get? b=some u):Un fs ex H H h h':=
 ⟨fun b ob q _ _ _=>k b ob q,fun b ob q _ _ _=>⟨ob.slots,k b ob q⟩,fun _ _ _ n _=>n,fun b ob q _=>⟨ob,k b ob q⟩,fun _ _ q=>q,fun _ _ _ q=>q,fun _ ps q=>⟨#[],by rw [q];simp⟩⟩
theorem Un.refl:Un fs ex H H h h:=Un.kept fun _ _ q=>q
theorem Un.laid (k:∀b u,h.get? b=some u->h'.get? b=some u)(hp:h.objs.size<=a)(hn:H a=none):Un fs ex H (upd H a o) h h' where
 keep:=fun b u q _ _ _=>k b u q
 slot:=fun b u q _ _ _=>⟨u.slots,k b u q⟩
 free:=fun b u q n _=>by rw [c7 (zN (zB (zV q) hp))];exact n
 there:=fun b u q _=>⟨u,k b u q⟩
 tups:=fun b xs q=>by rw [c7 (m6 q hn)];exact q
 frzs:=fun b u xs q=>by rw [c7 (m6 q hn)];exact q
 tbls:=fun b ps q=>⟨#[],by rw [c7 (m6 q hn),q];simp⟩
theorem Un.write (mu:Mut (H x))(he:e=x\/H e=some (.own x))(k:∀b u,b≠e->h.get? b=some u->h'.get? b=some u)(heo:∃u,h'.get? e=some u):Un fs ex H (upd H x o) h h':=by
 have hx:∀b,H b=none->b≠x:=fun b n z=>by subst z;rw [n] at mu;exact mu
 have hb:∀b,H b=none->b≠e:=fun b n z=>by
  subst z;rcases he with r | r
  ·exact hx b n r
  ·rw [n] at r;cases r
 have hm:∀b u,H b=some u->¬Mut (some u)->b≠x:=fun b u q nm z=>by subst z;rw [q] at mu;exact nm mu
 refine ⟨fun b u q n _ _=>k b u (hb b n) q,fun b u q n _ _=>⟨u.slots,k b u (hb b n) q⟩,fun b u q n _=>by rw [c7 (hx b n)];exact n,fun b u q _=>?_,
  fun b xs q=>by rw [c7 (hm b _ q fun z=>z)];exact q,fun b u xs q=>by rw [c7 (hm b _ q fun z=>z)];exact q,fun b ps q=>⟨#[],by rw [c7 (hm b _ q fun z=>z),q];simp⟩⟩
 by_cases hbe:b=e
 ·subst hbe;exact heo
 ·exact ⟨u,k b u hbe q⟩
end
def trk (h:Heap) (H:Hp):List Addr:=(List.range h.objs.size).filter fun a=>(H a).isSome
def hidT (h:Heap) (H:Hp):Heap:=PySem.W.hideAll h (trk h H)
theorem a8m (h:Heap)(H:Hp):(hidT h H).objs.size=h.objs.size:=PySem.W.hideAll_size _ _
theorem b0x {h:Heap}{H:Hp}{b:Addr}{o:Obj}(e:h.get? b=some o)(n:H b=none):(hidT h H).get? b=some o:=
 PySem.W.hideAll_get _ e fun hm=>by
  have q:(H b).isSome=true:=(qW.mp hm).2;rw [n] at q;simp at q
theorem b19 {h:Heap}{H:Hp}{b:Addr}{o:Obj}(e:(hidT h H).get? b=some o):h.get? b=some o/\H b=none:=by
 have e':h.get? b=some o:=PySem.W.of_hideAll (trk h H) e;refine ⟨e',?_⟩;cases q:H b with
 | none=>rfl
 | some x=>
  have hm:b∈trk h H:=qW.mpr ⟨xE.mpr (zV e'),by simp [q]⟩
  have z:(hidT h H).get? b=none:=PySem.W.hideAll_none (trk h H) hm;rw [z] at e;cases e
def allNews (g h:Heap) (L:Addr):List (Addr×Obj):=(List.range h.objs.size).filterMap fun a=>if a=L\/(g.get? a).isSome=true then none else (h.get? a).map fun o=>(a,o)
theorem a5b {g h:Heap}{L a:Addr}{o:Obj}(h1:a≠L)(h2:g.get? a=none)(h3:h.get? a=some o):(a,o)∈allNews g h L:=
 mem_filterMap.mpr ⟨a,xE.mpr (zV h3),by simp [h1,h2,h3]⟩
theorem a2i {g h:Heap}{L:Addr}{p:Addr×Obj}(hp:p∈allNews g h L):p.1≠L/\g.get? p.1=none/\h.get? p.1=some p.2:=by
 obtain ⟨b,_,e⟩:=mem_filterMap.mp hp;split at e
 ·cases e
 ·rename_i hn;cases q:h.get? b with
  | none=>rw [q] at e;simp at e
  | some u=>
   rw [q] at e;simp only [qZ,Option.some.injEq] at e;subst e;refine ⟨fun z=>hn (.inl z),?_,q⟩;show g.get? b=none;cases r:g.get? b with
   | none=>rfl
   | some v=>exact (hn (.inr (by simp [r]))).elim
def rest (g h:Heap) (L d:Addr):List (Addr×Obj):=(allNews g h L).filter fun p=>decide (p.1≠d)
theorem a6L {g h:Heap}{L d:Addr}:∀p∈rest g h L d,p.1≠d:=fun p hp=>xP (qW.mp hp).2
theorem a9z {g h:Heap}{L d a:Addr}{o:Obj}(h1:a≠L)(h2:g.get? a=none)(h3:h.get? a=some o)(h4:a≠d):(a,o)∈rest g h L d:=
 qW.mpr ⟨a5b h1 h2 h3,qE h4⟩
theorem a96 {g h:Heap}{L:Addr}:News g L h (allNews g h L):=fun p hp=>let ⟨a,b,c⟩:=a2i hp;⟨c,a,b⟩
theorem b1U {g h:Heap}{L d:Addr}{o:Obj}(h1:d≠L)(h2:g.get? d=none)(h3:h.get? d=some o):News g L h ((d,o) :: rest g h L d):=fun p hp=>by
 rcases zS.mp hp with rfl | hp
 ·exact ⟨h3,h1,h2⟩
 ·exact a96 p (qW.mp hp).1
theorem a4l {g h h':Heap}{L d:Addr}{m:Str->Option Value}(k:∀b o,g.get? b=some o->h.get? b=some o)(F:Fr g L h' m)(N:News g L h' (rest g h L d)):
  ∀b o,b≠L->b≠d->h.get? b=some o->h'.get? b=some o:=fun b o h1 h2 e=>by
 cases q:g.get? b with
 | some u=>
  have:=k b u q
  rw [e] at this;cases this;exact F.keep b _ q
 | none=>exact (N (b,o) (a9z h1 q e h2)).1
structure Mod (K:PySem.W.Frag) (mg:Str->Option Value) (base:Heap):Prop where
 kin:K.In base
 glob:base.Ns mainGlobals mg
 blt:∃mb,base.Ns builtinsNs mb/\∀x:Str,x≠"__name__"->mb x=bootBuiltins x
 nolimit:base.NoLimit
structure Cx where
 prog:Program
 w:World
 K:PySem.W.Frag
 mg:Str->Option Value
 base:Heap
 A:Around
 N:List Str
 s₀:Shared
 H₀:Hp
 env:Env
 outer:List Env
 stack:List Env
 ex:List Addr
 fn:Str->Bool
 calm:Bool
 pn:List (Addr×Obj)
 xe:Value->Shared->Prop
def frs (l:List Env):List Addr:=l.filterMap (·.frame)
abbrev Cx.fs (X:Cx):List Addr:=frs X.outer
def Vis (sc:Scope) (x:Str):Prop:=sc.names.lookup x=some .local\/sc.names.lookup x=some .cell\/sc.names.lookup x=some .free
def Loc (sc:Scope) (x:Str):Prop:=sc.names.lookup x=some .local\/sc.names.lookup x=some .cell
def Look (env:Env) (h:Heap) (m:Str->Option Value) (x:Str) (u:Value):Prop:=
 (env.kindOf x=some .local/\m x=some u)\/((env.kindOf x=some .cell\/env.kindOf x=some .free)/\∃c,env.cells.lookup x=some c/\h.IsCell c (some u))
structure Cx.Ok (X:Cx):Prop where
 mod:Mod X.K X.mg X.base
 kind:X.env.scope.kind= .function
 glob:X.env.globals=mainGlobals
 blt:X.env.builtins=builtinsNs
 above:X.s₀.heap.objs.size<=X.env.locals
 inj:∀x y c,X.env.cells.lookup x=some c->X.env.cells.lookup y=some c->x=y
 has:∀x,(X.env.kindOf x=some .cell\/X.env.kindOf x=some .free)->∃c,X.env.cells.lookup x=some c
 cab:∀x c,X.fn x=true->X.env.cells.lookup x=some c->X.s₀.heap.objs.size<=c
 hd:X.calm=true->X.A.handled=none
 frames:X.A.frames=some X.stack
 stk:X.stack=X.outer\/(X.stack=X.env :: X.outer/\X.env.frame=some X.env.locals)
 exf:∀b∈X.ex,b≠X.env.locals/\∀x c,X.env.cells.lookup x=some c->c≠b
 bs:∀b o,X.base.get? b=some o->X.s₀.heap.get? b=some o/\X.H₀ b=none
 bsz:X.base.objs.size<=X.s₀.heap.objs.size
 noex:∀b o,X.base.get? b=some o->b∉X.ex
 exfs:∀b∈X.ex,b∉X.fs
 funs:X.s₀.heap.FunFrames X.base X.outer
 frf:∀b∈X.fs,X.H₀ b=none
structure Inv (X:Cx) (pins:List (Addr×Obj)) (σ:List (Option V)) (H:Hp) (s:Shared):Prop where
 ok:X.Ok
 os:s.os=X.s₀.os
 bare:AllBare s.gens
 base:Un X.fs X.ex X.H₀ H X.s₀.heap s.heap
 loc:∃m,s.heap.Ns X.env.locals m/\∀(i:Nat) (x:Str) (v:V),X.N[i]? =some x->σ[i]? =some (some v)->Vis X.env.scope x->∃u,RelV v u/\Look X.env s.heap m x u
 cell:∀x c,X.env.cells.lookup x=some c->∃v,s.heap.IsCell c v
 free:H X.env.locals=none
 freeC:∀x c,X.env.cells.lookup x=some c->H c=none
 pin:∀p∈X.pn ++ pins,s.heap.get? p.1=some p.2/\H p.1=none/\p.1≠X.env.locals/\p.1∉X.fs/\∀v,p.2.data≠.cell v
 hok:HOk X.prog X.w H s.heap
 len:σ.length=X.N.length
section
variable {X:Cx}{pins:List (Addr×Obj)}{σ:List (Option V)}{H H':Hp}{s:Shared}{h':Heap}
theorem Cx.Ok.nofr (ok:X.Ok){b:Addr}{o:Obj}(e:X.base.get? b=some o):b∉X.fs:=fun hb=>by
 have:=(ok.funs.mem hb).1
 rw [e] at this;cases this
theorem Inv.bs (I:Inv X pins σ H s):∀b o,X.base.get? b=some o->s.heap.get? b=some o/\H b=none:=fun b o e=>
 ⟨I.base.keep b o (I.ok.bs b o e).1 (I.ok.bs b o e).2 (I.ok.nofr e) (I.ok.noex b o e),I.base.free b o (I.ok.bs b o e).1 (I.ok.bs b o e).2 (I.ok.noex b o e)⟩
theorem Inv.bk (I:Inv X pins σ H s):∀b o,X.base.get? b=some o->s.heap.get? b=some o:=fun b o e=>(I.bs b o e).1
theorem Inv.mod (I:Inv X pins σ H s):Mod X.K X.mg X.base:=I.ok.mod
theorem Inv.kIn (I:Inv X pins σ H s):X.K.In s.heap:=I.ok.mod.kin.keeps I.bk
theorem Inv.fr (I:Inv X pins σ H s):∃m,Fr X.base X.env.locals s.heap m:=
 let ⟨m,hn,_⟩:=I.loc
 ⟨m,hn,I.bk,zY I.ok.bsz I.ok.above⟩
theorem Inv.lt (I:Inv X pins σ H s):X.env.locals < s.heap.objs.size:=let ⟨_,hn,_⟩:=I.loc;hn.lt
theorem Inv.sz (I:Inv X pins σ H s):X.s₀.heap.objs.size<=s.heap.objs.size:=zY I.ok.above (Nat.le_of_lt I.lt)
theorem Inv.nofs (I:Inv X pins σ H s){a:Addr}(h:s.heap.objs.size<=a):a∉X.fs:=fun hb=>by
 obtain ⟨_,o,ho,_⟩:=I.ok.funs.mem hb;exact absurd (zB (zV ho) (zY I.sz h)) (qS _)
theorem Inv.cne (I:Inv X pins σ H s):∀x c,X.env.cells.lookup x=some c->c≠X.env.locals:=fun x c e z=>by
 obtain ⟨v,o,ho,hd⟩:=I.cell x c e;obtain ⟨m,⟨o',es,ep,ho',hd',_⟩,_⟩:=I.loc;rw [z,ho'] at ho;cases ho;rw [hd'] at hd;cases hd
theorem Inv.funs (I:Inv X pins σ H s):s.heap.FunFrames X.base X.outer:=by
 have all:∀(l:List Env),(∀b∈frs l,b∈X.fs)->X.s₀.heap.FunFrames X.base l->s.heap.FunFrames X.base l:=by
  intro l
  induction l with
  | nil=>intro _ _;trivial
  | cons env r ih=>
   intro hs hl;obtain ⟨hk,⟨L,o,hf,hn,ho,hd⟩,hr⟩:=hl;have hL:L∈X.fs:=hs L (by unfold frs;rw [filterMap_cons,hf];exact zH)
   obtain ⟨sl,e⟩:=I.base.slot L o ho (I.ok.frf L hL) hL fun z=>I.ok.exfs L z hL;exact ⟨hk,⟨L,_,hf,hn,e,hd⟩,ih (fun b hb=>hs b (by unfold frs;rw [filterMap_cons,hf];exact zI _ hb)) hr⟩
 exact all X.outer (fun _ hb=>hb) I.ok.funs
theorem Inv.stack (I:Inv X pins σ H s):s.heap.FunFrames X.base X.stack:=by
 rcases I.ok.stk with e | ⟨e,hf⟩
 ·rw [e];exact I.funs
 ·rw [e];obtain ⟨m,hn,_⟩:=I.loc;refine .cons (by rw [I.ok.kind];decide) hf hn ?_ I.funs
  exact Heap.get?_none_of_le (zY I.ok.bsz I.ok.above)
theorem Inv.stkSub (I:Inv X pins σ H s):∀b∈frs X.stack,b∈X.env.locals :: X.fs:=fun b hb=>by
 rcases I.ok.stk with e | ⟨e,hf⟩
 ·rw [e] at hb;exact zI _ hb
 ·rw [e] at hb;unfold frs at hb;rw [filterMap_cons,hf] at hb;exact hb
theorem Inv.stkFree (I:Inv X pins σ H s):∀b∈frs X.stack,H b=none:=fun b hb=>by
 rcases zS.mp (I.stkSub b hb) with e | hb
 ·rw [e];exact I.free
 ·obtain ⟨_,o,ho,_⟩:=I.ok.funs.mem hb;exact I.base.free b o ho (I.ok.frf b hb) fun z=>I.ok.exfs b z hb
theorem Inv.step {g':Array GenState}{t':Nat}{d':Drawn}{ch:List Addr}(I:Inv X pins σ H s)
  (hch:∀b∈ch,(b∈X.ex\/X.s₀.heap.objs.size<=b)/\b≠X.env.locals/\(∀x c,X.env.cells.lookup x=some c->c≠b)/\∀p∈X.pn ++ pins,p.1≠b)
  (keep:∀b o,b≠X.env.locals->b∉X.fs->b∉ch->s.heap.get? b=some o->H b=none->h'.get? b=some o)
  (slot:∀b o,b≠X.env.locals->b∈X.fs->b∉ch->s.heap.get? b=some o->H b=none->∃sl,h'.get? b=some {o with slots:=sl}) (free:∀b o,b∉ch->s.heap.get? b=some o->H b=none->H' b=none)
  (there:∀b o,b∉ch->s.heap.get? b=some o->∃o',h'.get? b=some o')
  (tups:∀b xs,H b=some (.tup xs)->H' b=some (.tup xs)) (frzs:∀b o u,H b=some (.frz o u)->H' b=some (.frz o u)) (tbls:∀b ps,H b=some (.tbl ps)->∃more,H' b=some (.tbl (ps ++ more)))
  (ns:∀m,s.heap.Ns X.env.locals m->h'.Ns X.env.locals m) (hok:HOk X.prog X.w H' h') (hg:AllBare g'):
  Inv X pins σ H' {s with heap:=h',gens:=g',drawn:=d',toks:=t'}:=by
 have neL:∀b o,X.s₀.heap.get? b=some o->b≠X.env.locals:=fun b o e=>zN (zB (zV e) I.ok.above);have neC:∀b o,X.s₀.heap.get? b=some o->b∉X.ex->b∉ch:=fun b o e hx hb=>by
  rcases (hch b hb).1 with z | z
  ·exact hx z
  ·exact absurd (zB (zV e) z) (qS _)
 have cellK:∀x c,X.env.cells.lookup x=some c->∀v,s.heap.IsCell c v->h'.IsCell c v:=fun x c e v ⟨o,ho,hd⟩=>by
  have nch:c∉ch:=fun z=>(hch c z).2.2.1 x c e rfl
  by_cases hc:c∈X.fs
  ·obtain ⟨sl,q⟩:=slot c o (I.cne x c e) hc nch ho (I.freeC x c e);exact ⟨_,q,hd⟩
  ·exact ⟨o,keep c o (I.cne x c e) hc nch ho (I.freeC x c e),hd⟩
 refine ⟨I.ok,I.os,hg,⟨fun b o e n hb hx=>?_,fun b o e n hb hx=>?_,fun b o e n hx=>?_,fun b o e hx=>?_,fun b xs e=>tups b xs (I.base.tups b xs e),fun b o xs e=>frzs b o xs (I.base.frzs b o xs e),fun b ps e=>?_⟩,?_,fun x c e=>?_,?_,fun x c e=>?_,fun p hp=>?_,hok,I.len⟩
 ·exact keep b o (neL b o e) hb (neC b o e hx) (I.base.keep b o e n hb hx) (I.base.free b o e n hx)
 ·obtain ⟨sl,e1⟩:=I.base.slot b o e n hb hx;obtain ⟨sl',e2⟩:=slot b _ (neL b o e) hb (neC b o e hx) e1 (I.base.free b o e n hx);exact ⟨sl',e2⟩
 ·obtain ⟨o',e1⟩:=I.base.there b o e hx;exact free b o' (neC b o e hx) e1 (I.base.free b o e n hx)
 ·obtain ⟨o',e1⟩:=I.base.there b o e hx;exact there b o' (neC b o e hx) e1
 ·obtain ⟨m1,e1⟩:=I.base.tbls b ps e;obtain ⟨m2,e2⟩:=tbls b _ e1;exact ⟨m1 ++ m2,by rw [e2,Array.append_assoc]⟩
 ·obtain ⟨m,hn,hl⟩:=I.loc;refine ⟨m,ns m hn,fun i x v e1 e2 e3=>?_⟩;obtain ⟨u,r,l⟩:=hl i x v e1 e2 e3;refine ⟨u,r,?_⟩;rcases l with l | ⟨k,c,e,z⟩
  ·exact .inl l
  ·exact .inr ⟨k,c,e,cellK x c e _ z⟩
 ·obtain ⟨v,z⟩:=I.cell x c e;exact ⟨v,cellK x c e v z⟩
 ·obtain ⟨m,⟨o,_,_,ho,_⟩,_⟩:=I.loc;exact free _ o (fun z=>(hch _ z).2.1 rfl) ho I.free
 ·obtain ⟨v,o,ho,hd⟩:=I.cell x c e;exact free c o (fun z=>(hch c z).2.2.1 x c e rfl) ho (I.freeC x c e)
 ·obtain ⟨e,n,ne,nf,d⟩:=I.pin p hp;have nch:p.1∉ch:=fun z=>(hch p.1 z).2.2.2 p hp rfl;exact ⟨keep p.1 p.2 ne nf nch e n,free p.1 p.2 nch e n,ne,nf,d⟩
theorem Inv.un {t':Nat}(I:Inv X pins σ H s)(u:Un X.fs [] H H' s.heap h')(hok:HOk X.prog X.w H' h'):Inv X pins σ H' {s with heap:=h',toks:=t'}:=by
 obtain ⟨m,⟨o,es,ep,ho,r⟩,_⟩:=id I.loc;obtain ⟨sl,hL⟩:=u.any ho I.free (by simp)
 exact I.step (g':=s.gens) (d':=s.drawn) (ch:=[]) (fun _ z=>nomatch z) (fun b o _ hb _ e n=>u.keep b o e n hb (by simp)) (fun b o _ hb _ e n=>u.slot b o e n hb (by simp)) (fun b o _ e n=>u.free b o e n (by simp)) (fun b o _ e=>u.there b o e (by simp)) u.tups u.frzs u.tbls (fun m' hm=>by
  obtain ⟨o',es',ep',ho',r'⟩:=hm;rw [ho] at ho';cases ho'
  exact ⟨_,es',ep',hL,r'⟩) hok I.bare
theorem Inv.call {g':Array GenState}{t':Nat}{d':Drawn}{ch:List Addr}(I:Inv X pins σ H s)(u:Un (frs X.stack) ch H H' s.heap h')(hok:HOk X.prog X.w H' h')(hg:AllBare g')
  (hch:∀b∈ch,(b∈X.ex\/X.s₀.heap.objs.size<=b)/\b≠X.env.locals/\(∀x c,X.env.cells.lookup x=some c->c≠b)/\∀p∈X.pn ++ pins,p.1≠b):
  Inv X pins σ H' {s with heap:=h',gens:=g',drawn:=d',toks:=t'}:=by
 obtain ⟨m,⟨o,es,ep,ho,r⟩,_⟩:=id I.loc;obtain ⟨sl,hL⟩:=u.any ho I.free fun z=>(hch _ z).2.1 rfl
 exact I.step (ch:=ch) hch (fun b o hL hb hc e n=>u.keep b o e n (fun z=>(zS.mp (I.stkSub b z)).elim hL hb) hc) (fun b o _ _ hc e n=>u.any e n hc) (fun b o hc e n=>u.free b o e n hc) (fun b o hc e=>u.there b o e hc) u.tups u.frzs u.tbls (fun m' hm=>by
  obtain ⟨o',es',ep',ho',r'⟩:=hm;rw [ho] at ho';cases ho'
  exact ⟨_,es',ep',hL,r'⟩) hok hg
theorem Inv.turned {t':Nat}{it:Addr}(I:Inv X pins σ H s)(k:∀b o,b≠it->s.heap.get? b=some o->h'.get? b=some o)(hn:H it=none)(hL:it≠X.env.locals)
  (h1:it∈X.ex\/X.s₀.heap.objs.size<=it) (h2:∀x c,X.env.cells.lookup x=some c->c≠it) (h3:∀p∈X.pn ++ pins,p.1≠it):Inv X pins σ H {s with heap:=h',toks:=t'}:=by
 have nit:∀b u,H b=some u->b≠it:=fun b u e z=>by rw [z,hn] at e;cases e
 refine I.step (g':=s.gens) (d':=s.drawn) (ch:=[it]) (fun b hb=>?_) (fun b o _ _ hc e _=>k b o (fun z=>hc (by simp [z])) e) (fun b o _ _ hc e _=>⟨o.slots,k b o (fun z=>hc (by simp [z])) e⟩) (fun _ _ _ _ n=>n)
  (fun b o hc e=>⟨o,k b o (fun z=>hc (by simp [z])) e⟩) (fun _ _ e=>e) (fun _ _ _ e=>e) (fun b ps e=>⟨#[],by rw [e];simp⟩) (fun m hm=>?_) (fun b u e=>?_) I.bare
 ·have e:b=it:=by simpa using hb
  subst e;exact ⟨h1,hL,h2,h3⟩
 ·obtain ⟨o,es,ep,ho,r⟩:=hm;exact ⟨o,es,ep,k _ o (qO hL) ho,r⟩
 ·refine (I.hok b u e).stay (fun c v hc q=>k c v ?_ q) (fun _ q=>q) fun _ _ q=>q;rcases hc with z | z
  ·rw [z];exact nit b u e
  ·exact nit c _ z
theorem Inv.tok (I:Inv X pins σ H s)(t:Nat):Inv X pins σ H {s with toks:=t}:=I.un (h':=s.heap) (t':=t) Un.refl I.hok
theorem Inv.kept {t':Nat}(I:Inv X pins σ H s)(k:∀b u,s.heap.get? b=some u->h'.get? b=some u):Inv X pins σ H {s with heap:=h',toks:=t'}:=I.un (Un.kept k) (I.hok.kept k)
theorem Inv.laid {a:Addr}{o:HO}{t':Nat}(I:Inv X pins σ H s)(k:∀b u,s.heap.get? b=some u->h'.get? b=some u)(hp:s.heap.objs.size<=a)(new:ObjOk X.prog X.w (upd H a o) h' a o):
  Inv X pins σ (upd H a o) {s with heap:=h',toks:=t'}:=I.un (Un.laid k hp (I.hok.fresh hp)) (I.hok.laid k hp new)
theorem Inv.write {x e:Addr}{o:HO}{t':Nat}(I:Inv X pins σ H s)(mu:Mut (H x))(he:e=x\/H e=some (.own x))(k:∀b u,b≠e->s.heap.get? b=some u->h'.get? b=some u)(heo:∃u,h'.get? e=some u)
  (new:ObjOk X.prog X.w (upd H x o) h' x o):Inv X pins σ (upd H x o) {s with heap:=h',toks:=t'}:=I.un (Un.write mu he k heo) (I.hok.write mu he k heo new)
theorem Inv.pins_of {pins':List (Addr×Obj)}(I:Inv X pins σ H s)(h:∀p∈pins',s.heap.get? p.1=some p.2/\H p.1=none/\p.1≠X.env.locals/\p.1∉X.fs/\∀v,p.2.data≠.cell v):Inv X pins' σ H s:=
 ⟨I.ok,I.os,I.bare,I.base,I.loc,I.cell,I.free,I.freeC,fun p hp=>(jC.mp hp).elim (fun z=>I.pin p (jU _ z)) (h p),I.hok,I.len⟩
theorem a4O {N:List Str}(hN:N.Nodup){i j:Nat}{x:Str}(a:N[i]? =some x)(b:N[j]? =some x):i=j:=by
 obtain ⟨h1,e1⟩:=zJ.mp a;obtain ⟨h2,e2⟩:=zJ.mp b;exact (List.getElem_inj hN).mp (e1.trans e2.symm)
theorem a7K {M:Model}{A:Around}{E:Value->Shared->Prop}{i:Nat}{x:Str}{v:V}{u:Value}{Q:Unit->Shared->Prop}(I:Inv X pins σ H s)(hN:X.N.Nodup)(hi:X.N[i]? =some x)(hx:Loc X.env.scope x)(r:RelV v u)
  (h:∀s',Inv X pins (σ.set i (some v)) H s'->(∃a,Heap.SameBut a s.heap s'.heap/\(a=X.env.locals\/X.env.cells.lookup x=some a))->Q () s') (hf:X.fn x=true\/X.env.scope.names.lookup x=some .local:=by first | exact .inl rfl | exact .inr rfl | assumption):wpAny M A (storeName X.env x u) Q E s:=by
 obtain ⟨m,hn,hl⟩:=id I.loc;have hcls:(X.env.scope.kind == .class || (X.env.scope.kind == .module && X.env.locals != X.env.globals))=false:=by rw [I.ok.kind];rfl
 have hiσ:i < σ.length:=by rw [I.len];exact (zJ.mp hi).1
 have cne:=I.cne;have tracked:∀{a:Addr} {h':Heap},(∃o,s.heap.get? a=some o/\H a=none)->Heap.SameBut a s.heap h'->HOk X.prog X.w H h':=fun {a h'} ha hs b ob e=>by
  obtain ⟨_,_,hfree⟩:=ha;refine (I.hok b ob e).stay (fun c w' hc q=>(hs.2 c ?_).trans q) (fun _ q=>q) fun _ _ q=>q;rintro rfl;rcases hc with rfl | hc
  ·rw [hfree] at e;cases e
  ·rw [hfree] at hc;cases hc
 rcases hx with hk | hk
 ·refine wpAny_storeName_local hk hn (fun h' hn' hs=>?_) hcls;obtain ⟨oL,_,_,hoL,_⟩:=id hn;refine h _ ⟨I.ok,I.os,I.bare,⟨fun b o e n hb hx=>?_,fun b o e n hb hx=>?_,I.base.free,fun b o e hx=>?_,I.base.tups,I.base.frzs,I.base.tbls⟩,⟨_,hn',fun j y v' e1 e2 e3=>?_⟩,fun y c e=>?_,I.free,I.freeC,fun p hp=>?_,tracked ⟨oL,hoL,I.free⟩ hs,by simpa using I.len⟩ ⟨_,hs,.inl rfl⟩
  ·exact (hs.2 b (zN (zB (zV e) I.ok.above))).trans (I.base.keep b o e n hb hx)
  ·obtain ⟨sl,e1⟩:=I.base.slot b o e n hb hx;exact ⟨sl,(hs.2 b (zN (zB (zV e) I.ok.above))).trans e1⟩
  ·obtain ⟨o',e1⟩:=I.base.there b o e hx;exact ⟨o',(hs.2 b (zN (zB (zV e) I.ok.above))).trans e1⟩
  ·by_cases hj:j=i
   ·subst hj;rw [hi] at e1;cases e1;rw [yL hiσ] at e2;cases e2;exact ⟨u,r,.inl ⟨hk,by simp⟩⟩
   ·rw [zO (qO hj)] at e2;obtain ⟨u',r',q⟩:=hl j y v' e1 e2 e3;refine ⟨u',r',?_⟩;rcases q with ⟨k,e⟩ | ⟨k,c,e,z⟩
    ·refine .inl ⟨k,?_⟩
     have:y≠x:=fun e=>hj (a4O hN e1 (e▸hi))
     simp [this,e]
    ·exact .inr ⟨k,c,e,z.sameBut hs (cne y c e)⟩
  ·obtain ⟨w',z⟩:=I.cell y c e;exact ⟨w',z.sameBut hs (cne y c e)⟩
  ·obtain ⟨e,n,ne,nf,d⟩:=I.pin p hp;exact ⟨(hs.2 p.1 ne).trans e,n,ne,nf,d⟩
 ·have hfn:X.fn x=true:=by
   rcases hf with z | z
   ·exact z
   ·rw [z] at hk;cases hk
  obtain ⟨c,hc⟩:=I.ok.has x (.inl hk);obtain ⟨w',z⟩:=I.cell x c hc;refine wpAny_storeName_cell I.ok.kind hk hc z (fun h' hc' hs=>?_);obtain ⟨oc,hoc,hocd⟩:=id z;refine h {s with heap:=h'} ⟨I.ok,I.os,I.bare,⟨fun b o e n hb hx=>?_,fun b o e n hb hx=>?_,I.base.free,fun b o e hx=>?_,I.base.tups,I.base.frzs,I.base.tbls⟩,⟨m,hn.sameBut hs (qO (cne x c hc)),fun j y v' e1 e2 e3=>?_⟩,fun y c' e=>?_,I.free,I.freeC,fun p hp=>?_,tracked ⟨oc,hoc,I.freeC x c hc⟩ hs,by simpa using I.len⟩ ⟨c,hs,.inr hc⟩
  ·exact (hs.2 b (zN (zB (zV e) (I.ok.cab x c hfn hc)))).trans (I.base.keep b o e n hb hx)
  ·obtain ⟨sl,e1⟩:=I.base.slot b o e n hb hx;exact ⟨sl,(hs.2 b (zN (zB (zV e) (I.ok.cab x c hfn hc)))).trans e1⟩
  ·obtain ⟨o',e1⟩:=I.base.there b o e hx;exact ⟨o',(hs.2 b (zN (zB (zV e) (I.ok.cab x c hfn hc)))).trans e1⟩
  ·by_cases hj:j=i
   ·subst hj;rw [hi] at e1;cases e1;rw [yL hiσ] at e2;cases e2;exact ⟨u,r,.inr ⟨.inl hk,c,hc,hc'⟩⟩
   ·rw [zO (qO hj)] at e2;obtain ⟨u',r',q⟩:=hl j y v' e1 e2 e3;refine ⟨u',r',?_⟩;rcases q with q | ⟨k,c',e,z'⟩
    ·exact .inl q
    ·refine .inr ⟨k,c',e,z'.sameBut hs ?_⟩;rintro rfl;exact hj (a4O hN e1 (I.ok.inj _ _ _ e hc▸hi))
  ·by_cases hcc:c'=c
   ·subst hcc;exact ⟨_,hc'⟩
   ·obtain ⟨w2,z2⟩:=I.cell y c' e;exact ⟨w2,z2.sameBut hs hcc⟩
  ·obtain ⟨e,n,ne,nf,d⟩:=I.pin p hp;refine ⟨(hs.2 p.1 ?_).trans e,n,ne,nf,d⟩;intro q;rw [q,hoc] at e;have q':oc=p.2:=qR e;exact d w' (by rw [<-q'];exact hocd)
theorem F8 {M:Model}{A:Around}{E:Value->Shared->Prop}{i:Nat}{x:Str}{v:V}{u:Value}{Q:Unit->Shared->Prop}(I:Inv X pins σ H s)(hN:X.N.Nodup)(hi:X.N[i]? =some x)(hx:Loc X.env.scope x)(r:RelV v u)
  (h:∀s',Inv X pins (σ.set i (some v)) H s'->Q () s') (hf:X.fn x=true\/X.env.scope.names.lookup x=some .local:=by first | exact .inl rfl | exact .inr rfl | assumption):wpAny M A (storeName X.env x u) Q E s:=
 a7K I hN hi hx r (fun s' I' _=>h s' I') hf
theorem Inv.call' {s':Shared}{ch:List Addr}(I:Inv X pins σ H s)(ho:s'.os=s.os)(u:Un (frs X.stack) ch H H' s.heap s'.heap)(hok:HOk X.prog X.w H' s'.heap)(hg:AllBare s'.gens)
  (hch:∀b∈ch,(b∈X.ex\/X.s₀.heap.objs.size<=b)/\b≠X.env.locals/\(∀x c,X.env.cells.lookup x=some c->c≠b)/\∀p∈X.pn ++ pins,p.1≠b):Inv X pins σ H' s':=by
 obtain ⟨h',g',d',t',o'⟩:=s';have e:o'=s.os:=ho;subst e;exact I.call (g':=g') (t':=t') (d':=d') u hok hg hch
end
abbrev XK:=Value->Option Addr->Hp->Prop
abbrev St:=List (Option V)
abbrev VK:=V->Hp->Prop
abbrev TE:=St->Hp->VK->Prop
abbrev TT:=St->Hp->(Bool->Hp->Prop)->Prop
abbrev TA:=St->Hp->(List V->Hp->Prop)->Prop
structure Ends where
 nx:St->Hp->Prop
 rt:VK
 bk:St->Hp->Prop:=fun _ _=>False
 ct:St->Hp->Prop:=fun _ _=>False
abbrev TS:=Ends->St->Hp->Prop
def EP (X:Cx) (pins:List (Addr×Obj)) (σ:St) (Q:VK) (u:Value) (s':Shared):Prop:=∃v H',Inv X pins σ H' s'/\RelV v u/\Q v H'
def TP (X:Cx) (pins:List (Addr×Obj)) (σ:St) (Q:Bool->Hp->Prop) (b:Bool) (s':Shared):Prop:=∃H',Inv X pins σ H' s'/\Q b H'
def AP (X:Cx) (pins:List (Addr×Obj)) (σ:St) (Q:List V->Hp->Prop) (us:List Value) (s':Shared):Prop:=∃vs H',Inv X pins σ H' s'/\Vals vs us/\Q vs H'
def SP (X:Cx) (pins:List (Addr×Obj)) (D:Ends) (f:Flow) (s':Shared):Prop:=
 match f with
 | .next=>∃σ' H',Inv X pins σ' H' s'/\D.nx σ' H'
 | .brk=>∃σ' H',Inv X pins σ' H' s'/\D.bk σ' H'
 | .cont=>∃σ' H',Inv X pins σ' H' s'/\D.ct σ' H'
 | .ret u=>∃v σ' H',Inv X pins σ' H' s'/\RelV v u/\D.rt v H'
def PE (X:Cx) (e:Expr) (t:TE):Prop:=
 ∀(pins:List (Addr×Obj)) (s:Shared) (σ:St) (H:Hp) (Q:VK),Inv X pins σ H s->t σ H Q->wpAny (model X.prog X.w) X.A (eval e X.env) (EP X pins σ Q) X.xe s
def PT (X:Cx) (e:Expr) (t:TT):Prop:=
 ∀(pins:List (Addr×Obj)) (s:Shared) (σ:St) (H:Hp) (Q:Bool->Hp->Prop),Inv X pins σ H s->t σ H Q->wpAny (model X.prog X.w) X.A (isTrue e X.env (eval e X.env)) (TP X pins σ Q) X.xe s
def PW (X:Cx) (e:Expr) (t:TT):Prop:=
 ∀(whole:Sem Value) (pins:List (Addr×Obj)) (s:Shared) (σ:St) (H:Hp) (Q:Bool->Hp->Prop),Inv X pins σ H s->t σ H Q->wpAny (model X.prog X.w) X.A (isTrue e X.env whole) (TP X pins σ Q) X.xe s
theorem PW.pt {X:Cx}{e:Expr}{t:TT}(h:PW X e t):PT X e t:=h _
def PA (X:Cx) (es:List Expr) (t:TA):Prop:=
 ∀(pos:Pos) (pins:List (Addr×Obj)) (s:Shared) (σ:St) (H:Hp) (Q:List V->Hp->Prop),Inv X pins σ H s->t σ H Q->wpAny (model X.prog X.w) X.A (spliced (backTo pos (starEach es X.env))) (AP X pins σ Q) X.xe s
def PS (X:Cx) (st:Stmt) (t:TS):Prop:=
 ∀(pins:List (Addr×Obj)) (s:Shared) (σ:St) (H:Hp) (D:Ends),Inv X pins σ H s->t D σ H->wpAny (model X.prog X.w) X.A (exec st X.env) (SP X pins D) X.xe s
def PSs (X:Cx) (st:List Stmt) (t:TS):Prop:=
 ∀(pins:List (Addr×Obj)) (s:Shared) (σ:St) (H:Hp) (D:Ends),Inv X pins σ H s->t D σ H->wpAny (model X.prog X.w) X.A (execs st X.env) (SP X pins D) X.xe s
theorem thn {α:Type}{t:Sem α}{Q Q':α->Shared->Prop}{M:Model}{A:Around}{E:Value->Shared->Prop}{s:Shared}(h:wpAny M A t Q E s)(hQ:∀a s,Q a s->Q' a s):wpAny M A t Q' E s:=zG h hQ fun _ _ x=>x
section
variable {X:Cx}
def tVar (i:Nat):TE:=fun σ H Q=>∃v,σ[i]? =some (some v)/\Q v H
def tC (v:V):TE:=fun _ H Q=>Q v H
theorem a3s {i:Nat}{x:Str}{pos:Pos}(hN:X.N[i]? =some x)(hv:Vis X.env.scope x)(hd:(x == ("__debug__":Str))=false:=by decide)(hcd:(x == ("__classdict__":Str))=false:=by decide):PE X (.Name x pos) (tVar i):=by
 intro pins s σ H Q I h;obtain ⟨v,e,h⟩:=h;obtain ⟨m,hn,hl⟩:=I.loc;obtain ⟨u,r,l⟩:=hl i x v hN e hv;have fin:EP X pins σ Q u s:=⟨v,H,I,r,h⟩;rcases l with ⟨hk,hm⟩ | ⟨hk,c,hc,hcell⟩
 ·exact wpAny_Name (wpAny_loadName_local I.ok.kind hk hn hm fin) hd
 ·rcases hk with hk | hk
  ·exact wpAny_Name (wpAny_loadName_cell I.ok.kind hk hc hcell fin) hd
  ·exact wpAny_Name (wpAny_loadName_free I.ok.kind hk hc hcell fin hcd) hd
theorem b4s {i j pos}:PE X (.Constant (.int i) j pos) (tC (.int i)):=fun _ _ _ H _ I h=>wpAny_Constant_int ⟨.int i,H,I.tok _,⟨_,rfl⟩,h⟩
theorem pe_bl {b j pos}:PE X (.Constant (.bool b) j pos) (tC (.bl b)):=fun _ _ _ H _ I h=>Constant_bool ⟨.bl b,H,I,rfl,h⟩
theorem a5Q {j pos}:PE X (.Constant .none j pos) (tC .non):=fun _ _ _ H _ I h=>Constant_none ⟨.non,H,I,rfl,h⟩
def Gl (X:Cx) (x:Str):Prop:=X.env.kindOf x=some .globalImplicit
theorem a6Z {E:Value->Shared->Prop}{pins:List (Addr×Obj)}{s:Shared}{σ:St}{H:Hp}{x:Str}{u:Value}{pos:Pos}{Q:Value->Shared->Prop}(I:Inv X pins σ H s)(hg:Gl X x)(hm:X.mg x=some u)(h:Q u s)
  (hd:(x == ("__debug__":Str))=false:=by decide):wpAny (model X.prog X.w) X.A (eval (.Name x pos) X.env) Q E s:=
 Calls.Name_function_global I.ok.kind hg (Calls.loadGlobal_global (by rw [I.ok.glob];exact I.mod.glob.keeps I.bk) hm h) hd
theorem S4 {E:Value->Shared->Prop}{pins:List (Addr×Obj)}{s:Shared}{σ:St}{H:Hp}{x:Str}{u:Value}{pos:Pos}{Q:Value->Shared->Prop}(I:Inv X pins σ H s)(hg:Gl X x)(hm:X.mg x=none)(hv:bootBuiltins x=some u)(h:Q u s)
  (hn:x≠"__name__":=by decide) (hd:(x == ("__debug__":Str))=false:=by decide):wpAny (model X.prog X.w) X.A (eval (.Name x pos) X.env) Q E s:=by
 obtain ⟨mb,h1,h2⟩:=I.mod.blt;exact Calls.Name_function_global I.ok.kind hg (Calls.loadGlobal_builtin (by rw [I.ok.glob];exact I.mod.glob.keeps I.bk) hm (by rw [I.ok.blt];exact h1.keeps I.bk) ((h2 x hn).trans hv) h) hd
theorem b1C {x:Str}{v:V}{u:Value}{pos:Pos}(hg:Gl X x)(hm:X.mg x=some u)(r:RelV v u)(hd:(x == ("__debug__":Str))=false:=by decide):PE X (.Name x pos) (tC v):=
 fun _ _ _ H _ I h=>a6Z I hg hm ⟨v,H,I,r,h⟩ hd
theorem b1M {x:Str}{v:V}{u:Value}{pos:Pos}(hg:Gl X x)(hm:X.mg x=none)(hv:bootBuiltins x=some u)(r:RelV v u)(hn:x≠"__name__":=by decide)(hd:(x == ("__debug__":Str))=false:=by decide):PE X (.Name x pos) (tC v):=
 fun _ _ _ H _ I h=>S4 I hg hm hv ⟨v,H,I,r,h⟩ hn hd
variable {a b:Expr}{ta tb:TE}{pos:Pos}
variable {tA tB':TT}{rest:List Expr}
def tAnd (t u:TT):TT:=fun σ H Q=>t σ H fun c H1=>if c=true then u σ H1 Q else Q false H1
def tOr (t u:TT):TT:=fun σ H Q=>t σ H fun c H1=>if c=true then Q true H1 else u σ H1 Q
def tNot (t:TT):TT:=fun σ H Q=>t σ H fun c H1=>Q (!c) H1
theorem pw_and1 (ha:PT X a tA):PW X (.BoolOp .And [a] pos) tA:=by
 intro wh pins s σ H Q I h;refine isTrue_and (thn (ha pins s σ H Q I h) fun c s1 e=>?_);cases c with
 | true=>exact isTrue_and_nil e
 | false=>exact e
theorem pw_or1 (ha:PT X a tA):PW X (.BoolOp .Or [a] pos) tA:=by
 intro wh pins s σ H Q I h;refine isTrue_or (thn (ha pins s σ H Q I h) fun c s1 e=>?_);cases c with
 | false=>exact isTrue_or_nil e
 | true=>exact e
theorem pw_and (ha:PT X a tA)(hb:PW X (.BoolOp .And (b :: rest) pos) tB'):PW X (.BoolOp .And (a :: b :: rest) pos) (tAnd tA tB'):=by
 intro wh pins s σ H Q I h;refine isTrue_and (thn (ha pins s σ H _ I h) fun c s1 ⟨H1,I1,q1⟩=>?_);cases c with
 | true=>exact hb wh pins s1 σ H1 Q I1 q1
 | false=>exact ⟨H1,I1,q1⟩
theorem pw_or (ha:PT X a tA)(hb:PW X (.BoolOp .Or (b :: rest) pos) tB'):PW X (.BoolOp .Or (a :: b :: rest) pos) (tOr tA tB'):=by
 intro wh pins s σ H Q I h;refine isTrue_or (thn (ha pins s σ H _ I h) fun c s1 ⟨H1,I1,q1⟩=>?_);cases c with
 | true=>exact ⟨H1,I1,q1⟩
 | false=>exact hb wh pins s1 σ H1 Q I1 q1
theorem b4y (ha:PT X a tA):PT X (.UnaryOp .Not a pos) (tNot tA):=by
 intro pins s σ H Q I h;exact isTrue_not (ha pins s σ H (fun c H1=>Q (!c) H1) I h)
def tAndV (ta tb:TE):TE:=fun σ H Q=>ta σ H fun x H1=>∃c,x= .bl c/\if c=true then tb σ H1 Q else Q (.bl false) H1
def tOrV (ta tb:TE):TE:=fun σ H Q=>ta σ H fun x H1=>∃c,x= .bl c/\if c=true then Q (.bl true) H1 else tb σ H1 Q
theorem b31 {op}{t:TE}(h:PE X a t):PE X (.BoolOp op [a] pos) t:=fun pins s σ H Q I hw=>BoolOp_one (h pins s σ H Q I hw)
theorem b38 (ha:PE X a ta)(hb:PE X (.BoolOp .And (b :: rest) pos) tb):PE X (.BoolOp .And (a :: b :: rest) pos) (tAndV ta tb):=by
 intro pins s σ H Q I h;refine BoolOp_and (thn (ha pins s σ H _ I h) fun v s1 h0=>ex5 h0 fun x H1 I1 r1 q1=>?_);obtain ⟨c,rfl,q1⟩:=q1;cases r1;refine yM ?_;cases c with
 | true=>exact hb pins s1 σ H1 Q I1 q1
 | false=>exact ⟨.bl false,H1,I1,rfl,q1⟩
theorem pe_or (ha:PE X a ta)(hb:PE X (.BoolOp .Or (b :: rest) pos) tb):PE X (.BoolOp .Or (a :: b :: rest) pos) (tOrV ta tb):=by
 intro pins s σ H Q I h;refine BoolOp_or (thn (ha pins s σ H _ I h) fun v s1 h0=>ex5 h0 fun x H1 I1 r1 q1=>?_);obtain ⟨c,rfl,q1⟩:=q1;cases r1;refine yM ?_;cases c with
 | false=>exact hb pins s1 σ H1 Q I1 q1
 | true=>exact ⟨.bl true,H1,I1,rfl,q1⟩
def tIf (t:TT) (ta tb:TE):TE:=fun σ H Q=>t σ H fun c H1=>if c=true then ta σ H1 Q else tb σ H1 Q
theorem a9i {c:Expr}(hc:PT X c tA)(ha:PE X a ta)(hb:PE X b tb):PE X (.IfExp c a b pos) (tIf tA ta tb):=by
 intro pins s σ H Q I h;refine wpAny_IfExp (thn (hc pins s σ H _ I h) fun d s1 ⟨H1,I1,q1⟩=>?_);cases d with
 | true=>exact ha pins s1 σ H1 Q I1 q1
 | false=>exact hb pins s1 σ H1 Q I1 q1
end
def SqL (K:PySem.W.Frag) (H:Hp) (a:Addr) (xs:List V):Prop:=
 Rd H a (.lst xs)\/
  ∃(o:Obj) (its:Array Value) (n:Nat),K.lookup a=some o/\o.cls= .type "list"/\o.dict=none/\o.data= .seq its n/\its.size<=sizeLine/\Vals xs its.toList
def SqT (K:PySem.W.Frag) (H:Hp) (a:Addr) (xs:List V):Prop:=
 Rd H a (.tup xs)\/
  ∃(o:Obj) (its:Array Value) (n:Nat),K.lookup a=some o/\o.cls= .type "tuple"/\o.dict=none/\o.data= .seq its n/\its.size<=sizeLine/\Vals xs its.toList
def absV:Value->Option V
 | .none=>some .non
 | .bool b=>some (.bl b)
 | .int i _=>some (.int i)
 | .str x _=>some (.str x)
 | .bytes b _=>some (.byt b)
 | .float b _=>some (.flt b)
 | .ref a=>some (.ref a)
 | .type n=>some (.ty n)
 | _=>none
theorem RelV.abs {x:V}{u:Value}(r:RelV x u):absV u=some x:=by
 cases x with
 | non=>cases r;rfl
 | bl _=>cases r;rfl
 | int _=>obtain ⟨t,rfl⟩:=r;rfl
 | str _=>obtain ⟨t,rfl⟩:=r;rfl
 | byt _=>obtain ⟨t,rfl⟩:=r;rfl
 | flt _=>obtain ⟨t,rfl⟩:=r;rfl
 | ref _=>cases r;rfl
 | ty _=>cases r;rfl
theorem RelV.inj {x y:V}{u:Value}(r:RelV x u)(q:RelV y u):x=y:=qR (r.abs.symm.trans q.abs)
theorem Vals.inj:∀{xs ys:List V} {us:List Value},Vals xs us->Vals ys us->xs=ys
 | _,_,_,.nil,.nil=>rfl
 | _,_,_,.cons r t,.cons r' t'=>by rw [r.inj r',Vals.inj t t']
section
variable {X:Cx}{pins:List (Addr×Obj)}{σ:St}{H:Hp}{s:Shared}{a:Addr}{xs ys:List V}
theorem Inv.list (I:Inv X pins σ H s)(h:SqL X.K H a xs):∃its:List Value,Vals xs its/\PlainL s.heap a its.toArray/\xs.length<=sizeLine:=by
 rcases h with h | ⟨o,its,n,hk,hc,hd,hs,hz,r⟩
 ·obtain ⟨z,its,n,r,e⟩:=h.ok I.hok;exact ⟨its,r,⟨_,n,e,rfl,rfl,rfl⟩,z⟩
 ·refine ⟨its.toList,r,⟨o,n,I.kIn a o hk,hc,hd,by simpa using hs⟩,?_⟩
  have e:=r.length;simp only [jB] at e;walk_at "o"
theorem Inv.tupN (I:Inv X pins σ H s)(h:SqT X.K H a xs):∃its:List Value,Vals xs its/\TupN s.heap a its.toArray/\xs.length<=sizeLine:=by
 rcases h with h | ⟨o,its,n,hk,hc,hd,hs,hz,r⟩
 ·obtain ⟨z,its,r,p⟩:=h.ok I.hok;exact ⟨its,r,p,z⟩
 ·refine ⟨its.toList,r,⟨o,I.kIn a o hk,hc,⟨n,by simpa using hs⟩,hd⟩,?_⟩
  have e:=r.length;simp only [jB] at e;walk_at "o"
theorem Inv.tuple (I:Inv X pins σ H s)(h:SqT X.K H a xs):∃its:List Value,Vals xs its/\IsTup s.heap a its.toArray/\xs.length<=sizeLine:=let ⟨its,r,p,z⟩:=I.tupN h;⟨its,r,p.is,z⟩
theorem Inv.list_inj (I:Inv X pins σ H s)(h:SqL X.K H a xs)(h':SqL X.K H a ys):xs=ys:=by
 obtain ⟨its,r,⟨o,n,e,_,_,d⟩,_⟩:=I.list h;obtain ⟨its',r',⟨o',n',e',_,_,d'⟩,_⟩:=I.list h';rw [e] at e';cases e';rw [d] at d';injection d' with d1 _
 have:its=its':=by simpa using congrArg Array.toList d1
 subst this;exact r.inj r'
theorem Inv.tuple_inj (I:Inv X pins σ H s)(h:SqT X.K H a xs)(h':SqT X.K H a ys):xs=ys:=by
 obtain ⟨its,r,⟨o,e,_,n,d⟩,_⟩:=I.tuple h;obtain ⟨its',r',⟨o',e',_,n',d'⟩,_⟩:=I.tuple h';rw [e] at e';cases e';rw [d] at d';injection d' with d1 _
 have:its=its':=by simpa using congrArg Array.toList d1
 subst this;exact r.inj r'
end
abbrev Cx.wish (X:Cx) (E:Value->Shared->Prop):Cx:={X with xe:=E}
abbrev Cx.nox (X:Cx):Cx:=X.wish fun _ _=>False
theorem Cx.Ok.wish {X:Cx}(ok:X.Ok)(E:Value->Shared->Prop):(X.wish E).Ok:=
 ⟨ok.mod,ok.kind,ok.glob,ok.blt,ok.above,ok.inj,ok.has,ok.cab,ok.hd,ok.frames,ok.stk,ok.exf,ok.bs,ok.bsz,ok.noex,ok.exfs,ok.funs,ok.frf⟩
theorem Cx.Ok.unwish {X:Cx}{E:Value->Shared->Prop}(ok:(X.wish E).Ok):X.Ok:=
 ⟨ok.mod,ok.kind,ok.glob,ok.blt,ok.above,ok.inj,ok.has,ok.cab,ok.hd,ok.frames,ok.stk,ok.exf,ok.bs,ok.bsz,ok.noex,ok.exfs,ok.funs,ok.frf⟩
section
variable {X:Cx}{pins:List (Addr×Obj)}{σ:St}{H:Hp}{s:Shared}{E:Value->Shared->Prop}
theorem Inv.wish (I:Inv X pins σ H s)(E:Value->Shared->Prop):Inv (X.wish E) pins σ H s:=⟨I.ok.wish E,I.os,I.bare,I.base,I.loc,I.cell,I.free,I.freeC,I.pin,I.hok,I.len⟩
theorem Inv.unwish (I:Inv (X.wish E) pins σ H s):Inv X pins σ H s:=⟨I.ok.unwish,I.os,I.bare,I.base,I.loc,I.cell,I.free,I.freeC,I.pin,I.hok,I.len⟩
theorem SP.unwish {D:Ends}{f:Flow}{s':Shared}(h:SP (X.wish E) pins D f s'):SP X pins D f s':=by
 cases f with
 | next=>obtain ⟨σ',H',I,q⟩:=h;exact ⟨σ',H',I.unwish,q⟩
 | brk=>obtain ⟨σ',H',I,q⟩:=h;exact ⟨σ',H',I.unwish,q⟩
 | cont=>obtain ⟨σ',H',I,q⟩:=h;exact ⟨σ',H',I.unwish,q⟩
 | ret u=>obtain ⟨v,σ',H',I,r,q⟩:=h;exact ⟨v,σ',H',I.unwish,r,q⟩
theorem PSs.nox {st:List Stmt}{t:TS}(h:PSs X.nox st t):PSs X st t:=fun pins s σ H D I hw=>
 zG (h pins s σ H D (I.wish _) hw) (fun _ _ q=>q.unwish) fun _ _ z=>False.elim z
end
section
variable {X:Cx}{st:Stmt}{rest:List Stmt}{t u:TS}{e:Expr}{te:TE}{pos:Pos}
def tNext:TS:=fun D σ H=>D.nx σ H
def tSeq (t u:TS):TS:=fun D σ H=>t {D with nx:=u D} σ H
theorem b1i:PSs X [] tNext:=fun _ _ σ H _ I h=>wpAny_execs_nil ⟨σ,H,I,h⟩
theorem b0n (h1:PS X st t)(h2:PSs X rest u):PSs X (st :: rest) (tSeq t u):=by
 intro pins s σ H D I h;refine wpAny_execs_cons (thn (h1 pins s σ H {D with nx:=u D} I h) fun f s1 q=>?_)
 cases f with
 | next=>
  obtain ⟨σ',H',I',q⟩:=q;exact h2 pins s1 σ' H' D I' q
 | ret v=>exact q
 | brk=>exact q
 | cont=>exact q
theorem b1A (h1:PS X st t):PSs X [st] t:=by
 intro pins s σ H D I h;refine wpAny_execs_cons (thn (h1 pins s σ H D I h) fun f s1 q=>?_);cases f with
 | next=>exact wpAny_execs_nil q
 | ret v=>exact q
 | brk=>exact q
 | cont=>exact q
def tBreak:TS:=fun D σ H=>D.bk σ H
theorem b0f:PS X (.Break pos) tBreak:=fun _ _ σ H _ I h=>wpAny_Break ⟨σ,H,I,h⟩
theorem Inv.quiet {pins:List (Addr×Obj)}{σ:St}{H:Hp}{s:Shared}(I:Inv X pins σ H s):interactive X.env=false:=by simp [interactive,I.ok.kind]
def tDrop (te:TE):TS:=fun D σ H=>te σ H fun _ H1=>D.nx σ H1
theorem b1w (he:PE X e te)(hs:swapsWith e none pos.line X.env=pure false:=by rfl):PS X (.Expr e pos) (tDrop te):=by
 intro pins s σ H D I h;exact wpAny_Expr_any (thn (he pins s σ H _ I h) fun v s1 h0=>ex5 h0 fun x H1 I1 r1 q1=>⟨σ,H1,I1,q1⟩) I.quiet hs
def tRet (te:TE):TS:=fun D σ H=>te σ H D.rt
theorem b3P (he:PE X e te):PS X (.Return (some e) pos) (tRet te):=by
 intro pins s σ H D I h;exact wpAny_Return_some (thn (he pins s σ H _ I h) fun v s1 h0=>ex5 h0 fun x H1 I1 r1 q1=>⟨x,σ,H1,I1,r1,q1⟩)
def tIfS (c:TT) (t u:TS):TS:=fun D σ H=>c σ H fun b H1=>if b=true then t D σ H1 else u D σ H1
theorem ps_if {c:Expr}{a b:List Stmt}{tc:TT}(hc:PT X c tc)(ha:PSs X a t)(hb:PSs X b u):PS X (.If c a b pos) (tIfS tc t u):=by
 intro pins s σ H D I h;refine wpAny_If (thn (hc pins s σ H _ I h) fun d s1 ⟨H1,I1,q1⟩=>?_);cases d with
 | true=>exact ha pins s1 σ H1 D I1 q1
 | false=>exact hb pins s1 σ H1 D I1 q1
def tNever:TS:=fun _ _ _=>False
theorem a9P:PS X st tNever:=fun _ _ _ _ _ _ h=>h.elim
end
abbrev TG:=V->St->Hp->(St->Hp->Prop)->Prop
abbrev TGs:=List V->St->Hp->(St->Hp->Prop)->Prop
def PG (X:Cx) (target:Expr) (t:TG):Prop:=
 ∀(pins:List (Addr×Obj)) (s:Shared) (σ:St) (H:Hp) (v:V) (u:Value) (Q:St->Hp->Prop),Inv X pins σ H s->RelV v u->t v σ H Q->
  wpAny (model X.prog X.w) X.A (assign target X.env u) (fun _ s'=>∃σ' H',Inv X pins σ' H' s'/\Q σ' H') X.xe s
def PGs (X:Cx) (ts:List Expr) (t:TGs):Prop:=
 ∀(pins:List (Addr×Obj)) (s:Shared) (σ:St) (H:Hp) (vs:List V) (us:List Value) (Q:St->Hp->Prop),Inv X pins σ H s->Vals vs us->t vs σ H Q->
  wpAny (model X.prog X.w) X.A (assignInOrder ((assignEach ts X.env).map (·.2)) us) (fun _ s'=>∃σ' H',Inv X pins σ' H' s'/\Q σ' H') X.xe s
abbrev TSet:=V->V->V->Hp->(Hp->Prop)->Prop
def PSet (X:Cx) (t:TSet):Prop:=
 ∀(pins:List (Addr×Obj)) (s:Shared) (σ:St) (H:Hp) (o i v:V) (ov iv u:Value) (Q:Hp->Prop),Inv X pins σ H s->RelV o ov->RelV i iv->RelV v u->t o i v H Q->
  wpAny (model X.prog X.w) X.A (setItem ov iv u) (fun _ s'=>∃H',Inv X pins σ H' s'/\Q H') X.xe s
section
variable {X:Cx}{pos:Pos}
def gName (i:Nat):TG:=fun v σ H Q=>Q (σ.set i (some v)) H
theorem a6Q {i:Nat}{x:Str}(hN:X.N.Nodup)(hi:X.N[i]? =some x)(hx:Loc X.env.scope x)(hf:X.fn x=true\/X.env.scope.names.lookup x=some .local:=by first | exact .inl rfl | exact .inr rfl | assumption):PG X (.Name x pos) (gName i):=by
 intro pins s σ H v u Q I r h;exact wpAny_assign_Name (F8 I hN hi hx r (fun s' I'=>⟨_,H,I',h⟩) hf)
def gNil:TGs:=fun vs σ H Q=>vs=[]/\Q σ H
def gCons (t:TG) (u:TGs):TGs:=fun vs σ H Q=>∃v r,vs=v :: r/\t v σ H fun σ' H'=>u r σ' H' Q
theorem b1k:PGs X [] gNil:=by
 intro pins s σ H vs us Q I r h;obtain ⟨e,h⟩:=h;subst e;cases r;exact assignInOrder_nil ⟨σ,H,I,h⟩
theorem b06 {e:Expr}{es:List Expr}{t:TG}{u:TGs}(h1:PG X e t)(h2:PGs X es u)
  (hs:(assignEach (e :: es) X.env).map (·.2)=assign e X.env :: (assignEach es X.env).map (·.2):=by rfl):PGs X (e :: es) (gCons t u):=by
 intro pins s σ H vs us Q I r h;obtain ⟨v,vr,e1,h⟩:=h;subst e1;cases r with
 | cons r rr=>
  rw [hs];refine xI (thn (h1 pins s σ H _ _ _ I r h) fun _ s1 ⟨σ1,H1,I1,q1⟩=>?_);exact h2 pins s1 σ1 H1 _ _ Q I1 rr q1
def gTup (K:PySem.W.Frag) (n:Nat) (t:TGs):TG:=fun v σ H Q=>∃a xs,v= .ref a/\SqT K H a xs/\xs.length=n/\t xs σ H Q
theorem b30 {es:List Expr}{k:Nat}{t:TGs}{n:Nat}(hc:X.calm=true)(h:PGs X es t)
  (hn:(assignEach es X.env).length=n:=by rfl) (hst:(assignEach es X.env).findIdx? (·.1)=none:=by rfl):PG X (.Tuple es k pos) (gTup X.K n t):=by
 intro pins s σ H v u Q I r hw;obtain ⟨a,xs,e1,hq,hl,hw⟩:=hw;subst e1;cases r;obtain ⟨its,rv,ht,hz⟩:=I.tuple hq;refine assign_Tuple_tuple (I.ok.hd hc) ht (by simp [hn,<-hl,rv.length]) hst fun h' hx=>?_
 have I1:Inv X pins σ H {s with heap:=h'}:=I.kept (t':=s.toks) fun b o e=>hx b o (zN (zV e)) e
 exact h pins _ σ H xs _ Q I1 (by simpa using rv) hw
def gSub (to ti:TE) (t:TSet):TG:=fun v σ H Q=>to σ H fun o H1=>ti σ H1 fun i H2=>t o i v H2 fun H3=>Q σ H3
theorem b3K {o i:Expr}{to ti:TE}{t:TSet}(ho:PE X o to)(hi:PE X i ti)(hs:PSet X t)
  (ha:∀v,assign (.Subscript o i pos) X.env v=(do
   let ov <-holding [v] (eval o X.env)
   let iv <-holding [v,ov] (eval i X.env)
   standAt pos
   holding [v,ov,iv] (setItem ov iv v)
   release [v,ov,iv] []):=by intro _;rfl):PG X (.Subscript o i pos) (gSub to ti t):=by
 intro pins s σ H v u Q I r h;rw [ha];refine zA (jD (thn (ho pins s σ H _ I h) fun ov s1 h0=>ex5 h0 fun x H1 I1 r1 q1=>?_));refine zA (jD (thn (hi pins s1 σ H1 _ I1 q1) fun iv s2 h0=>ex5 h0 fun y H2 I2 r2 q2=>?_));refine zA (jG (zA (jD (thn (hs pins s2 σ H2 x y v ov iv u _ I2 r1 r2 r q2) fun _ s3 ⟨H3,I3,q3⟩=>?_))));exact wpAny_release ⟨σ,H3,I3,q3⟩
def tAsg (te:TE) (g:TG):TS:=fun D σ H=>te σ H fun x H1=>g x σ H1 D.nx
theorem b34 {tg e:Expr}{te:TE}{g:TG}(he:PE X e te)(hg:PG X tg g)(hs:swapsWithSole [tg] e pos.line X.env=pure false:=by rfl)(hw:swappedStores [tg] e X.env=pure none:=by rfl)
  (h1:(assignEach [tg] X.env).map (·.2)=[assign tg X.env]:=by rfl):PS X (.Assign [tg] e pos) (tAsg te g):=by
 intro pins s σ H D I h;refine wpAny_Assign_stores (thn (he pins s σ H _ I h) fun v s1 h0=>ex5 h0 fun x H1 I1 r1 q1=>?_) hs hw;rw [h1];exact thn (hg pins s1 σ H1 x v _ I1 r1 q1) fun _ s2 q=>q
theorem b4t {i:Nat}{x:Str}{e:Expr}{te:TE}{pos':Pos}(hN:X.N.Nodup)(hi:X.N[i]? =some x)(hx:Loc X.env.scope x)(he:PE X e te)(hs:swapsWith e (some (.Name x pos')) pos.line X.env=pure false:=by rfl)(hf:X.fn x=true\/X.env.scope.names.lookup x=some .local:=by first | exact .inl rfl | exact .inr rfl | assumption):
  PS X (.Assign [.Name x pos'] e pos) (tAsg te (gName i)):=by
 intro pins s σ H D I h;refine wpAny_Assign_Name (thn (he pins s σ H _ I h) fun v s1 h0=>ex5 h0 fun y H1 I1 r1 q1=>?_) hs;exact F8 I1 hN hi hx r1 (fun s2 I2=>⟨_,H1,I2,q1⟩) hf
def tPar (i j:Nat) (ta:TA):TS:=fun D σ H=>ta σ H fun vs H1=>∃v w,vs=[v,w]/\D.nx ((σ.set i (some v)).set j (some w)) H1
theorem b4e {i j:Nat}{x y:Str}{a b:Expr}{ta:TA}{px py pt:Pos}{kt k2 pt2}(hc:X.calm=true)(hN:X.N.Nodup)(hi:X.N[i]? =some x)(hj:X.N[j]? =some y)(hij:i≠j)
  (hx:X.env.scope.names.lookup x=some .local) (hy:X.env.scope.names.lookup y=some .local) (ha:PA X [a,b] ta)
  (hw:swappedStores [.Tuple [.Name x px,.Name y py] kt pt] (.Tuple [a,b] k2 pt2) X.env=pure (some [x,y]))
  (hs:swapsWithSole [.Tuple [.Name x px,.Name y py] kt pt] (.Tuple [a,b] k2 pt2) pos.line X.env=pure false:=by rfl):
  PS X (.Assign [.Tuple [.Name x px,.Name y py] kt pt] (.Tuple [a,b] k2 pt2) pos) (tPar i j ta):=by
 intro pins s σ H D I h;rw [exec_Assign_arm];refine zA (jG ?_);rw [hs];refine zA (zC ?_);rw [if_neg (by decide)]
 refine zA (Tuple_ (thn (ha _ pins s σ H _ I h) fun us s1 h0=>ex5 h0 fun vs H1 I1 r1 q1=>?_));obtain ⟨v,w,e1,q1⟩:=q1;subst e1;obtain ⟨u1,u2,rfl,rv,rw'⟩:∃u1 u2,us=[u1,u2]/\RelV v u1/\RelV w u2:=by
  cases r1 with
  | cons p q=>
   cases q with
   | cons p' q'=>
    cases q';exact ⟨_,_,rfl,p,p'⟩
 refine qH ?_ (by show 2<=sizeLine;decide)
 have I2:Inv X pins σ H1 {s1 with heap:=s1.heap.push {cls:=.type "tuple",data:=.seq [u1,u2].toArray}}:=I1.kept (t':=s1.toks) fun b o e=>zF _ e
 rw [hw];refine zA (zC ?_);show wpAny (model X.prog X.w) X.A (do rule "assign.swapped-stores";let items <-unpackItems (.ref s1.heap.objs.size) 2 none;assignInOrder [fun v=>bindName X.env y v,fun v=>bindName X.env x v] items.reverse;pure Flow.next) _ _ _
 refine zA (wpAny_rule (zA (unpackItems_tuple (items:= #[u1,u2]) (I.ok.hd hc) (IsTup.new s1.heap _) fun h' hx'=>?_)));have I3:=I2.kept (h':=h') (t':=s1.toks) fun b o e=>hx' b o (zN (zV e)) e;show wpAny _ _ (assignInOrder [fun v=>bindName X.env y v,fun v=>bindName X.env x v] [u2,u1] >>=fun _=>pure Flow.next) _ _ _;refine zA (xI (wpAny_bindName (F8 I3 hN hj (.inl hy) rw' (fun s2 I4=>?_) (.inr hy))));refine xI (wpAny_bindName (F8 I4 hN hi (.inl hx) rv (fun s3 I5=>assignInOrder_nil (zC ?_)) (.inr hx)));rw [set_comm _ _ (qO hij)] at I5;exact ⟨_,H1,I5,q1⟩
end
section
variable {X:Cx}{pos:Pos}
def tWhile (c:TT) (tb:TS):TS:=fun D σ H=>∃W:Nat->St->Hp->Prop,(∃m,W m σ H)/\∀m σ H,W m σ H->
 c σ H fun b H1=>if b=true then ∃N:St->Hp->Prop,(∀σ' H',N σ' H'->∃m',m' < m/\W m' σ' H')/\tb {D with nx:=N,ct:=N,bk:=D.nx} σ H1 else D.nx σ H1
theorem a9c {c:Expr}{body:List Stmt}{tc:TT}{tb:TS}(hp:PassesOwn (model X.prog X.w) X.A X.env X.xe)(hc:PT X c tc)(hb:PSs X body tb):PS X (.While c body [] pos) (tWhile tc tb):=by
 intro pins s σ H D I h;obtain ⟨W,⟨m0,w0⟩,turn⟩:=h;refine wpAny_While (codeAny_whileLoop (fun n s'=>∃σ' H',Inv X pins σ' H' s'/\W n σ' H') ?_ m0 ⟨σ,H,I,w0⟩);rintro n s1 ⟨σ1,H1,I1,w1⟩;refine xN hp (thn (hc pins s1 σ1 H1 _ I1 (turn n σ1 H1 w1)) fun b s2 ⟨H2,I2,q2⟩=>?_);cases b with
 | true=>
  obtain ⟨N,hN,q2⟩:=q2;rw [if_pos rfl];refine xN hp (thn (hb pins s2 σ1 H2 _ I2 q2) fun f s3 q3=>?_);cases f with
  | next=>
   obtain ⟨σ3,H3,I3,n3⟩:=q3;obtain ⟨m',hm,w3⟩:=hN σ3 H3 n3;exact ⟨m',hm,σ3,H3,I3,w3⟩
  | cont=>
   obtain ⟨σ3,H3,I3,n3⟩:=q3;obtain ⟨m',hm,w3⟩:=hN σ3 H3 n3;exact ⟨m',hm,σ3,H3,I3,w3⟩
  | brk=>exact q3
  | ret v=>exact q3
 | false=>
  rw [if_neg zQ];exact wpAny_execs_nil ⟨σ1,H2,I2,q2⟩
end
structure It where
 go:Nat->Hp->Prop
 yld:Nat->Hp->V->Hp->Prop
 stop:Nat->Hp->Prop
def FpOk (X:Cx) (pins:List (Addr×Obj)) (H:Hp) (b:Addr):Prop:=
 H b=none/\b≠X.env.locals/\b∉X.fs/\(b∈X.ex\/X.s₀.heap.objs.size<=b)/\(∀x c,X.env.cells.lookup x=some c->c≠b)/\∀p∈X.pn ++ pins,p.1≠b
theorem Inv.fpOk {X:Cx}{pins:List (Addr×Obj)}{σ:St}{H H':Hp}{s:Shared}{b:Addr}(I:Inv X pins σ H s)(hb:s.heap.objs.size<=b)(hn:H' b=none):FpOk X pins H' b:=by
 refine ⟨hn,yP (zB I.lt hb),I.nofs hb,.inr (zY I.sz hb),fun x c e z=>?_,fun p hp z=>?_⟩
 ·obtain ⟨v,q⟩:=I.cell x c e;exact absurd (zB q.lt (by rw [z];exact hb)) (qS _)
 ·exact absurd (zB (zV (I.pin p hp).1) (by rw [z];exact hb)) (qS _)
structure Turn (P:Program) (w:World) (K:PySem.W.Frag) (tg:Expr) (J:It) (fp:List Addr) (it:Addr) (tn:Nat->Heap->Prop):Prop where
 mem:it∈fp
 obj:∀i h,tn i h->∀b∈fp,∃o,h.get? b=some o/\∀v,o.data≠.cell v
 keep:∀i h h',tn i h->(∀b∈fp,∀o,h.get? b=some o->h'.get? b=some o)->tn i h'
 item:∀(X:Cx),X.prog=P->X.w=w->X.K=K->X.calm=true->∀(i:Nat) (pins:List (Addr×Obj)) (s:Shared) (σ:St) (H:Hp) (E:Value->Shared->Prop),Inv X pins σ H s->(∀b∈fp,FpOk X pins H b)->tn i s.heap->J.go i H->
  wpAny (model P w) X.A (pyNext (.ref it)) (fun r s1=>∃u,r=some u/\
   wpAny (model P w) X.A (letOwnedTupleGo tg (.ref it) u) (fun _ s2=>∃x H',Inv X pins σ H' s2/\RelV x u/\J.yld i H x H'/\tn (i + 1) s2.heap/\∀b∈fp,H' b=none) E s1) E s
 done:∀(X:Cx),X.prog=P->X.w=w->X.K=K->X.calm=true->∀(i:Nat) (pins:List (Addr×Obj)) (s:Shared) (σ:St) (H:Hp) (E:Value->Shared->Prop),Inv X pins σ H s->(∀b∈fp,FpOk X pins H b)->tn i s.heap->J.stop i H->
  wpAny (model P w) X.A (pyNext (.ref it)) (fun r s1=>r=none/\Inv X pins σ H s1) E s
 self:∀(A:Around) (i:Nat) (s:Shared) (Q:Value->Shared->Prop) (E:Value->Shared->Prop),tn i s.heap->Q (.ref it) s->wpAny (model P w) A (pyIter (.ref it)) Q E s
abbrev TI:=St->Hp->(It->Hp->Prop)->Prop
def PIE (X:Cx) (pins:List (Addr×Obj)) (σ:St) (tg:Expr) (R:It->Hp->Prop) (itv:Value) (s2:Shared):Prop:=
 ∃(it:Addr) (fp:List Addr) (tn:Nat->Heap->Prop) (J:It) (H':Hp),itv= .ref it/\Inv X pins σ H' s2/\Turn X.prog X.w X.K tg J fp it tn/\tn 0 s2.heap/\(∀b∈fp,FpOk X pins H' b)/\R J H'
def PI (X:Cx) (tg iter:Expr) (wi:TI):Prop:=
 ∀(pins:List (Addr×Obj)) (s:Shared) (σ:St) (H:Hp) (R:It->Hp->Prop),Inv X pins σ H s->wi σ H R->
  wpAny (model X.prog X.w) X.A (eval iter X.env) (fun v s1=>wpAny (model X.prog X.w) X.A (pyIter v) (PIE X pins σ tg R) X.xe s1) X.xe s
theorem b0s {M:Model}{A:Around}{E:Value->Shared->Prop}{s:Shared}{tg:Expr}{it:Addr}{u:Value}{o:Obj}{n:String}{vs:Array Value}{Q:Unit->Shared->Prop}(ho:s.heap.get? it=some o)(hc:o.cls= .type n)(hd:o.data= .fields vs)
  (hn:["enumerate","zip","dict_itemiterator","dict_reverseitemiterator","odict_iterator","itertools.zip_longest","itertools.pairwise"].contains n=false) (hQ:Q () s):wpAny M A (letOwnedTupleGo tg (.ref it) u) Q E s:=by
 unfold letOwnedTupleGo;cases tg <;> first
  | exact zC hQ
  | (cases u <;> first
    | exact zC hQ
    | (refine zA (wpAny_load ho ?_)
       rw [hc,hd];show wpAny M A (if (["enumerate","zip","dict_itemiterator","dict_reverseitemiterator","odict_iterator","itertools.zip_longest","itertools.pairwise"].contains n && vs[0]? == some (rawInt _))=true then _ else _) Q E s;rw [if_neg (by intro h;rw [hn,Bool.false_and] at h;cases h)]
       exact zC hQ))
def Itl (K:PySem.W.Frag) (a:Addr):It:=
 ⟨fun i H=>∃xs x,SqL K H a xs/\xs[i]? =some x,fun i H x H'=>H'=H/\∀xs,SqL K H a xs->xs[i]? =some x,fun i H=>∃xs,SqL K H a xs/\xs.length<=i⟩
def Itt (K:PySem.W.Frag) (a:Addr):It:=
 ⟨fun i H=>∃xs x,SqT K H a xs/\xs[i]? =some x,fun i H x H'=>H'=H/\∀xs,SqT K H a xs->xs[i]? =some x,fun i H=>∃xs,SqT K H a xs/\xs.length<=i⟩
def Itr (lo:Int) (n:Nat):It:=⟨fun i _=>i < n,fun i H x H'=>H'=H/\x= .int (lo + i),fun i _=>n<=i⟩
theorem a8e {P:Program}{w:World}{K:PySem.W.Frag}{tg:Expr}(a it:Addr):Turn P w K tg (Itl K a) [it] it (fun i h=>h.IsListIter it a i) where
 mem:=by simp
 obj:=fun i h st b hb=>by
  have e:b=it:=by simpa using hb
  subst e;obtain ⟨o,e,c,d⟩:=st;exact ⟨o,e,fun v z=>by rw [d] at z;cases z⟩
 keep:=fun i h h' st k=>st.at fun o e=>k it (by simp) o e
 item:=by
  intro X hP hw hK hc i pins s σ H E I hf st hg;subst hP hw hK;obtain ⟨xs,x,hq,hx⟩:=hg;obtain ⟨its,rv,p,hz⟩:=I.list hq;obtain ⟨u,hu,ru⟩:=rv.get hx;obtain ⟨f0,f1,f2,f3,f4,f5⟩:=hf it (by simp)
  refine wpAny_pyNext_list_item st p.isList (x:=u) (by simpa using hu) fun h' st' sb=>?_
  have I1:Inv X pins σ H {s with heap:=h'}:=I.turned (t':=s.toks) (fun b o hb e=>(sb.2 b hb).trans e) f0 f1 f3 f4 f5
  obtain ⟨o,e,c,d⟩:=id st';exact ⟨u,rfl,b0s (s:={s with heap:=h'}) e c d (by decide) ⟨x,H,I1,ru,⟨rfl,fun ys hy=>by rw [I.list_inj hy hq];exact hx⟩,st',fun b hb=>(hf b hb).1⟩⟩
 done:=by
  intro X hP hw hK hc i pins s σ H E I hf st hg;subst hP hw hK;obtain ⟨xs,hq,hx⟩:=hg;obtain ⟨its,rv,p,hz⟩:=I.list hq;obtain ⟨f0,f1,f2,f3,f4,f5⟩:=hf it (by simp)
  have hl:=rv.length;exact wpAny_pyNext_list_end (I.ok.hd hc) st p.isList (by simp;walk_at "o") fun h' eb=>⟨rfl,I.turned (t':=s.toks) (fun b o hb e=>eb b o hb e) f0 f1 f3 f4 f5⟩
 self:=fun _ _ _ _ _ st h=>wpAny_pyIter_listiter st h
theorem a5t {P:Program}{w:World}{K:PySem.W.Frag}{tg:Expr}(a it:Addr):Turn P w K tg (Itt K a) [it] it (fun i h=>h.IsTupleIter it a i) where
 mem:=by simp
 obj:=fun i h st b hb=>by
  have e:b=it:=by simpa using hb
  subst e;obtain ⟨o,e,c,d⟩:=st;exact ⟨o,e,fun v z=>by rw [d] at z;cases z⟩
 keep:=fun i h h' st k=>st.at fun o e=>k it (by simp) o e
 item:=by
  intro X hP hw hK hc i pins s σ H E I hf st hg;subst hP hw hK;obtain ⟨xs,x,hq,hx⟩:=hg;obtain ⟨its,rv,p,hz⟩:=I.tuple hq;obtain ⟨u,hu,ru⟩:=rv.get hx;obtain ⟨f0,f1,f2,f3,f4,f5⟩:=hf it (by simp)
  refine wpAny_pyNext_tuple_item st (show s.heap.IsTuple a its.toArray from p) (x:=u) (by simpa using hu) fun h' st' sb=>?_
  have I1:Inv X pins σ H {s with heap:=h'}:=I.turned (t':=s.toks) (fun b o hb e=>(sb.2 b hb).trans e) f0 f1 f3 f4 f5
  obtain ⟨o,e,c,d⟩:=id st';exact ⟨u,rfl,b0s (s:={s with heap:=h'}) e c d (by decide) ⟨x,H,I1,ru,⟨rfl,fun ys hy=>by rw [I.tuple_inj hy hq];exact hx⟩,st',fun b hb=>(hf b hb).1⟩⟩
 done:=by
  intro X hP hw hK hc i pins s σ H E I hf st hg;subst hP hw hK;obtain ⟨xs,hq,hx⟩:=hg;obtain ⟨its,rv,p,hz⟩:=I.tuple hq;obtain ⟨f0,f1,f2,f3,f4,f5⟩:=hf it (by simp)
  have hl:=rv.length;exact wpAny_pyNext_tuple_end (I.ok.hd hc) st (show s.heap.IsTuple a its.toArray from p) (by simp;walk_at "o") fun h' eb=>⟨rfl,I.turned (t':=s.toks) (fun b o hb e=>eb b o hb e) f0 f1 f3 f4 f5⟩
 self:=fun _ _ _ _ _ st h=>wpAny_pyIter_tupleiter st h
theorem a54 {P:Program}{w:World}{K:PySem.W.Frag}{tg:Expr}(it:Addr)(lo:Int)(n:Nat):Turn P w K tg (Itr lo n) [it] it (fun i h=>IsRangeIter h it (lo + (i:Nat) * 1) ((n:Int) - (i:Nat)) 1) where
 mem:=by simp
 obj:=fun i h st b hb=>by
  have e:b=it:=by simpa using hb
  subst e
  exact ⟨_,st,fun v z=>by
   have z':Data.fields _=Data.cell v:=z
   cases z'⟩
 keep:=fun i h h' st k=>k it (by simp) _ st
 item:=by
  intro X hP hw hK hc i pins s σ H E I hf st hg;subst hP hw hK;obtain ⟨f0,f1,f2,f3,f4,f5⟩:=hf it (by simp)
  have W:=Walks.range (prog:=X.prog) (w:=X.w) (I.ok.hd hc) it lo 1 n;refine W.item i s _ _ hg st fun v h' tk hv st' kk=>?_;obtain ⟨t,rfl⟩:=hv;have I1:Inv X pins σ H {s with heap:=h',toks:=tk}:=I.turned (fun b o hb e=>kk b o (by simpa using hb) e) f0 f1 f3 f4 f5
  refine ⟨_,rfl,b0s (s:={s with heap:=h',toks:=tk}) (n:="range_iterator") st' rfl rfl (by decide) ⟨.int (lo + i),H,I1,⟨t,?_⟩,⟨rfl,rfl⟩,st',fun b hb=>(hf b hb).1⟩⟩
  rw [Int.mul_one]
 done:=by
  intro X hP hw hK hc i pins s σ H E I hf st hg;subst hP hw hK;obtain ⟨f0,f1,f2,f3,f4,f5⟩:=hf it (by simp)
  exact wpAny_pyNext_range_end (I.ok.hd hc) st (by have:n<=i:=hg;walk_at "o") fun h' eb=>⟨rfl,I.turned (t':=s.toks) (fun b o hb e=>eb b o hb e) f0 f1 f3 f4 f5⟩
 self:=fun _ _ _ _ _ st h=>wpAny_pyIter_rangeiter st h
section
variable {X:Cx}{tg:Expr}
theorem a4C {pins:List (Addr×Obj)}{σ:St}{H:Hp}{s:Shared}{R:It->Hp->Prop}{E:Value->Shared->Prop}{lo hi:Int}{t u v:Tok}{tk:Nat}(I:Inv X pins σ H s)(h1:-(2 ^ 62)<=lo)(h2:lo < 2 ^ 62)(h3:-(2 ^ 62)<=hi)(h4:hi < 2 ^ 62)
  (q:R (Itr lo (hi - lo).toNat) H):wpAny (model X.prog X.w) X.A (pyIter (.ref s.heap.objs.size)) (PIE X pins σ tg R) E {s with heap:=s.heap.push {cls:=.type "range",data:=.fields #[.int lo t,.int hi u,.int 1 v]},toks:=tk}:=by
 refine wpAny_pyIter_range (IsRange.new ..) (small_one h1 h2 h3 h4) ?_;have I1:Inv X pins σ H {s with heap:=s.heap.push {cls:=.type "range",data:=.fields #[.int lo t,.int hi u,.int 1 v]},toks:=tk}:=I.kept fun b o e=>zF _ e
 refine ⟨(s.heap.push {cls:=.type "range",data:=.fields #[.int lo t,.int hi u,.int 1 v]}).objs.size,[(s.heap.push {cls:=.type "range",data:=.fields #[.int lo t,.int hi u,.int 1 v]}).objs.size],_,_,H,rfl,
  I1.kept (t':=tk) fun b o e=>zF _ e,a54 _ lo (hi - lo).toNat,?_,fun b hb=>?_,q⟩
 ·have e1:lo + ((0:Nat):Int) * 1=lo:=by simp
  have e2:(((hi - lo).toNat:Nat):Int) - ((0:Nat):Int)=Builtin.Range.rangeSize lo hi 1:=by rw [rangeSize_one];split <;> walk_at "o"
  show IsRangeIter _ _ (lo + ((0:Nat):Int) * 1) ((((hi - lo).toNat:Nat):Int) - ((0:Nat):Int)) 1;rw [e1,e2];exact qB _ rfl
 ·have e:b=(s.heap.push {cls:=.type "range",data:=.fields #[.int lo t,.int hi u,.int 1 v]}).objs.size:=by simpa using hb
  subst e;exact I1.fpOk (zE _) (I1.hok.fresh (zE _))
def iRng1 (ta:TA):TI:=fun σ H R=>ta σ H fun vs H1=>∃j:Int,vs=[.int j]/\-(2 ^ 62)<=j/\j < 2 ^ 62/\R (Itr 0 j.toNat) H1
def iRng2 (ta:TA):TI:=fun σ H R=>ta σ H fun vs H1=>∃i j:Int,vs=[.int i,.int j]/\(-(2 ^ 62)<=i/\i < 2 ^ 62/\-(2 ^ 62)<=j/\j < 2 ^ 62)/\R (Itr i (j - i).toNat) H1
theorem a70 {a:Expr}{ta:TA}{p pos:Pos}(hg:Gl X "range")(hm:X.mg "range"=none)(ha:PA X [a] ta)(hs:starEach [a] X.env=[(false,eval a X.env)]:=by rfl):PI X tg (.Call (.Name "range" p) [a] [] pos) (iRng1 ta):=by
 intro pins s σ H R I h;refine Call_ (S4 I hg hm boot_range (jF (thn (ha pos pins s σ H _ I h) fun us s1 h0=>ex5 h0 fun vs H1 I1 r1 q1=>?_) hs rfl));obtain ⟨j,e,q1,q2,q⟩:=q1;subst e;cases r1 with
 | cons r rr=>
  cases rr;obtain ⟨t,rfl⟩:=r;exact call_range_1 (a4C I1 (by walk_at "o") (by walk_at "o") q1 q2 (by simpa using q))
theorem a7T {a b:Expr}{ta:TA}{p pos:Pos}(hg:Gl X "range")(hm:X.mg "range"=none)(ha:PA X [a,b] ta)(hs:starEach [a,b] X.env=[(false,eval a X.env),(false,eval b X.env)]:=by rfl)(hs2:starEach [b] X.env=[(false,eval b X.env)]:=by rfl):
  PI X tg (.Call (.Name "range" p) [a,b] [] pos) (iRng2 ta):=by
 intro pins s σ H R I h;refine Call_ (S4 I hg hm boot_range (jF (thn (ha pos pins s σ H _ I h) fun us s1 h0=>ex5 h0 fun vs H1 I1 r1 q1=>?_) (by rw [hs,hs2]) (by rw [hs2];rfl)))
 obtain ⟨i,j,e,⟨q1,q2,q3,q4⟩,q⟩:=q1;subst e;cases r1 with
 | cons r rr=>
  cases rr with
  | cons r' rr=>
   cases rr;obtain ⟨t,rfl⟩:=r;obtain ⟨t',rfl⟩:=r';exact call_range_2 (a4C I1 q1 q2 q3 q4 q)
def tFor (wi:TI) (g:TG) (tb:TS):TS:=fun D σ H=>wi σ H fun J H1=>∃W:Nat->Nat->St->Hp->Prop,(∃m,W 0 m σ H1)/\∀i m σ H,W i m σ H->
 (J.stop i H/\D.nx σ H)\/(J.go i H/\∃N:St->Hp->Prop,(∀σ' H',N σ' H'->∃m',m' < m/\W (i + 1) m' σ' H')/\∀x H',J.yld i H x H'->g x σ H' fun σ2 H2=>tb {D with nx:=N,ct:=N,bk:=D.nx} σ2 H2)
def pinsAt (fp:List Addr) (h:Heap):List (Addr×Obj):=fp.filterMap fun b=>(h.get? b).map fun o=>(b,o)
theorem t8 {fp:List Addr}{h:Heap}{b:Addr}{o:Obj}(hb:b∈fp)(e:h.get? b=some o):(b,o)∈pinsAt fp h:=mem_filterMap.mpr ⟨b,hb,by rw [e];rfl⟩
theorem a72 {fp:List Addr}{h:Heap}{p:Addr×Obj}(hp:p∈pinsAt fp h):p.1∈fp/\h.get? p.1=some p.2:=by
 obtain ⟨b,hb,e⟩:=mem_filterMap.mp hp;cases q:h.get? b with
 | none=>rw [q] at e;cases e
 | some o=>
  rw [q] at e;have e':(b,o)=p:=qR e;subst e';exact ⟨hb,q⟩
theorem Inv.pinned {pins:List (Addr×Obj)}{σ:St}{H:Hp}{s:Shared}{fp:List Addr}(I:Inv X pins σ H s)(hf:∀b∈fp,FpOk X pins H b)(ho:∀b∈fp,∃o,s.heap.get? b=some o/\∀v,o.data≠.cell v):Inv X (pins ++ pinsAt fp s.heap) σ H s:=
 I.pins_of fun p hp=>(jC.mp hp).elim (fun z=>I.pin p (zP _ z)) fun z=>by
  obtain ⟨hb,e⟩:=a72 z;obtain ⟨f0,f1,f2,_⟩:=hf p.1 hb;obtain ⟨o,e',d⟩:=ho p.1 hb;rw [e] at e';cases e';exact ⟨e,f0,f1,f2,d⟩
theorem Inv.unpinned {pins pl:List (Addr×Obj)}{σ:St}{H:Hp}{s:Shared}(I:Inv X (pins ++ pl) σ H s):Inv X pins σ H s:=I.pins_of fun p hp=>I.pin p (zP _ (jU _ hp))
theorem b3M {iter:Expr}{body:List Stmt}{wi:TI}{g:TG}{tb:TS}{pos:Pos}(hp:PassesOwn (model X.prog X.w) X.A X.env X.xe)(hc:X.calm=true)(hi:PI X tg iter wi)(hg:PG X tg g)(hb:PSs X body tb)
  (hs:∀x,foldedSetIterable iter X.env x=pure x:=by intro _;rfl):PS X (.For tg iter body [] pos) (tFor wi g tb):=by
 intro pins s σ H D I h;refine wpAny_For (thn (hi pins s σ H _ I h) fun v s1 h1=>thn h1 fun itv s2 h2=>?_) hs;obtain ⟨it,fp,tn,J,H2,e,I2,T,st2,f2,W,⟨m0,w0⟩,turn⟩:=h2;subst e;have stat:∀{H':Hp},(∀b∈fp,H' b=none)->∀b∈fp,FpOk X pins H' b:=fun hn b hb=>⟨hn b hb,(f2 b hb).2⟩;refine codeAny_forLoop_any (fun n s'=>∃i σ' H',Inv X pins σ' H' s'/\tn i s'.heap/\(∀b∈fp,H' b=none)/\W i n σ' H') ?_ m0 ⟨0,σ,H2,I2,st2,fun b hb=>(f2 b hb).1,w0⟩;rintro n s3 ⟨i,σ3,H3,I3,st3,fr3,w3⟩;rcases turn i n σ3 H3 w3 with ⟨stop,qn⟩ | ⟨go,N,hN,step⟩
 ·refine xN hp (thn (T.done X rfl rfl rfl hc i pins s3 σ3 H3 X.xe I3 (stat fr3) st3 stop) fun r s4 ⟨hr,I4⟩=>?_);subst hr;exact wpAny_execs_nil ⟨σ3,H3,I4,qn⟩
 ·refine xN hp (thn (T.item X rfl rfl rfl hc i pins s3 σ3 H3 X.xe I3 (stat fr3) st3 go) fun r s4 ⟨u,hr,h4⟩=>?_);subst hr;refine xN hp (thn h4 fun _ s5 ⟨x,H5,I5,r5,y5,st5,fr5⟩=>?_);have I5':=I5.pinned (stat fr5) (T.obj _ _ st5);refine xN hp (thn (hg _ s5 σ3 H5 x u _ I5' r5 (step x H5 y5)) fun _ s6 ⟨σ6,H6,I6,q6⟩=>?_);refine xN hp (thn (hb _ s6 σ6 H6 _ I6 q6) fun f s7 q7=>?_);have again:∀{σ7:St} {H7:Hp},Inv X (pins ++ pinsAt fp s5.heap) σ7 H7 s7->N σ7 H7->∃m,m < n/\∃i σ' H',Inv X pins σ' H' s7/\tn i s7.heap/\(∀b∈fp,H' b=none)/\W i m σ' H':=fun {σ7 H7} I7 n7=>by
   obtain ⟨m',hm,w7⟩:=hN σ7 H7 n7;refine ⟨m',hm,i + 1,σ7,H7,I7.unpinned,T.keep _ _ _ st5 fun b hb o e=>(I7.pin (b,o) (zP _ (zP _ (t8 hb e)))).1,fun b hb=>?_,w7⟩;obtain ⟨o,e,d⟩:=T.obj _ _ st5 b hb;exact (I7.pin (b,o) (zP _ (zP _ (t8 hb e)))).2.1
  cases f with
  | next=>obtain ⟨σ7,H7,I7,n7⟩:=q7;exact again I7 n7
  | cont=>obtain ⟨σ7,H7,I7,n7⟩:=q7;exact again I7 n7
  | brk=>obtain ⟨σ7,H7,I7,q7⟩:=q7;exact ⟨σ7,H7,I7.unpinned,q7⟩
  | ret v=>obtain ⟨x7,σ7,H7,I7,r7,q7⟩:=q7;exact ⟨x7,σ7,H7,I7.unpinned,r7,q7⟩
end
abbrev R2:=V->V->Hp->VK->Prop
def OpR (X:Cx) (f:Value->Value->Sem Value) (r:R2):Prop:=
 ∀(pins:List (Addr×Obj)) (s:Shared) (σ:St) (H:Hp) (x y:V) (v u:Value) (Q:VK),Inv X pins σ H s->RelV x v->RelV y u->r x y H Q->
  wpAny (model X.prog X.w) X.A (f v u) (EP X pins σ Q) X.xe s
def UnR (X:Cx) (f:Value->Sem Value) (r:V->Hp->VK->Prop):Prop:=
 ∀(pins:List (Addr×Obj)) (s:Shared) (σ:St) (H:Hp) (x:V) (v:Value) (Q:VK),Inv X pins σ H s->RelV x v->r x H Q->
  wpAny (model X.prog X.w) X.A (f v) (EP X pins σ Q) X.xe s
def CallR (X:Cx) (f:Value) (r:List V->Hp->VK->Prop):Prop:=
 ∀(pins:List (Addr×Obj)) (s:Shared) (σ:St) (H:Hp) (xs:List V) (us:List Value) (Q:VK),Inv X pins σ H s->Vals xs us->r xs H Q->
  wpAny (model X.prog X.w) X.A (call f us) (EP X pins σ Q) X.xe s
def TruR (X:Cx) (r:V->Hp->(Bool->Hp->Prop)->Prop):Prop:=
 ∀(pins:List (Addr×Obj)) (s:Shared) (σ:St) (H:Hp) (x:V) (v:Value) (Q:Bool->Hp->Prop),Inv X pins σ H s->RelV x v->r x H Q->
  wpAny (model X.prog X.w) X.A (truthy v) (TP X pins σ Q) X.xe s
def tOp (r:R2) (ta tb:TE):TE:=fun σ H Q=>ta σ H fun x H1=>tb σ H1 fun y H2=>r x y H2 Q
def tUn (r:V->Hp->VK->Prop) (ta:TE):TE:=fun σ H Q=>ta σ H fun x H1=>r x H1 Q
def rI (C:Int->Int->Prop) (g:Int->Int->V):R2:=fun x y H Q=>∃i j,x= .int i/\y= .int j/\C i j/\Q (g i j) H
def rI0 (g:Int->Int->V):R2:=fun x y H Q=>∃i j,x= .int i/\y= .int j/\Q (g i j) H
def rU (g:Int->V):V->Hp->VK->Prop:=fun x H Q=>∃i,x= .int i/\Q (g i) H
section
variable {X:Cx}{a b:Expr}{ta tb:TE}{pos:Pos}
theorem binT (ha:PE X a ta)(hb:PE X b tb){pins:List (Addr×Obj)}{s:Shared}{σ:St}{H:Hp}{R:V->V->Hp->Prop}(I:Inv X pins σ H s)
  (h:ta σ H fun x H1=>tb σ H1 fun y H2=>R x y H2) {Q:Value->Shared->Prop} {f:Value->Value->Sem Value}
  (hf:∀v u s2 x y H2,Inv X pins σ H2 s2->RelV x v->RelV y u->R x y H2->wpAny (model X.prog X.w) X.A (f v u) Q X.xe s2):
  wpAny (model X.prog X.w) X.A (eval a X.env) (fun v s₁=>wpAny (model X.prog X.w) X.A (eval b X.env) (fun u s₂=>wpAny (model X.prog X.w) X.A (f v u) Q X.xe s₂) X.xe s₁) X.xe s:=by
 refine thn (ha pins s σ H _ I h) fun v s1 h0=>ex5 h0 fun x H1 I1 r1 q1=>?_;refine thn (hb pins s1 σ H1 _ I1 q1) fun u s2 h0=>ex5 h0 fun y H2 I2 r2 q2=>?_;exact hf v u s2 x y H2 I2 r1 r2 q2
theorem b2r {op:Operator}{r:R2}(ho:OpR X (binaryOp op) r)(ha:PE X a ta)(hb:PE X b tb):PE X (.BinOp a op b pos) (tOp r ta tb):=by
 intro pins s σ H Q I h;exact wpAny_BinOp (binT ha hb I h fun v u s2 x y H2 I2 rx ry q=>ho pins s2 σ H2 x y v u Q I2 rx ry q)
theorem pe_un {op:UnaryOp}{r:V->Hp->VK->Prop}(ho:UnR X (unaryOp op) r)(ha:PE X a ta):PE X (.UnaryOp op a pos) (tUn r ta):=by
 intro pins s σ H Q I h;exact UnaryOp_ (thn (ha pins s σ H _ I h) fun v s1 h0=>ex5 h0 fun x H1 I1 r1 q1=>ho pins s1 σ H1 x v Q I1 r1 q1)
theorem opI {f:Value->Value->Sem Value}{C:Int->Int->Prop}{g:Int->Int->Int}
  (rule:∀(i j:Int) (t u:Tok) (s:Shared) (Q:Value->Shared->Prop) (E:Value->Shared->Prop),C i j->Q (.int (g i j) s.toks) {s with toks:=s.toks + 1}->wpAny (model X.prog X.w) X.A (f (.int i t) (.int j u)) Q E s):
  OpR X f (rI C fun i j=>.int (g i j)):=by
 intro pins s σ H x y v u Q I rx ry h;obtain ⟨i,j,rfl,rfl,hc,q⟩:=h;obtain ⟨t,rfl⟩:=rx;obtain ⟨t',rfl⟩:=ry;exact rule i j t t' s _ _ hc ⟨.int (g i j),H,I.tok _,⟨_,rfl⟩,q⟩
theorem opI0 {f:Value->Value->Sem Value}{g:Int->Int->Int}
  (rule:∀(i j:Int) (t u:Tok) (s:Shared) (Q:Value->Shared->Prop) (E:Value->Shared->Prop),Q (.int (g i j) s.toks) {s with toks:=s.toks + 1}->wpAny (model X.prog X.w) X.A (f (.int i t) (.int j u)) Q E s):
  OpR X f (rI0 fun i j=>.int (g i j)):=by
 intro pins s σ H x y v u Q I rx ry h;obtain ⟨i,j,rfl,rfl,q⟩:=h;obtain ⟨t,rfl⟩:=rx;obtain ⟨t',rfl⟩:=ry;exact rule i j t t' s _ _ ⟨.int (g i j),H,I.tok _,⟨_,rfl⟩,q⟩
theorem opB0 {f:Value->Value->Sem Value}{g:Int->Int->Bool}
  (rule:∀(i j:Int) (t u:Tok) (s:Shared) (Q:Value->Shared->Prop) (E:Value->Shared->Prop),Q (.bool (g i j)) s->wpAny (model X.prog X.w) X.A (f (.int i t) (.int j u)) Q E s):
  OpR X f (rI0 fun i j=>.bl (g i j)):=by
 intro pins s σ H x y v u Q I rx ry h;obtain ⟨i,j,rfl,rfl,q⟩:=h;obtain ⟨t,rfl⟩:=rx;obtain ⟨t',rfl⟩:=ry;exact rule i j t t' s _ _ ⟨.bl (g i j),H,I,rfl,q⟩
def CPow (i j:Int):Prop:=0<=j/\j<=1000000/\i.natAbs < 2 ^ 64
theorem b4u:OpR X (binaryOp .Add) (rI0 fun i j=>.int (i + j)):=opI0 fun _ _ _ _ _ _ _ q=>add_int q
theorem b3H:OpR X (binaryOp .Sub) (rI0 fun i j=>.int (i - j)):=opI0 fun _ _ _ _ _ _ _ q=>sub_int q
theorem b4g:OpR X (binaryOp .Mod) (rI (fun _ j=>0 < j) fun i j=>.int (i % j)):=opI fun i j _ _ _ _ _ hc q=>by
 have h1:(0:Int) < j:=hc;exact mod_int' (by walk_at "o") (by rw [Int.fmod_eq_emod_of_nonneg i (by walk_at "o")];exact q)
theorem b33:OpR X (binaryOp .Pow) (rI CPow fun i j=>.int (i ^ j.toNat)):=opI fun _ _ _ _ _ _ _ hc q=>pow_int_small hc.1 hc.2.1 hc.2.2 q
theorem unI {f:Value->Sem Value}{g:Int->Int}
  (rule:∀(i:Int) (t:Tok) (s:Shared) (Q:Value->Shared->Prop) (E:Value->Shared->Prop),Q (.int (g i) s.toks) {s with toks:=s.toks + 1}->wpAny (model X.prog X.w) X.A (f (.int i t)) Q E s):
  UnR X f (rU fun i=>.int (g i)):=by
 intro pins s σ H x v Q I rx h;obtain ⟨i,rfl,q⟩:=h;obtain ⟨t,rfl⟩:=rx;exact rule i t s _ _ ⟨.int (g i),H,I.tok _,⟨_,rfl⟩,q⟩
theorem b3E:UnR X (unaryOp .USub) (rU fun i=>.int (-i)):=unI fun _ _ _ _ _ q=>neg_int q
end
section
variable {X:Cx}{a b c:Expr}{ta tb:TE}{pos:Pos}
theorem b3z:OpR X (compareOp .Lt) (rI0 fun i j=>.bl (decide (i < j))):=opB0 fun _ _ _ _ _ _ _ q=>lt_int q
theorem b2M:OpR X (compareOp .Gt) (rI0 fun i j=>.bl (decide (j < i))):=opB0 fun _ _ _ _ _ _ _ q=>gt_int q
theorem b2P:OpR X (compareOp .GtE) (rI0 fun i j=>.bl (decide (j<=i))):=opB0 fun _ _ _ _ _ _ _ q=>ge_int q
theorem OpR.or {f:Value->Value->Sem Value}{r r':R2}(h:OpR X f r)(h':OpR X f r'):OpR X f (fun x y H Q=>r x y H Q\/r' x y H Q):=by
 intro pins s σ H x y v u Q I rx ry q;rcases q with q | q
 ·exact h pins s σ H x y v u Q I rx ry q
 ·exact h' pins s σ H x y v u Q I rx ry q
theorem nomark (b:Expr){op:CmpOp}(h:op≠.In:=by decide)(h2:op≠.NotIn:=by decide):behindInMarks op b=false:=by
 have e1:(op == CmpOp.In)=false:=by cases op <;> first | rfl | exact absurd rfl h
 have e2:(op == CmpOp.NotIn)=false:=by cases op <;> first | rfl | exact absurd rfl h2
 cases b <;> simp [behindInMarks,e1,e2]
theorem b1L {op:CmpOp}{r:R2}(ho:OpR X (compareOp op) r)(ha:PE X a ta)(hb:PE X b tb)(hm:behindInMarks op b=false):PE X (.Compare a [op] [b] pos) (tOp r ta tb):=by
 intro pins s σ H Q I h;exact wpAny_Compare1 (binT ha hb I h fun v u s2 x y H2 I2 rx ry q=>ho pins s2 σ H2 x y v u Q I2 rx ry q) hm
def tTest (t:TE):TT:=fun σ H Q=>t σ H fun x H'=>∃k,x= .bl k/\Q k H'
theorem b13 {op:CmpOp}{r:R2}(ho:OpR X (compareOp op) r)(ha:PE X a ta)(hb:PE X b tb)(hm:behindInMarks op b=false):PT X (.Compare a [op] [b] pos) (tTest (tOp r ta tb)):=by
 intro pins s σ H Q I h
 refine wpAny_isTrue_Compare1 (thn (ha pins s σ H _ I h) fun v s1 h0=>ex5 h0 fun x H1 I1 r1 q1=>thn (hb pins s1 σ H1 _ I1 q1) fun u s2 h0=>ex5 h0 fun y H2 I2 r2 q2=>
  thn (ho pins s2 σ H2 x y v u _ I2 r1 r2 q2) fun c s3 ⟨z,H3,I3,r3,k,e,q3⟩=>?_) hm
 subst e;cases r3;exact yM ⟨H3,I3,q3⟩
def TruV (K:PySem.W.Frag) (x:V) (H:Hp) (k:Bool):Prop:=
 match x with
 | .non=>k=false
 | .bl b=>k=b
 | .int i=>k=(i != 0)
 | .str y=>y.length<=sizeLine/\k=((y.length:Int) != 0)
 | .byt y=>y.size<=sizeLine/\k=((y.size:Int) != 0)
 | .ref p=>(∃xs,SqL K H p xs/\k= !xs.isEmpty)\/(∃xs,SqT K H p xs/\k= !xs.isEmpty)\/∃kvs,H p=some (.dK kvs)/\k= !kvs.isEmpty
 | _=>False
theorem a5p {κ:Type}{kvs:List (κ×V)}{vs:List (κ×Value)}(r:KV kvs vs):(!vs.isEmpty)= !kvs.isEmpty:=by
 cases r <;> rfl
theorem a1t {xs:List V}{its:List Value}(r:Vals xs its):(!its.toArray.isEmpty)= !xs.isEmpty:=by
 cases r <;> simp
theorem line63:(sizeLine:Nat) < 2 ^ 63:=by rw [jT];decide
theorem a9b:TruR X (fun x H Q=>∃k,TruV X.K x H k/\Q k H):=by
 intro pins s σ H x v Q I rx h;obtain ⟨k,e,q⟩:=h;have hl:=line63;have hs:sizeLine=16777216:=jT;cases x with
 | non=>
  cases rx;have e':k=false:=e;subst e';exact truthy_none ⟨H,I,q⟩
 | bl b=>
  cases rx;have e':k=b:=e;subst e';exact yM ⟨H,I,q⟩
 | int i=>
  obtain ⟨t,rfl⟩:=rx;have e':k=(i != 0):=e;subst e';exact PySem.P.truthy_int ⟨H,I,q⟩
 | str y=>
  obtain ⟨t,rfl⟩:=rx;obtain ⟨hy,e'⟩:y.length<=sizeLine/\k=((y.length:Int) != 0):=e;subst e';exact PySem.P.truthy_str (by walk_at "o") ⟨H,I.tok _,q⟩
 | byt y=>
  obtain ⟨t,rfl⟩:=rx;obtain ⟨hy,e'⟩:y.size<=sizeLine/\k=((y.size:Int) != 0):=e;subst e';exact PySem.W.truthy_bytes (by walk_at "o") ⟨H,I.tok _,q⟩
 | ref p=>
  cases rx;have e':(∃xs,SqL X.K H p xs/\k= !xs.isEmpty)\/(∃xs,SqT X.K H p xs/\k= !xs.isEmpty)\/∃kvs,H p=some (.dK kvs)/\k= !kvs.isEmpty:=e;rcases e' with ⟨xs,hx,e'⟩ | ⟨xs,hx,e'⟩ | ⟨kvs,hx,e'⟩
  ·subst e';obtain ⟨its,r,pl,hz⟩:=I.list hx;have hlen:=r.length;exact wpAny_truthy_list pl.isList (by simp only [zR];walk_at "o") ⟨H,I.tok _,by rw [a1t r];exact q⟩
  ·subst e';obtain ⟨its,r,pl,hz⟩:=I.tuple hx;have hlen:=r.length;exact truthy_tuple pl (by simp only [zR];walk_at "o") ⟨H,I.tok _,by rw [a1t r];exact q⟩
  ·subst e';obtain ⟨hz,hS,vs,r,m⟩:kvs.length<=sizeLine/\(p == sysModules)=false/\∃vs,KV kvs vs/\s.heap.DictOf (mixKind X.prog X.w) p vs:=I.hok p _ hx;have hlen:kvs.length=vs.length:=Paired.length r;exact wpAny_truthy_dict hS m (by walk_at "o") ⟨H,I.tok _,by rw [a5p r];exact q⟩
 | _=>exact (show False from e).elim
theorem a9p (ha:PE X a ta)(he:∀whole,isTrue a X.env whole=(do let v <-whole;standAt a.pos;holding [v] (truthy v))):
  PT X a (fun σ H Q=>ta σ H fun x H'=>∃k,TruV X.K x H' k/\Q k H'):=by
 intro pins s σ H Q I h;exact isTrue_plain (thn (ha pins s σ H _ I h) fun v s1 h0=>ex5 h0 fun x H1 I1 r1 q1=>a9b pins s1 σ H1 x v Q I1 r1 q1) (he _)
theorem vals1 {x:V}{us:List Value}(r:Vals [x] us):∃u,us=[u]/\RelV x u:=by
 cases r with
 | cons r1 r2=>cases r2;exact ⟨_,rfl,r1⟩
theorem vals2 {x y:V}{us:List Value}(r:Vals [x,y] us):∃u w',us=[u,w']/\RelV x u/\RelV y w':=by
 cases r with
 | cons r1 r2=>
  cases r2 with
  | cons r3 r4=>cases r4;exact ⟨_,_,rfl,r1,r3⟩
theorem Z5:CallR X (.builtin "abs") (fun xs H Q=>∃i,xs=[.int i]/\Q (.int (if i < 0 then -i else i)) H):=by
 intro pins s σ H xs us Q I r h;obtain ⟨i,rfl,q⟩:=h;obtain ⟨u,rfl,t,rfl⟩:=vals1 r;exact call_abs_int fun u tk=>⟨.int (if i < 0 then -i else i),H,I.tok _,⟨_,rfl⟩,q⟩
theorem a0B (hc:X.calm=true):CallR X (.builtin "max") (fun xs H Q=>∃i j,xs=[.int i,.int j]/\Q (.int (if j > i then j else i)) H):=by
 intro pins s σ H xs us Q I r h;obtain ⟨i,j,rfl,q⟩:=h;obtain ⟨u,w',rfl,⟨t,rfl⟩,⟨t',rfl⟩⟩:=vals2 r;refine max_two_ints (I.ok.hd hc) fun h' tk k=>⟨_,H,I.kept k,?_,q⟩
 by_cases hj:j > i
 ·rw [if_pos hj,if_pos hj];exact ⟨_,rfl⟩
 ·rw [if_neg hj,if_neg hj];exact ⟨_,rfl⟩
theorem M4 (hc:X.calm=true):CallR X (.builtin "min") (fun xs H Q=>∃i j,xs=[.int i,.int j]/\Q (.int (if j < i then j else i)) H):=by
 intro pins s σ H xs us Q I r h;obtain ⟨i,j,rfl,q⟩:=h;obtain ⟨u,w',rfl,⟨t,rfl⟩,⟨t',rfl⟩⟩:=vals2 r;refine min_two_ints (I.ok.hd hc) fun h' tk k=>⟨_,H,I.kept k,?_,q⟩
 by_cases hj:j < i
 ·rw [if_pos hj,if_pos hj];exact ⟨_,rfl⟩
 ·rw [if_neg hj,if_neg hj];exact ⟨_,rfl⟩
end
theorem RelO.some_of {v:V}{o:Option Value}(r:RelO (some v) o):∃u,o=some u/\RelV v u:=by
 cases o with
 | none=>exact (show False from r).elim
 | some u=>exact ⟨u,rfl,r⟩
structure Cls (K:PySem.W.Frag) (C:Addr):Prop where
 pg:PySem.W.plainGet K C Str.empty=true
 hd:PySem.W.hasDictIn K C=true
 po:PySem.W.plainOver K C=true
 sa:PySem.W.findIn K (.ref C) "__setattr__"=some (some (.builtin "object.__setattr__"))
section
variable {H:Hp}
inductive TyOf (K:PySem.W.Frag) (H:Hp):V->Value->Prop where
 | non:TyOf K H .non (.type "NoneType")
 | bl (x:Bool):TyOf K H (.bl x) (.type "bool")
 | int (i:Int):TyOf K H (.int i) (.type "int")
 | str (x:Str):TyOf K H (.str x) (.type "str")
 | flt (x:UInt64):TyOf K H (.flt x) (.type "float")
 | lst {a:Addr} {xs:List V} (e:H a=some (.lst xs)):TyOf K H (.ref a) (.type "list")
 | frz {a:Addr} {o:Obj} {xs:List V} (e:H a=some (.frz o (.lst xs))):TyOf K H (.ref a) (.type "list")
 | tup {a:Addr} {xs:List V} (e:H a=some (.tup xs)):TyOf K H (.ref a) (.type "tuple")
 | dK {a:Addr} {kvs:List (Key×V)} (e:H a=some (.dK kvs)):TyOf K H (.ref a) (.type "dict")
 | dT {a:Addr} {kvs:List (List Key×V)} (e:H a=some (.dT kvs)):TyOf K H (.ref a) (.type "dict")
 | ins {a C dx:Addr} {fs:List (Str×V)} (e:H a=some (.ins C dx fs)) (cl:Cls K C) (ha:PySem.W.findIn K (.ref C) "__class__"=some (some (.builtin "object.__class__")))
   (hn:PySem.W.specialIn K (.builtin "object.__class__") "__get__"=some (some (.builtin "getset_descriptor.__get__"))) (htk:PySem.W.takesIn K (.builtin "object.__class__")=some true)
   (hm:PySem.W.mroIn K C (.type "object")=some true):TyOf K H (.ref a) (.ref C)
end
structure Room (k:Nat) (A:Around):Prop where
 hd:A.handled=none
 dp:A.depth + 3 * k + 5 < recursionLimit
 un:A.units + 16 * k + 200 < cLine
 gd:A.guards=some []
theorem Room.mono {j k:Nat}{A:Around}(r:Room k A)(h:j<=k):Room j A:=⟨r.hd,by have:=r.dp;walk_at "o",by have:=r.un;walk_at "o",r.gd⟩
theorem Room.deeper {k:Nat}{A:Around}(r:Room (k + 1) A)(env:Env):Room k (A.deeper env):=
 ⟨r.hd,by have:=r.dp;show A.depth + 1 + 3 * k + 5 < _;walk_at "o",by have:=r.un;show A.units + 3 + 16 * k + 200 < _;walk_at "o",r.gd⟩
theorem Room.depth {k:Nat}{A:Around}(r:Room k A):A.depth < recursionLimit:=by have:=r.dp;walk_at "o"
theorem Room.units {k:Nat}{A:Around}(r:Room k A):A.units + 64 < cLine:=by have:=r.un;walk_at "o"
def tNil:TA:=fun _ H Q=>Q [] H
def tCons (ta:TE) (tr:TA):TA:=fun σ H Q=>ta σ H fun x H1=>tr σ H1 fun xs H2=>Q (x :: xs) H2
section
variable {X:Cx}{e:Expr}{es:List Expr}{te:TE}{t:TA}{pos:Pos}
theorem a0P:PA X [] tNil:=fun _ _ _ _ H Q I h=>Calls.spliced_nil ⟨[],H,I,.nil,h⟩
theorem D6 (ha:PE X e te)(hr:PA X es t)(hs:starEach (e :: es) X.env=(false,eval e X.env) :: starEach es X.env:=by rfl):PA X (e :: es) (tCons te t):=by
 intro pos pins s σ H Q I h;rw [hs];show wpAny _ _ (spliced ((false,eval e X.env) :: backTo pos (starEach es X.env))) _ _ s;refine Calls.spliced_cons (thn (ha pins s σ H _ I h) fun u s1 h0=>ex5 h0 fun x H1 I1 r1 q1=>?_);exact thn (hr pos pins s1 σ H1 _ I1 q1) fun us s2 h0=>ex5 h0 fun xs H2 I2 r2 q2=>⟨x :: xs,H2,I2,.cons r1 r2,q2⟩
def tTup (t:TA):TE:=fun σ H Q=>t σ H fun xs H1=>xs.length<=sizeLine/\∀p,H1 p=none->Q (.ref p) (upd H1 p (.tup xs))
def tLst (t:TA):TE:=fun σ H Q=>t σ H fun xs H1=>xs.length<=sizeLine/\∀p,H1 p=none->Q (.ref p) (upd H1 p (.lst xs))
theorem b0G {x1}(h:PA X es t):PE X (.Tuple es x1 pos) (tTup t):=by
 intro pins s σ H Q I hq;refine wpAny_Tuple_spliced (thn (h pos pins s σ H _ I hq) fun us s1 ⟨xs,H1,I1,r,z,q⟩=>⟨by rw [<-r.length];exact z,?_⟩)
 have hf:H1 s1.heap.objs.size=none:=I1.hok.fresh (zE _);refine ⟨.ref s1.heap.objs.size,upd H1 s1.heap.objs.size (.tup xs),I1.laid (t':=s1.toks) (fun b u e=>zF _ e) (zE _) ?_,rfl,q _ hf⟩;exact ⟨z,us,r,TupN.new _ _⟩
theorem a9G (h:PA X es t):PE X (.List es pos) (tLst t):=by
 intro pins s σ H Q I hq;refine wpAny_List_spliced (thn (h pos pins s σ H _ I hq) fun us s1 ⟨xs,H1,I1,r,z,q⟩=>⟨by rw [<-r.length];exact z,?_⟩)
 have hf:H1 s1.heap.objs.size=none:=I1.hok.fresh (zE _);refine ⟨.ref s1.heap.objs.size,upd H1 s1.heap.objs.size (.lst xs),I1.laid (t':=s1.toks) (fun b u e=>zF _ e) (zE _) ?_,rfl,q _ hf⟩;exact ⟨z,us,0,r,qB _ rfl⟩
end
abbrev Sp:=List V->Hp->VK->XK->Prop
abbrev CXT:=List Env->Hp->Shared->XK->Value->Shared->Prop
structure Env0 (P:Program) (w:World) (K:PySem.W.Frag) (mg:Str->Option Value) (base:Heap) (A:Around) (outer:List Env) (s:Shared) (H:Hp):Prop where
 frames:A.frames=some outer
 mod:Mod K mg base
 bs:∀b o,base.get? b=some o->s.heap.get? b=some o/\H b=none
 bsz:base.objs.size<=s.heap.objs.size
 funs:s.heap.FunFrames base outer
 frf:∀b∈frs outer,H b=none
 hok:HOk P w H s.heap
 bare:AllBare s.gens
def CE (outer:List Env) (P:Program) (w:World) (H:Hp) (s:Shared) (Q:VK) (u:Value) (s':Shared):Prop:=
 ∃v H',s'.os=s.os/\AllBare s'.gens/\Un (frs outer) [] H H' s.heap s'.heap/\HOk P w H' s'.heap/\RelV v u/\Q v H'
def CR (CX:CXT) (outer:List Env) (P:Program) (w:World) (H:Hp) (s:Shared) (Q:VK) (E:XK) (r:Result) (s':Shared):Prop:=
 match r with
 | .ok (.ret u)=>CE outer P w H s Q u s'
 | .ok _=>False
 | .error e=>CX outer H s E e s'
structure FnOk (P:Program) (w:World) (K:PySem.W.Frag) (mg:Str->Option Value) (base:Heap) (CX:CXT) (k:Nat) (f:Addr) (fd:FuncData) (ps:List Str) (sp:Sp):Prop where
 len:∀vs H Q E,sp vs H Q E->vs.length=ps.length
 run:∀(A:Around) (outer:List Env) (s:Shared) (H:Hp) (args:Args) (us:List Value) (vs:List V) (Q:VK) (E:XK),Room k A->Env0 P w K mg base A outer s H->BindsTo s fd args (ps.zip us)->Vals vs us->sp vs H Q E->
  codeAny (model P w) A (.call (.ref f) args) (CR CX outer P w H s Q E) s
theorem FnOk.mono {P:Program}{w:World}{K:PySem.W.Frag}{mg:Str->Option Value}{base:Heap}{CX:CXT}{j k:Nat}{f:Addr}{fd:FuncData}{ps:List Str}{sp:Sp}(F:FnOk P w K mg base CX j f fd ps sp)(h:j<=k):
  FnOk P w K mg base CX k f fd ps sp:=⟨F.len,fun A outer s H args us vs Q E hr=>F.run A outer s H args us vs Q E (hr.mono h)⟩
section
variable {X:Cx}{pins:List (Addr×Obj)}{σ:St}{H:Hp}{s s':Shared}
theorem Inv.env0 (I:Inv X pins σ H s):Env0 X.prog X.w X.K X.mg X.base X.A X.stack s H:=
 ⟨I.ok.frames,I.ok.mod,I.bs,zY I.ok.bsz I.sz,I.stack,I.stkFree,I.hok,I.bare⟩
theorem Inv.after {Q:VK}{u:Value}(I:Inv X pins σ H s)(h:CE X.stack X.prog X.w H s Q u s'):EP X pins σ Q u s':=by
 obtain ⟨v,H',os,bare,un,hok,r,q⟩:=h;obtain ⟨hh,g,d,t,os'⟩:=s';obtain rfl:os'=s.os:=os;exact ⟨v,H',I.call (h':=hh) (g':=g) (d':=d) (t':=t) (ch:=[]) un hok bare (fun b z=>absurd z (by simp)),r,q⟩
end
def tCall (sp:Sp) (dvs:List V) (E:XK) (t:TA):TE:=fun σ H Q=>t σ H fun vs H1=>sp (vs ++ dvs) H1 Q E
def Binds (K:PySem.W.Frag) (fd:FuncData) (ps:List Str) (ds:List Value):Prop:=
 ∀(s:Shared) (us:List Value),K.In s.heap->(us ++ ds).length=ps.length->BindsTo s fd ⟨us,[]⟩ (ps.zip (us ++ ds))
theorem Binds.all {K:PySem.W.Frag}{fd:FuncData}{ps:List Str}(h:∀us:List Value,us.length=ps.length->bindArgs fd ⟨us,[]⟩=pure (ps.zip us)):Binds K fd ps []:=fun s us _ hl=>by
 rw [yE] at hl ⊢;exact .of_eq (h us hl)
def Passes (CX:CXT) (X:Cx) (E:XK):Prop:=∀(pins:List (Addr×Obj)) (σ:St) (H:Hp) (s:Shared) (e:Value) (s':Shared),Inv X pins σ H s->CX X.stack H s E e s'->X.xe e s'
section
variable {X:Cx}{CX:CXT}{k:Nat}{f:Addr}{fd:FuncData}{ps:List Str}{sp:Sp}{dvs:List V}{ds:List Value}{E:XK}{x:Str}{p pos:Pos}{e:Expr}{es:List Expr}{t:TA}
theorem b4m {pins:List (Addr×Obj)}{σ:St}{H:Hp}{s:Shared}{Q:VK}{us:List Value}{vs:List V}(F:FnOk X.prog X.w X.K X.mg X.base CX k f fd ps sp)(hr:Room k X.A)(hb:Binds X.K fd ps ds)(hd:Vals dvs ds)(hx:Passes CX X E)
  (I:Inv X pins σ H s) (r:Vals vs us) (h:sp (vs ++ dvs) H Q E):wpAny (model X.prog X.w) X.A (call (.ref f) us) (EP X pins σ Q) X.xe s:=by
 have r2:Vals (vs ++ dvs) (us ++ ds):=r.append hd;have hl:(us ++ ds).length=ps.length:=by rw [<-r2.length];exact F.len _ _ _ _ h
 refine wpAny_call (codeAny_mono (F.run X.A X.stack s H ⟨us,[]⟩ (us ++ ds) (vs ++ dvs) Q E hr I.env0 (hb s us I.kIn hl) r2 h) fun r s' hq=>?_);cases r with
 | error e=>exact hx pins σ H s e s' I hq
 | ok fl=>
  cases fl with
  | ret u=>exact I.after hq
  | next=>exact False.elim hq
  | brk=>exact False.elim hq
  | cont=>exact False.elim hq
theorem a4k (F:FnOk X.prog X.w X.K X.mg X.base CX k f fd ps sp)(hr:Room k X.A)(hg:Gl X x)(hm:X.mg x=some (.ref f))(hk:PySem.W.keepIn X.K (.ref f)=true)(hb:Binds X.K fd ps ds)(hd:Vals dvs ds)(hx:Passes CX X E)
  (ha:PA X (e :: es) t) (hdb:(x == ("__debug__":Str))=false:=by decide) (he:starEach (e :: es) X.env=(false,eval e X.env) :: starEach es X.env:=by rfl) (hpl:(backTo pos (starEach es X.env)).any (·.1)=false:=by rfl):
  PE X (.Call (.Name x p) (e :: es) [] pos) (tCall sp dvs E t):=by
 intro pins s σ H Q I h;refine yF (a6Z I hg hm ?_ hdb);refine PySem.W.callWith_K (h₀:=X.base) I.ok.mod.kin hk (thn (ha pos pins s σ H _ I h) fun us s1 h0=>ex5 h0 fun vs H1 I1 r q=>⟨I1.kIn,?_⟩) he hpl;exact b4m F hr hb hd hx I1 r q
end
structure FnScope (N P:List Str) (sc:Scope):Prop where
 kind:sc.kind= .function
 co:sc.isCoroutine=false
 gen:sc.isGenerator=false
 nd:N.Nodup
 pre:N.take P.length=P
 par:∀x∈P,sc.names.lookup x=some .local\/sc.names.lookup x=some .cell
 nofree:∀y∈sc.names,y.2≠.free
theorem a2D {kindOf:Str->Option NameKind}{x:Str}:∀{binds:List (Str×Value)} {m:Str->Option Value},(∀v,(x,v)∉binds)->bindL kindOf binds m x=m x
 | [],_,_=>rfl
 | (n,v) :: r,m,h=>by
  unfold bindL;rw [a2D fun w hw=>h w (zI _ hw)]
  split
  ·have:x≠n:=by rintro rfl;exact h v zH
   simp [this]
  ·rfl
theorem a3a {kindOf:Str->Option NameKind}{x:Str}:∀{binds:List (Str×Value)} {m:Str->Option Value},(∀v,(x,v)∉binds)->bindC kindOf binds m x=m x
 | [],_,_=>rfl
 | (n,v) :: r,m,h=>by
  unfold bindC;rw [a3a fun w hw=>h w (zI _ hw)]
  split
  ·rfl
  ·have:x≠n:=by rintro rfl;exact h v zH
   simp [this]
theorem a2N {kindOf:Str->Option NameKind}{x:Str}{v:Value}:∀{P:List Str} {vs:List Value} {i:Nat} {m:Str->Option Value},P.Nodup->P[i]? =some x->vs[i]? =some v->kindOf x=some .local->
  bindL kindOf (P.zip vs) m x=some v
 | [],_,_,_,_,h,_,_=>by simp at h
 | _ :: _,[],_,_,_,_,h,_=>by simp at h
 | p :: P,w :: vs,0,m,nd,h1,h2,hk=>by
  simp at h1 h2;subst h1;subst h2;show bindL kindOf ((p,w) :: P.zip vs) m p=_;unfold bindL;rw [a2D fun v hv=>(nodup_cons.mp nd).1 (of_mem_zip hv).1,if_pos hk];simp
 | p :: P,w :: vs,i + 1,m,nd,h1,h2,hk=>by
  show bindL kindOf ((p,w) :: P.zip vs) m x=_;unfold bindL;exact a2N (i:=i) (nodup_cons.mp nd).2 (by simpa using h1) (by simpa using h2) hk
theorem a2B {kindOf:Str->Option NameKind}{x:Str}{v:Value}:∀{P:List Str} {vs:List Value} {i:Nat} {m:Str->Option Value},P.Nodup->P[i]? =some x->vs[i]? =some v->kindOf x≠some .local->
  bindC kindOf (P.zip vs) m x=some v
 | [],_,_,_,_,h,_,_=>by simp at h
 | _ :: _,[],_,_,_,_,h,_=>by simp at h
 | p :: P,w :: vs,0,m,nd,h1,h2,hk=>by
  simp at h1 h2;subst h1;subst h2;show bindC kindOf ((p,w) :: P.zip vs) m p=_;unfold bindC;rw [a3a fun v hv=>(nodup_cons.mp nd).1 (of_mem_zip hv).1,if_neg hk];simp
 | p :: P,w :: vs,i + 1,m,nd,h1,h2,hk=>by
  show bindC kindOf ((p,w) :: P.zip vs) m x=_;unfold bindC;exact a2B (i:=i) (nodup_cons.mp nd).2 (by simpa using h1) (by simpa using h2) hk
def start (N:List Str) (vs:List V):St:=vs.map some ++ List.replicate (N.length - vs.length) none
def cxOf (CX:CXT) (P:Program) (w:World) (K:PySem.W.Frag) (mg:Str->Option Value) (base:Heap) (N:List Str) (qual:Str) (scope:Scope) (f:Addr) (cd:Value) (A:Around) (outer:List Env) (s:Shared) (H:Hp) (E:XK):Cx where
 prog:=P
 w:=w
 K:=K
 mg:=mg
 base:=base
 A:=A.deeper (envOfC qual scope s.heap.objs.size f cd)
 N:=N
 s₀:=s
 H₀:=H
 env:=envOfC qual scope s.heap.objs.size f cd
 outer:=outer
 stack:=envOfC qual scope s.heap.objs.size f cd :: outer
 ex:=[]
 calm:=true
 fn:=fun _=>true
 pn:=[]
 xe:=fun e s'=>wpAny (model P w) (A.deeper (envOfC qual scope s.heap.objs.size f cd)) (leaving (envOfC qual scope s.heap.objs.size f cd) e) (fun _ s''=>CX outer H s E e s'') (fun e' s''=>CX outer H s E e' s'') s'
theorem a4L {sc:Scope}{n:Nat}{x:Str}(h:sc.names.lookup x=some .cell):∃c,(cellsFrom n sc.names []).lookup x=some c:=by
 have q:=PySem.W.cellsFrom_some sc.names n [] (.inl h);exact isSome_iff_exists.mp q
theorem a7J {CX:CXT}{P:Program}{w:World}{K:PySem.W.Frag}{mg:Str->Option Value}{base:Heap}{N ps:List Str}{qual:Str}{scope:Scope}{f:Addr}{cd:Value}{A:Around}{outer:List Env}{s s1:Shared}{H:Hp}{E:XK}{us:List Value}{vs:List V}
  (S:FnScope N ps scope) (hd:A.handled=none) (e0:Env0 P w K mg base A outer s H) (hl:vs.length=ps.length) (r:Vals vs us)
  (x:InCallC s s.heap.objs.size (bindL (envOfC qual scope s.heap.objs.size f cd).kindOf (ps.zip us) fun _=>none) (cellsFrom (s.heap.objs.size + 1) scope.names []) (bindC (envOfC qual scope s.heap.objs.size f cd).kindOf (ps.zip us) fun _=>none) s1):
  Inv (cxOf CX P w K mg base N qual scope f cd A outer s H E) [] (start N vs) H s1:=by
 have hpl:ps.length<=N.length:=by have:=congrArg List.length S.pre;rw [length_take] at this;walk_at "o"
 obtain ⟨h1,tk,rfl,hk⟩:=x.done;have noA:∀b:Addr,b∉(cxOf CX P w K mg base N qual scope f cd A outer s H E).ex:=fun b z=>absurd (show b∈([]:List Addr) from z) (by simp)
 refine ⟨⟨e0.mod,S.kind,rfl,rfl,zE _,fun y z c h1 h2=>?_,fun y hy=>?_,fun y c _ h=>?_,fun _=>hd,Around.frames_deeper e0.frames,.inr ⟨rfl,rfl⟩,fun b z=>absurd z (noA b),e0.bs,e0.bsz,fun b _ _=>noA b,fun b z=>absurd z (noA b),e0.funs,e0.frf⟩,
  rfl,e0.bare,Un.kept hk,⟨_,x.toInCall.ns,fun i y v h1 h2 h3=>?_⟩,fun y c h=>⟨_,x.cell y c h⟩,e0.hok.fresh (zE _),fun y c h=>?_,fun p hp=>absurd (show p∈([]:List (Addr×Obj)) from hp) (by simp),e0.hok.kept hk,?_⟩
 ·exact name_of_addr x.apart (xZ h1) (xZ h2)
 ·have hy:scope.names.lookup y=some .cell\/scope.names.lookup y=some .free:=hy;rcases hy with hy | hy
  ·exact a4L hy
  ·exact absurd rfl (S.nofree _ (xZ hy))
 ·exact Nat.le_of_lt (x.above y c (xZ h))
 ·have hi:i < vs.length:=by
   unfold start at h2
   by_cases hi:i < vs.length
   ·exact hi
   ·rw [qJ (by simpa using hi)] at h2
    rw [yG] at h2;split at h2 <;> cases h2
  have ha:vs[i]? =some v:=by
   unfold start at h2;rw [qC (by simpa using hi),qA] at h2
   cases e:vs[i]? with
   | none=>rw [e] at h2;cases h2
   | some a=>rw [e] at h2;cases h2;rfl
  obtain ⟨u,hu,rv⟩:=r.get ha;have hp:ps[i]? =some y:=by
   rw [<-S.pre,List.getElem?_take_of_lt (by walk_at "o")];exact h1
  have ndP:ps.Nodup:=by rw [<-S.pre];exact S.nd.sublist (List.take_sublist _ _)
  refine ⟨u,rv,?_⟩;rcases S.par y (jV hp) with k | k
  ·exact .inl ⟨k,a2N ndP hp hu k⟩
  ·obtain ⟨c,e⟩:=a4L (n:=s.heap.objs.size + 1) k;refine .inr ⟨.inl k,c,e,?_⟩;have q:=x.cell y c e;rw [a2B ndP hp hu (by show scope.names.lookup y≠_;rw [k];decide)] at q
   exact q
 ·exact e0.hok.fresh (Nat.le_of_lt (x.above y c (xZ h)))
 ·unfold start;show _=N.length;rw [zT,zD,length_replicate];walk_at "o"
theorem fn_of {CX:CXT}{P:Program}{w:World}{K:PySem.W.Frag}{mg:Str->Option Value}{base:Heap}{k:Nat}{f:Addr}{name qual:Str}{params:Arguments}{body:List Stmt}{scope:Scope}{dV kV doc pm cdv ct oc:Value}{an od:Option Addr}
  {osl:Array (Option Value)} {N ps:List Str} {sp:Sp} (lk:K.lookup f=some ⟨oc,od,.func (PySem.W.fnOf name qual params body scope dV kV doc pm an cdv ct),osl⟩) (hcd:PySem.W.codeIn K cdv qual=true) (S:FnScope N ps scope)
  (len:∀vs H Q E,sp vs H Q E->vs.length=ps.length)
  (hbody:∀(A:Around) (outer:List Env) (s:Shared) (H:Hp) (vs:List V) (Q:VK) (E:XK),Room k (A.deeper (envOfC qual scope s.heap.objs.size f cdv))->sp vs H Q E->
   ∃t,PSs (cxOf CX P w K mg base N qual scope f cdv A outer s H E) body t/\t {nx:=fun _ H'=>Q .non H',rt:=Q} (start N vs) H):
  FnOk P w K mg base CX (k + 1) f (PySem.W.fnOf name qual params body scope dV kV doc pm an cdv ct) ps sp:=by
 refine ⟨len,fun A outer s H args us vs Q E hr e0 hb r hsp=>?_⟩;have hl:=len _ _ _ _ hsp;have KX:K.In s.heap:=e0.mod.kin.keeps fun b o e=>(e0.bs b o e).1;have lim:s.heap.NoLimit:=e0.mod.nolimit.keeps fun b o e=>(e0.bs b o e).1;have hkind:∀y∈ps.zip us,scope.names.lookup y.1=some .local\/(scope.names.lookup y.1=some .cell/\((cellsFrom (s.heap.objs.size + 1) scope.names []).lookup y.1).isSome=true):=fun ⟨n,v⟩ hy=>by
  rcases S.par n (of_mem_zip hy).1 with q | q
  ·exact .inl q
  ·exact .inr ⟨q,PySem.W.cellsFrom_some _ _ _ (.inl q)⟩
 refine codeAny_call_function hr.depth (KX _ _ lk) rfl S.co S.gen rfl (PySem.W.codeRec_of KX hcd) (hb _ _ _ _ ?_);refine wpAny_newFunctionEnv_cells S.kind hkind fun env he s1 x=>?_;subst he;refine ⟨lim.keeps x.toInCall.keep,codeAny_func ?_⟩;obtain ⟨t,ht,hq⟩:=hbody A outer s H vs Q E (hr.deeper _) hsp;have I:Inv (cxOf CX P w K mg base N qual scope f cdv A outer s H E) [] (start N vs) H s1:=a7J S hr.hd e0 hl r x;refine zG (ht [] s1 (start N vs) H _ I hq) (fun fl s' hs=>?_) fun e s' hs=>hs;have fin:∀{σ':St} {H':Hp} {v:V} {u:Value},Inv (cxOf CX P w K mg base N qual scope f cdv A outer s H E) [] σ' H' s'->RelV v u->Q v H'->CE outer P w H s Q u s':=
  fun {σ' H' v u} J rv q=>⟨v,H',J.os,J.bare,J.base,J.hok,rv,q⟩
 cases fl with
 | ret u=>
  obtain ⟨v,σ',H',J,rv,q⟩:=hs;exact fin J rv q
 | next=>
  obtain ⟨σ',H',J,q⟩:=hs;exact fin (v:=V.non) (u:=Value.none) J rfl q
 | brk=>
  obtain ⟨_,_,_,q⟩:=hs;exact False.elim q
 | cont=>
  obtain ⟨_,_,_,q⟩:=hs;exact False.elim q
section
variable {X:Cx}{x:Str}{p pos:Pos}{e:Expr}{es:List Expr}{t:TA}{id T:String}{r:List V->Hp->VK->Prop}
def tCB (r:List V->Hp->VK->Prop) (t:TA):TE:=fun σ H Q=>t σ H fun vs H1=>r vs H1 Q
theorem a2l (hc:CallR X (.builtin id) r)(hg:Gl X x)(hm:X.mg x=none)(hv:bootBuiltins x=some (.builtin id))(ha:PA X (e :: es) t)(hn:x≠"__name__":=by decide)(hdb:(x == ("__debug__":Str))=false:=by decide)
  (he:starEach (e :: es) X.env=(false,eval e X.env) :: starEach es X.env:=by rfl) (hpl:(backTo pos (starEach es X.env)).any (·.1)=false:=by rfl):PE X (.Call (.Name x p) (e :: es) [] pos) (tCB r t):=by
 intro pins s σ H Q I h;refine yF (S4 I hg hm hv ?_ hn hdb);exact PyProof.Rows.callWith_builtin1 (thn (ha pos pins s σ H _ I h) fun us s1 h0=>ex5 h0 fun vs H1 I1 r1 q1=>hc pins s1 σ H1 vs us Q I1 r1 q1) he hpl
theorem a7X (hc:CallR X (.type T) r)(hg:Gl X x)(hm:X.mg x=none)(hv:bootBuiltins x=some (.type T))(ha:PA X (e :: es) t)(hn:x≠"__name__":=by decide)(hdb:(x == ("__debug__":Str))=false:=by decide)
  (he:starEach (e :: es) X.env=(false,eval e X.env) :: starEach es X.env:=by rfl) (hpl:(backTo pos (starEach es X.env)).any (·.1)=false:=by rfl):PE X (.Call (.Name x p) (e :: es) [] pos) (tCB r t):=by
 intro pins s σ H Q I h;refine yF (S4 I hg hm hv ?_ hn hdb);exact jF (thn (ha pos pins s σ H _ I h) fun us s1 h0=>ex5 h0 fun vs H1 I1 r1 q1=>hc pins s1 σ H1 vs us Q I1 r1 q1) he hpl
end
end L2
namespace HT
open PySem PyProof.Rows
def lexLt:List Int->List Int->Bool
 | [],[]=>false
 | [],_ :: _=>true
 | _ :: _,[]=>false
 | x :: xs,y :: ys=>if x=y then lexLt xs ys else decide (x < y)
theorem lexLt_cons (x y:Int)(xs ys:List Int):lexLt (x :: xs) (y :: ys)=if x=y then lexLt xs ys else decide (x < y):=rfl
theorem a2w:lexLt [] []=false:=rfl
theorem a2d (y:Int)(ys:List Int):lexLt [] (y :: ys)=true:=rfl
theorem a2h (x:Int)(xs:List Int):lexLt (x :: xs) []=false:=rfl
theorem a8K (A:Around)(s:Shared)(a:Int)(t:Tok)(c:Int)(u:Tok):∃e,SeqAt.EqAt A s (.int a t) (.int c u) e/\(e=true↔a=c):=
 ⟨(a == c),SeqAt.EqAt.int_int a t c u,by simp⟩
theorem a9d (A:Around)(s:Shared)(a:Int)(t:Tok)(c:Int)(u:Tok)(prog:Program)(w:World)(E:Value->Shared->Prop)(Q:Value->Shared->Prop)(h:Q (.bool (decide (a < c))) s):
  wpAny (model prog w) A (richCompare .Lt (.int a t) (.int c u)) Q E s:=
 (PyProof.Rows.lt_int h:wpAny (model prog w) A (compareOp .Lt (.int a t) (.int c u)) Q E s)
section
open PySem.SeqAt
open PySem.AutoSeq1 (wpAny_loadPart')
open PySem.MeetsSeq PySem.MeetsSeq2 PySem.MeetsSeq3
theorem a2u (l b:Addr)(items items2:Array Value)(n n2:Nat)(dd dd2:Option Addr)(sl sl2:Array (Option Value))(ns ms:List Int)(hi:IntsAre items.toList ns)(hj:IntsAre items2.toList ms):
  Meets (Builtin.«tuple.__lt__» ⟨[.ref l,.ref b],[]⟩)
   (fun _ R s=>s.heap.get? l=some {cls:=.type "tuple",dict:=dd,data:=.seq items n,slots:=sl}/\s.heap.get? b=some {cls:=.type "tuple",dict:=dd2,data:=.seq items2 n2,slots:=sl2}/\
    R (.ok (.ret (.bool (lexLt ns ms)))) s):=
 .of_wp fun prog w A R s h=>by
  obtain ⟨hp,g,d,tk,os⟩:=s;obtain ⟨hl,hb,h⟩:=h;have f2:=AutoSeq1.sub_tuple_tuple;have z1:items.size=ns.length:=by rw [<-hi.length];simp
  have z2:items2.size=ms.length:=by rw [<-hj.length];simp
  wp_walk using wpAny_loadPart' hl,wpAny_loadPart' hb,wpAny_forIn_list _ (fun rest b s'=>b.1=none/\s'=⟨hp,g,d,tk,os⟩/\∃(vs ws:List Value) (ns' ms':List Int),rest=vs.zip ws/\
   IntsAre vs ns'/\IntsAre ws ms'/\ns'.length + items2.size=ms'.length + items.size/\R (.ok (.ret (.bool (lexLt ns' ms')))) ⟨hp,g,d,tk,os⟩) _
  case turn=>
   rintro ⟨y,x⟩ rest b s' ⟨hb',rfl,vs,ws,ns',ms',hz,hvi,hwi,hlen,hR⟩;cases hvi with
   | nil=>rw [zip_nil_left] at hz;cases hz
   | cons a t hvi'=>
    cases hwi with
    | nil=>rw [List.zip_nil_right] at hz;cases hz
    | cons c u hwi'=>
     rw [jO] at hz;injection hz with hyx hrest
     injection hyx with hy hx
     subst hy hx;rw [lexLt_cons] at hR;simp only [qI] at hlen;obtain ⟨e,he,hiff⟩:=a8K A.in1 ⟨hp,g,d,tk,os⟩ a t c u;refine zA (he prog w _ _ ?_);cases e with
     | true=>
      rw [if_pos (hiff.mp rfl)] at hR
      wp_walk
      exact ⟨rfl,rfl,_,_,_,_,hrest,hvi',hwi',by walk_at "o",hR⟩
     | false=>
      rw [if_neg (fun q=>absurd (hiff.mpr q) zQ)] at hR;have hri:=a9d A.in1 ⟨hp,g,d,tk,os⟩ a t c u prog w
      wp_walk using hri
      exact ⟨_,rfl,by simpa using hR⟩
  case fin=>
   rintro ⟨b1,b2⟩ s' ⟨hb',rfl,vs,ws,ns',ms',hz,hvi,hwi,hlen,hR⟩;simp only at hb';subst hb';have hv:lexLt ns' ms'=decide (items.size < items2.size):=by
    cases hvi with
    | nil=>
     cases hwi with
     | nil=>
      simp only [jP] at hlen;rw [a2w];exact (qK (by walk_at "o")).symm
     | cons c u hw=>
      simp only [jP,qI] at hlen;rw [a2d];exact (qE (by walk_at "o")).symm
    | cons a t hv=>
     cases hwi with
     | nil=>
      simp only [jP,qI] at hlen;rw [a2h];exact (qK (by walk_at "o")).symm
     | cons c u hw=>
      rw [jO] at hz;cases hz
   rw [hv] at hR
   wp_walk
   exact ⟨_,rfl,by simpa [Builtin.Tuple.tupleCompareSizes] using hR⟩
  case h=>
   exact ⟨rfl,rfl,items.toList,items2.toList,ns,ms,rfl,hi,hj,by walk_at "o",h⟩
end
section
variable {prog:Program}{w:World}{A:Around}{E:Value->Shared->Prop}{s:Shared}
theorem lt_tupInts {l b:Addr}{items items2:Array Value}{ns ms:List Int}{Q:Value->Shared->Prop}(hl:IsTup s.heap l items)(hb:IsTup s.heap b items2)(hi:IntsAre items.toList ns)(hj:IntsAre items2.toList ms)
  (hu:A.units < cLine) (h:Q (.bool (lexLt ns ms)) s):wpAny (model prog w) A (compareOp .Lt (.ref l) (.ref b)) Q E s:=by
 obtain ⟨⟨cls,dd,data,sl⟩,ho,hc,n,hd⟩:=id hl;obtain ⟨⟨cls2,dd2,data2,sl2⟩,ho2,hc2,n2,hd2⟩:=id hb;simp only at hc hd hc2 hd2;subst hc hd hc2 hd2;exact richCompare_meets_room (op:=.Lt) ⟨_,ho,rfl⟩ ⟨_,ho2,rfl⟩ PySem.F.slot_tuple_lt PySem.F.entry_tuple_lt (PySem.F.args_tuple_lt_2 _ _) (a2u l b items items2 n n2 dd dd2 sl sl2 ns ms hi hj)
  ⟨ho,ho2,show Value.bool (lexLt ns ms)≠Value.notImplemented/\Q (.bool (lexLt ns ms)) s from ⟨(fun x=>nomatch x),h⟩⟩ hu
theorem cat_tup {t b:Addr}{vs ws:List Value}{Q:Value->Shared->Prop}(ht:IsTup s.heap t vs.toArray)(hb:IsTup s.heap b ws.toArray)(hv:vs≠[])
  (h1:ws=[]->Q (.ref t) s) (h2:ws≠[]->Q (.ref s.heap.objs.size) {s with heap:=s.heap.push {cls:=.type "tuple",data:=.seq (vs ++ ws).toArray}})
  (hsz:vs.length + ws.length<=sizeLine):wpAny (model prog w) A (binaryOp .Add (.ref t) (.ref b)) Q E s:=by
 obtain ⟨⟨cls,dd,data,sl⟩,ho,hc,n,hd⟩:=id ht;obtain ⟨⟨cls2,dd2,data2,sl2⟩,ho2,hc2,n2,hd2⟩:=id hb;simp only at hc hd hc2 hd2;subst hc hd hc2 hd2;have e:vs.toArray ++ ws.toArray=(vs ++ ws).toArray:=by simp
 by_cases hw:ws=[]
 ·exact concat_meets ⟨_,ho,rfl⟩ ⟨_,ho2,rfl⟩ noFill_tuple_add seq_tuple_add PySem.F.slot_tuple_add PySem.F.entry_tuple_add (PySem.F.args_tuple_add_2 _ _)
   (tuple_addW1 t b vs.toArray ws.toArray n n2 dd dd2 sl sl2 (by simpa using hv) (by simp [hw])) ⟨ho,ho2,h1 hw⟩
 ·refine concat_meets ⟨_,ho,rfl⟩ ⟨_,ho2,rfl⟩ noFill_tuple_add seq_tuple_add PySem.F.slot_tuple_add PySem.F.entry_tuple_add (PySem.F.args_tuple_add_2 _ _)
   (tuple_addW2 t b vs.toArray ws.toArray n n2 dd dd2 sl sl2 (by simpa using hv) (by simpa using hw) (by rw [zR,zR];exact hsz)) ⟨ho,ho2,?_⟩
  rw [e];exact h2 hw
def sIx (n d:Nat):Option Int->Nat
 | none=>d
 | some v=>if v < 0 then (v + (n:Int)).toNat else min v.toNat n
theorem b3I (n d:Nat)(hd:d<=n)(o:Option Int):sIx n d o<=n:=by
 cases o with
 | none=>exact hd
 | some v=>
  show (if v < 0 then (v + (n:Int)).toNat else min v.toNat n)<=n
  by_cases hv:v < 0
  ·rw [if_pos hv];walk_at "o"
  ·rw [if_neg hv];exact Nat.min_le_right _ _
theorem a7j (v:Int)(n d:Nat):(if v < 0 then max (v + (n:Int)) 0 else min v (n:Int))=((sIx n d (some v):Nat):Int):=by
 show (if v < 0 then max (v + (n:Int)) 0 else min v (n:Int))=(((if v < 0 then (v + (n:Int)).toNat else min v.toNat n):Nat):Int)
 by_cases hv:v < 0
 ·simp only [if_pos hv];walk_at "o"
 ·simp only [if_neg hv];walk_at "o"
theorem a5C (lo hi:Option Int)(n:Nat):Builtin.Slice.sliceAdjust lo hi 1 (n:Int)=(((sIx n 0 lo:Nat):Int),((sIx n n hi:Nat):Int)):=by
 have h1:¬((1:Int) < 0):=by walk_at "o"
 unfold Builtin.Slice.sliceAdjust;simp only [h1,jW];refine Prod.ext ?_ ?_
 ·cases lo with
  | none=>rfl
  | some v=>exact a7j v n 0
 ·cases hi with
  | none=>rfl
  | some v=>exact a7j v n n
theorem a5L (i j:Nat):Builtin.Slice.slicePlaces (i:Int) (j:Int) 1=j - i:=by
 unfold Builtin.Slice.slicePlaces;have h1:(1:Int) > 0:=by walk_at "o"
 simp only [h1,qQ,Int.ediv_one]
 split <;> walk_at "o"
theorem a18 {v:Value}{o:Option Int}{Q:Option Int->Shared->Prop}(p:IsPart v o)(h:Q o s):wpAny (model prog w) A (Builtin.Slice.slicePartIndex v) Q E s:=by
 cases p with
 | none=>exact slicePart_none h
 | int i t=>exact slicePart_int h
theorem sliceApplied_gen {sl:Addr}{vl vu:Value}{lo hi:Option Int}{n:Nat}{Q:Int×Int×Nat->Shared->Prop}(hs:s.heap.IsSliceOf sl vl vu .none)(pl:IsPart vl lo)(pu:IsPart vu hi)
  (h:Q (((sIx n 0 lo:Nat):Int),1,sIx n n hi - sIx n 0 lo) s):wpAny (model prog w) A (Builtin.Slice.sliceApplied (.ref sl) (pure (n:Int))) Q E s:=by
 obtain ⟨os,hos,hcs,hds⟩:=id hs;unfold Builtin.Slice.sliceApplied Builtin.Slice.sliceFields;refine zA (zA (jJ hos hds (x:=vl) rfl (zA (jJ hos hds (x:=vu) rfl (zA (jJ hos hds (x:=.none) rfl (zC ?_)))))));refine zA (slicePart_none ?_);show wpAny _ _ (if ((1:Int) == 0)=true then _ else _) _ _ s;rw [if_neg (by decide)]
 refine zA (a18 pl (zA (a18 pu (zA (zC ?_)))));show wpAny _ _ (match Builtin.Slice.sliceAdjust lo hi 1 (n:Int) with | (lo,hi)=>pure (lo,(1:Int),Builtin.Slice.slicePlaces lo hi 1)) _ _ s
 rw [a5C lo hi n];show wpAny _ _ (pure (((sIx n 0 lo:Nat):Int),(1:Int),Builtin.Slice.slicePlaces ((sIx n 0 lo:Nat):Int) ((sIx n n hi:Nat):Int) 1)) _ _ s;rw [a5L];exact zC h
theorem b0i (xs:Array Value)(i k:Nat):((List.range k).filterMap fun (m:Nat)=>xs[((i:Int) + (m:Int) * 1).toNat]?).toArray=((xs.toList.drop i).take k).toArray:=by
 have e:(fun (m:Nat)=>xs[((i:Int) + (m:Int) * 1).toNat]?)=fun m=>xs[i + m]?:=by
  funext m
  have:((i:Int) + (m:Int) * 1).toNat=i + m:=by walk_at "o"
  rw [this]
 rw [e]
 have:=pick_run xs i k
 rw [List.filterMap_map] at this;have e2:((fun x=>xs[x]?) ∘ fun x=>i + x)=fun m=>xs[i + m]?:=rfl;rw [e2] at this;rw [this]
theorem getItem_tuple_cut {t sl:Addr}{items:Array Value}{vl vu:Value}{lo hi:Option Int}{Q:Value->Shared->Prop}(ht:IsTup s.heap t items)(hs:s.heap.IsSliceOf sl vl vu .none)(pl:IsPart vl lo)(pu:IsPart vu hi)
  (hw:¬(sIx items.size 0 lo=0/\sIx items.size items.size hi=items.size))
  (h:Q (.ref s.heap.objs.size) {s with heap:=s.heap.push {cls:=.type "tuple",data:=.seq ((items.toList.drop (sIx items.size 0 lo)).take (sIx items.size items.size hi - sIx items.size 0 lo)).toArray}})
  (hsz:items.size<=sizeLine):wpAny (model prog w) A (getItem (.ref t) (.ref sl)) Q E s:=by
 have htake:sizeOk (.seq ((items.toList.drop (sIx items.size 0 lo)).take (sIx items.size items.size hi - sIx items.size 0 lo)).toArray):=by
  show ((items.toList.drop (sIx items.size 0 lo)).take (sIx items.size items.size hi - sIx items.size 0 lo)).toArray.size<=sizeLine;rw [zR,length_take,length_drop,jB];omega
 have hj:sIx items.size items.size hi<=items.size:=b3I _ _ (zE _) hi;obtain ⟨os,hos,hcs,hds⟩:=id hs;have hTs:s.TypeIs (.ref sl) "slice":=⟨os,hos,hcs⟩;unfold getItem
 try with_reducible refine jD ?_
 first | refine zA (zC ?_) | skip
 refine zA (wpAny_sequenceKey ht.typeIs (by decide) ?_)
 refine zA (qU (name:=Str.ofString "__getitem__") ht.typeIs qT
  (jA qT ht.typeIs entry_tuple_getitem ?_ (args_tuple_getitem _ _)))
 show wpAny _ _ (Builtin.Tuple.tupleItemsOf (.ref t) >>=_) _ _ s;refine zA (tupleItemsOf_ ht ?_);refine zA (wpAny_typeOf hTs ?_);rw [if_pos (by decide)]
 refine zA (sliceApplied_gen hs pl pu ?_);have hno:¬((((sIx items.size 0 lo:Nat):Int) == 0 && (1:Int) == 1 && (sIx items.size items.size hi - sIx items.size 0 lo) == items.size)=true):=by
  intro q;rw [jH,jH] at q;have q1:((sIx items.size 0 lo:Nat):Int)=0:=eq_of_beq q.1.1;have q2:sIx items.size items.size hi - sIx items.size 0 lo=items.size:=eq_of_beq q.2;exact hw ⟨by omega,by omega⟩
 show wpAny _ _ (if (((sIx items.size 0 lo:Nat):Int) == 0 && (1:Int) == 1 && (sIx items.size items.size hi - sIx items.size 0 lo) == items.size)=true then _ else _) _ _ s;rw [if_neg hno,b0i]
 first
  | exact zA (m:=Builtin.Tuple.tupleExact _) (qH (zC ⟨_,rfl,zC h⟩) htake)
  | exact zA (m:=Builtin.Tuple.tupleExact _) (qH (zA (zC (zC ⟨_,rfl,zC h⟩))) htake)
  | exact zA (zA (m:=Builtin.Tuple.tupleExact _) (qH (zC (zC ⟨_,rfl,zC h⟩)) htake))
  | exact zA (zA (m:=Builtin.Tuple.tupleExact _) (qH (zC ⟨_,rfl,zC h⟩) htake))
end
end HT
namespace L2
open PySem PySem.Spec PyProof.Rows
abbrev TO:=St->Hp->(Option Int->Hp->Prop)->Prop
def PO (X:Cx) (e:Option Expr) (t:TO):Prop:=
 ∀(pins:List (Addr×Obj)) (s:Shared) (σ:St) (H:Hp) (Q:Option Int->Hp->Prop),Inv X pins σ H s->t σ H Q->
  wpAny (model X.prog X.w) X.A (evalPart e X.env) (fun u s'=>∃o H',Inv X pins σ H' s'/\IsPart u o/\Q o H') X.xe s
def tNoPart:TO:=fun _ H Q=>Q none H
def tPart (t:TE):TO:=fun σ H Q=>t σ H fun x H1=>∃i,x= .int i/\Q (some i) H1
theorem O3 {ns:List Int}:∀{us:List Value},Vals (ns.map V.int) us->IntsAre us ns:=by
 induction ns with
 | nil=>intro us r;rw [map_nil] at r;cases r;exact .nil
 | cons n ns ih=>
  intro us r;rw [zK] at r;cases r with
  | cons r1 r2=>
   obtain ⟨t,e⟩:=r1;subst e;exact .cons n t (ih r2)
section
variable {X:Cx}{e:Expr}{te:TE}{lo hi:Option Expr}{tl th:TO}{pos p2:Pos}
theorem b1Y:PO X none tNoPart:=by
 intro pins s σ H Q I h;rw [evalPart_none];exact zC ⟨none,H,I,.none,h⟩
theorem b2c (h:PE X e te):PO X (some e) (tPart te):=by
 intro pins s σ H Q I hw;rw [evalPart_some];refine thn (h pins s σ H _ I hw) fun u s1 h0=>ex5 h0 fun x H1 I1 r1 q1=>?_;obtain ⟨i,rfl,q⟩:=q1;obtain ⟨t,rfl⟩:=r1;exact ⟨some i,H1,I1,.int i t,q⟩
def SlR (X:Cx) (r:V->Option Int->Option Int->Hp->VK->Prop):Prop:=
 ∀(pins:List (Addr×Obj)) (s:Shared) (σ:St) (H:Hp) (x:V) (v vl vu:Value) (lo hi:Option Int) (sl:Addr) (Q:VK),Inv X pins σ H s->RelV x v->s.heap.IsSliceOf sl vl vu .none->IsPart vl lo->IsPart vu hi->r x lo hi H Q->
  ∃T id,typeLookup (.type T) "__getitem__"=pure (some (.builtin id))/\s.TypeIs v T/\wpAny (model X.prog X.w) X.A (getItem v (.ref sl)) (EP X pins σ Q) X.xe s
theorem SlR.or {r r':V->Option Int->Option Int->Hp->VK->Prop}(h:SlR X r)(h':SlR X r'):SlR X (fun x lo hi H Q=>r x lo hi H Q\/r' x lo hi H Q):=by
 intro pins s σ H x v vl vu lo hi sl Q I rx hs pl pu q;rcases q with q | q
 ·exact h pins s σ H x v vl vu lo hi sl Q I rx hs pl pu q
 ·exact h' pins s σ H x v vl vu lo hi sl Q I rx hs pl pu q
def tSl (r:V->Option Int->Option Int->Hp->VK->Prop) (te:TE) (tl th:TO):TE:=fun σ H Q=>te σ H fun x H1=>tl σ H1 fun l H2=>th σ H2 fun u H3=>r x l u H3 Q
theorem b0l {r:V->Option Int->Option Int->Hp->VK->Prop}(hr:SlR X r)(he:PE X e te)(hl:PO X lo tl)(hu:PO X hi th):PE X (.Subscript e (.Slice lo hi none p2) pos) (tSl r te tl th):=by
 intro pins s σ H Q I h;refine Subscript_ (thn (he pins s σ H _ I h) fun v s1 h0=>ex5 h0 fun x H1 I1 r1 q1=>?_);refine wpAny_Slice (thn (hl pins s1 σ H1 _ I1 q1) fun vl s2 ⟨l,H2,I2,pl,q2⟩=>thn (hu pins s2 σ H2 _ I2 q2) fun vu s3 ⟨u,H3,I3,pu,q3⟩=>?_);rw [evalPart_none];refine zC ?_;have I4:Inv X pins σ H3 {s3 with heap:=s3.heap.push {cls:=.type "slice",data:=.fields #[vl,vu,.none]}}:=I3.kept (t':=s3.toks) fun b ob q=>zF _ q
 obtain ⟨T,id,hT,ht,hg⟩:=hr pins {s3 with heap:=s3.heap.push {cls:=.type "slice",data:=.fields #[vl,vu,.none]}} σ H3 x v vl vu l u s3.heap.objs.size Q I4 r1 (Heap.IsSliceOf.new ..) pl pu q3
 show wpAny (model X.prog X.w) X.A (subscriptTail e (.Slice lo hi none p2) v (.ref s3.heap.objs.size)) (EP X pins σ Q) X.xe {s3 with heap:=s3.heap.push {cls:=.type "slice",data:=.fields #[vl,vu,.none]}}
 exact tail_any (ops:=[.ref s3.heap.objs.size,v]) ht hT hg (by with_unfolding_all rfl)
def cutV (xs:List V) (lo hi:Option Int):List V:=(xs.drop (HT.sIx xs.length 0 lo)).take (HT.sIx xs.length xs.length hi - HT.sIx xs.length 0 lo)
theorem a03 (xs:List V)(lo hi:Option Int):(cutV xs lo hi).length<=xs.length:=by
 unfold cutV;rw [length_take,length_drop];walk_at "o"
def rSlT (K:PySem.W.Frag):V->Option Int->Option Int->Hp->VK->Prop:=fun x lo hi H Q=>∃a xs,x= .ref a/\SqT K H a xs/\
 ¬(HT.sIx xs.length 0 lo=0/\HT.sIx xs.length xs.length hi=xs.length)/\∀p,H p=none->Q (.ref p) (upd H p (.tup (cutV xs lo hi)))
theorem b4q:SlR X (rSlT X.K):=by
 intro pins s σ H x v vl vu lo hi sl Q I rx hs pl pu h;obtain ⟨a,xs,rfl,hx,hw,q⟩:=h;cases rx;obtain ⟨its,r,ht,hz⟩:=I.tuple hx;have hlen:its.toArray.size=xs.length:=by rw [zR];exact r.length.symm
 refine ⟨"tuple",_,PyProof.Rows.slot_tuple_getitem.lookup,ht.typeIs,?_⟩;refine HT.getItem_tuple_cut ht hs pl pu (by rw [hlen];exact hw) ?_ (by rw [hlen];exact hz)
 rw [hlen];refine ⟨.ref s.heap.objs.size,_,I.laid (t':=s.toks) (o:=.tup (cutV xs lo hi)) (fun b ob q=>zF _ q) (zE _) ?_,rfl,q _ (I.hok.fresh (zE _))⟩;exact ⟨zY (a03 xs lo hi) hz,_,(r.drop (HT.sIx xs.length 0 lo)).take (HT.sIx xs.length xs.length hi - HT.sIx xs.length 0 lo),TupN.new _ _⟩
def rLtT (K:PySem.W.Frag):R2:=fun x y H Q=>∃a b ns ms,x= .ref a/\y= .ref b/\SqT K H a (ns.map V.int)/\SqT K H b (ms.map V.int)/\Q (.bl (HT.lexLt ns ms)) H
theorem a9t (hu:X.A.units < cLine):OpR X (compareOp .Lt) (rLtT X.K):=by
 intro pins s σ H x y v u Q I rx ry h;obtain ⟨a,b,ns,ms,rfl,rfl,ha,hb,q⟩:=h;cases rx;cases ry;obtain ⟨its,r1,p1,_⟩:=I.tuple ha;obtain ⟨its2,r2,p2,_⟩:=I.tuple hb;have i1:IntsAre its.toArray.toList ns:=O3 r1;have i2:IntsAre its2.toArray.toList ms:=O3 r2;exact HT.lt_tupInts p1 p2 i1 i2 hu ⟨.bl (HT.lexLt ns ms),H,I,rfl,q⟩
def rCatT (K:PySem.W.Frag):R2:=fun x y H Q=>∃a b xs ys,x= .ref a/\y= .ref b/\SqT K H a xs/\SqT K H b ys/\xs≠[]/\xs.length + ys.length<=sizeLine/\
 (ys=[]->Q (.ref a) H)/\(ys≠[]->∀p,H p=none->Q (.ref p) (upd H p (.tup (xs ++ ys))))
theorem Vals.nil_iff {xs:List V}{us:List Value}(r:Vals xs us):us=[]↔xs=[]:=by
 cases r with
 | nil=>simp
 | cons _ _=>simp
theorem b1V:OpR X (binaryOp .Add) (rCatT X.K):=by
 intro pins s σ H x y v u Q I rx ry h;obtain ⟨a,b,xs,ys,rfl,rfl,ha,hb,hx,hz,q1,q2⟩:=h;cases rx;cases ry;obtain ⟨its,r1,p1,_⟩:=I.tuple ha;obtain ⟨its2,r2,p2,_⟩:=I.tuple hb;refine HT.cat_tup p1 p2 (fun z=>hx (r1.nil_iff.mp z)) (fun z=>⟨.ref a,H,I,rfl,q1 (r2.nil_iff.mp z)⟩) (fun z=>?_) (by rw [<-r1.length,<-r2.length];exact hz)
 refine ⟨.ref s.heap.objs.size,_,I.laid (t':=s.toks) (o:=.tup (xs ++ ys)) (fun b ob q=>zF _ q) (zE _) ?_,rfl,q2 (fun w=>z (r2.nil_iff.mpr w)) _ (I.hok.fresh (zE _))⟩;exact ⟨by rw [zT];exact hz,_,r1.append r2,TupN.new _ _⟩
end
def ixN (n:Nat) (i:Int):Option Nat:=if 0<=i then (if i < n then some i.toNat else none) else if -(n:Int)<=i then some (i + n).toNat else none
def atI {α:Type} (xs:List α) (i:Int):Option α:=(ixN xs.length i).bind fun j=>xs[j]?
theorem a6r {n:Nat}{i:Int}{j:Nat}(h:ixN n i=some j):seqIndex? i n=some j/\j < n/\-(n:Int)<=i/\i < n:=by
 unfold ixN at h
 by_cases h0:0<=i
 ·rw [if_pos h0] at h
  by_cases h1:i < n
  ·rw [if_pos h1] at h;have e:i.toNat=j:=qR h;exact ⟨by rw [seqIndex_of h0 h1,e],by walk_at "o",by walk_at "o",h1⟩
  ·rw [if_neg h1] at h;cases h
 ·rw [if_neg h0] at h
  by_cases h1:-(n:Int)<=i
  ·rw [if_pos h1] at h;have e:(i + n).toNat=j:=qR h;exact ⟨by rw [seqIndex_neg (by walk_at "o") h1,e],by walk_at "o",h1,by walk_at "o"⟩
  ·rw [if_neg h1] at h;cases h
theorem a38 {α:Type}{xs:List α}{i:Int}{v:α}(h:atI xs i=some v):∃j,seqIndex? i xs.length=some j/\xs[j]? =some v/\j < xs.length/\-(xs.length:Int)<=i/\i < xs.length:=by
 unfold atI at h;cases e:ixN xs.length i with
 | none=>rw [e] at h;cases h
 | some j=>
  rw [e] at h;obtain ⟨h1,h2,h3,h4⟩:=a6r e;exact ⟨j,h1,h,h2,h3,h4⟩
theorem u9 {α:Type}{xs:List α}{j:Nat}{v:α}(h:xs[j]? =some v):atI xs (j:Int)=some v:=by
 have hj:j < xs.length:=(zJ.mp h).1;have e:ixN xs.length (j:Int)=some j:=by
  unfold ixN;rw [if_pos (by walk_at "o"),if_pos (by walk_at "o")];simp
 unfold atI;rw [e];exact h
def PlainIx (b:Expr):Prop:=∀o i,subscripted b false o i=operate [o,i] (getItem o i)
def IxR (X:Cx) (r:R2):Prop:=
 ∀(value slice:Expr) (pins:List (Addr×Obj)) (s:Shared) (σ:St) (H:Hp) (x y:V) (v u:Value) (Q:VK),Inv X pins σ H s->RelV x v->RelV y u->r x y H Q->
  subscripted slice false v u=operate [v,u] (getItem v u)->wpAny (model X.prog X.w) X.A (subscriptTail value slice v u) (EP X pins σ Q) X.xe s
def MtR (X:Cx) (id:String) (r:V->List V->Hp->VK->Prop):Prop:=
 ∀(pins:List (Addr×Obj)) (s:Shared) (σ:St) (H:Hp) (x:V) (xs:List V) (v:Value) (us:List Value) (Q:VK),Inv X pins σ H s->RelV x v->Vals xs us->r x xs H Q->
  wpAny (model X.prog X.w) X.A (call (.builtin id) (v :: us)) (EP X pins σ Q) X.xe s
section
variable {X:Cx}{a b:Expr}{ta tb:TE}{pos:Pos}
theorem IxR.or {r r':R2}(h:IxR X r)(h':IxR X r'):IxR X (fun x y H Q=>r x y H Q\/r' x y H Q):=by
 intro value slice pins s σ H x y v u Q I rx ry q hs;rcases q with q | q
 ·exact h value slice pins s σ H x y v u Q I rx ry q hs
 ·exact h' value slice pins s σ H x y v u Q I rx ry q hs
theorem pe_ix {r:R2}(hr:IxR X r)(ha:PE X a ta)(hb:PE X b tb)(hs:PlainIx b):PE X (.Subscript a b pos) (tOp r ta tb):=by
 intro pins s σ H Q I h;exact Subscript_ (binT ha hb I h fun v u s2 x y H2 I2 rx ry q=>hr a b pins s2 σ H2 x y v u Q I2 rx ry q (hs _ _))
def rIxL (K:PySem.W.Frag):R2:=fun x y H Q=>∃p xs i v,x= .ref p/\y= .int i/\SqL K H p xs/\atI xs i=some v/\Q v H
def rIxT (K:PySem.W.Frag):R2:=fun x y H Q=>∃p xs i v,x= .ref p/\y= .int i/\SqT K H p xs/\atI xs i=some v/\Q v H
def rIxS:R2:=fun x y H Q=>∃z i c,x= .str z/\y= .int i/\z.length<=sizeLine/\atI z.cps.toList i=some c/\Q (.str ⟨#[c]⟩) H
theorem b1Z:IxR X (rIxL X.K):=by
 intro value slice pins s σ H x y v u Q I rx ry h hs;obtain ⟨p,xs,i,z,rfl,rfl,hq,he,q⟩:=h;cases rx;obtain ⟨t,rfl⟩:=ry;obtain ⟨its,r,pl,hz⟩:=I.list hq;obtain ⟨j,h1,h2,h3,h4,h5⟩:=a38 he;obtain ⟨w,ew,rw'⟩:=r.get h2;have hl:=r.length;have hn:=line63;have fin:EP X pins σ Q w s:=⟨z,H,I,rw',q⟩
 by_cases h0:0<=i
 ·have hj:i.toNat=j:=by
   rw [seqIndex_of h0 h5] at h1;exact qR h1
  exact item_listR pl.isList h0 (by walk_at "o") (by rw [hj];simpa using ew) fin hs
 ·have hj:(i + (its.toArray.size:Int)).toNat=j:=by
   rw [seqIndex_neg (by walk_at "o") h4] at h1
   rw [zR,<-hl];exact qR h1
  exact yJ (x:=w) pl.isList.typeIs slot_list_getitem.lookup
   (wpAny_getItem_list_neg (Q:=fun r s'=>r=w/\EP X pins σ Q r s') pl.isList (by walk_at "o") (by rw [zR] <;> walk_at "o") (by walk_at "o") (by rw [hj];simpa using ew) ⟨rfl,fin⟩) hs
theorem b4b:IxR X (rIxT X.K):=by
 intro value slice pins s σ H x y v u Q I rx ry h hs;obtain ⟨p,xs,i,z,rfl,rfl,hq,he,q⟩:=h;cases rx;obtain ⟨t,rfl⟩:=ry;obtain ⟨its,r,pl,hz⟩:=I.tuple hq;obtain ⟨j,h1,h2,h3,h4,h5⟩:=a38 he;obtain ⟨w,ew,rw'⟩:=r.get h2;have hl:=r.length;have hn:=line63;have fin:EP X pins σ Q w s:=⟨z,H,I,rw',q⟩;exact yJ (x:=w) pl.typeIs slot_tuple_getitem.lookup
  (getItem_tuple (j:=j) (Q:=fun r s'=>r=w/\EP X pins σ Q r s') pl (by walk_at "o") (by walk_at "o") (by rw [zR,<-hl];exact h1) (by simpa using ew) ⟨rfl,fin⟩) hs
theorem b3O:IxR X rIxS:=by
 intro value slice pins s σ H x y v u Q I rx ry h hs;obtain ⟨z,i,c,rfl,rfl,hz,he,q⟩:=h;obtain ⟨t,rfl⟩:=rx;obtain ⟨t',rfl⟩:=ry;obtain ⟨j,h1,h2,h3,h4,h5⟩:=a38 he;have hl:z.cps.toList.length=z.length:=by simp [Str.length]
 rw [hl] at h1 h4 h5;have hn:=line63
 exact tail_any (typeIs_str s z t) slot_str_getitem.lookup (getItem_str (c:=c) (by
  have e1:decide (i < -(2 ^ 63:Int))=false:=qK (by walk_at "o")
  have e2:decide (i≥2 ^ 63)=false:=qK (by walk_at "o")
  rw [e1,e2,Bool.or_false]) (by rw [h1];simpa using h2) ⟨.str ⟨#[c]⟩,H,I.tok _,⟨_,rfl⟩,q⟩) hs
def rIx (K:PySem.W.Frag):R2:=fun x y H Q=>rIxL K x y H Q\/rIxT K x y H Q\/rIxS x y H Q
theorem b4j:IxR X (rIx X.K):=b1Z.or (b4b.or b3O)
theorem a5w (its:List Value)(n j:Nat)(u:Value):Obj.mapSeq (·.setIfInBounds j u) {cls:=.type "list",data:=.seq its.toArray n}={cls:=.type "list",data:=.seq (its.set j u).toArray n}:=by
 simp [Obj.mapSeq]
theorem Inv.lst {pins:List (Addr×Obj)}{σ:St}{H:Hp}{s:Shared}{p:Addr}{xs:List V}(I:Inv X pins σ H s)(h:H p=some (.lst xs)):
  ∃(its:List Value) (n:Nat),Vals xs its/\s.heap.get? p=some {cls:=.type "list",data:=.seq its.toArray n}/\xs.length<=sizeLine:=by
 obtain ⟨z,its,n,r,e⟩:=I.hok p _ h;exact ⟨its,n,r,e,z⟩
theorem Inv.lstUpd {pins:List (Addr×Obj)}{σ:St}{H:Hp}{s:Shared}{p:Addr}{xs ys:List V}{its its':List Value}{n n':Nat}{f:Obj->Obj}(I:Inv X pins σ H s)(h:H p=some (.lst xs))
  (ho:s.heap.get? p=some {cls:=.type "list",data:=.seq its.toArray n}) (hf:f {cls:=.type "list",data:=.seq its.toArray n}={cls:=.type "list",data:=.seq its'.toArray n'}) (r:Vals ys its') (hz:ys.length<=sizeLine) (t:Nat):
  Inv X pins σ (upd H p (.lst ys)) {s with heap:=s.heap.update p f,toks:=t}:=by
 have e:(s.heap.update p f).get? p=some {cls:=.type "list",data:=.seq its'.toArray n'}:=by
  rw [Heap.get?_update_self f ho (by rw [hf] <;> rfl),hf]
 refine I.write (x:=p) (e:=p) (by rw [h];trivial) (.inl rfl) (fun b u hb q=>(Heap.get?_update_other _ _ (qO hb)).trans q) ⟨_,e⟩ ?_
 exact ⟨hz,its',n',r,e⟩
def rSetL:V->V->V->Hp->(Hp->Prop)->Prop:=fun o i v H Q=>∃p xs k j,o= .ref p/\i= .int k/\H p=some (.lst xs)/\ixN xs.length k=some j/\Q (upd H p (.lst (xs.set j v)))
theorem b0E:PSet X rSetL:=by
 intro pins s σ H o i v ov iv u Q I ro ri rv h;obtain ⟨p,xs,k,j,rfl,rfl,hp,hj,q⟩:=h;cases ro;obtain ⟨t,rfl⟩:=ri;obtain ⟨its,n,r,ho,hz⟩:=I.lst hp;obtain ⟨h1,h2,h3,h4⟩:=a6r hj;have hl:=r.length;have hn:=line63;have I':Inv X pins σ (upd H p (.lst (xs.set j v))) {s with heap:=s.heap.update p (Obj.mapSeq (·.setIfInBounds j u))}:=
  I.lstUpd hp ho (a5w its n j u) (r.set rv j) (by rw [qL];exact hz) s.toks
 by_cases h0:0<=k
 ·have hk:k.toNat=j:=by
   rw [seqIndex_of h0 h4] at h1;exact qR h1
  exact PySem.W.ki_setAt ho h0 (by walk_at "o") (by rw [zR,<-hl];exact h4) (by rw [hk];exact ⟨_,I',q⟩)
 ·have hk:(k + (its.toArray.size:Int)).toNat=j:=by
   rw [seqIndex_neg (by walk_at "o") h3] at h1
   rw [zR,<-hl];exact qR h1
  exact PySem.W.ki_setBack ho (by walk_at "o") (by rw [zR,<-hl];exact h3) (by walk_at "o") (by rw [hk];exact ⟨_,I',q⟩)
theorem a3D (lo hi:Option Int)(n:Nat):(sliceBounds lo hi none n).1=((HT.sIx n 0 lo:Nat):Int)/\(sliceBounds lo hi none n).2.1=((HT.sIx n n hi:Nat):Int)/\(sliceBounds lo hi none n).2.2=1:=by
 refine ⟨?_,?_,rfl⟩
 ·cases lo with
  | none=>simp [sliceBounds,HT.sIx]
  | some i=>
   simp only [sliceBounds,HT.sIx,getD_none,show (1:Int) > 0 by decide,qQ]
   by_cases h:i < 0
   ·simp only [h,qQ] <;> walk_at "o"
   ·simp only [h,jW] <;> walk_at "o"
 ·cases hi with
  | none=>simp [sliceBounds,HT.sIx]
  | some i=>
   simp only [sliceBounds,HT.sIx,getD_none,show (1:Int) > 0 by decide,qQ]
   by_cases h:i < 0
   ·simp only [h,qQ] <;> walk_at "o"
   ·simp only [h,jW] <;> walk_at "o"
theorem a2r (its:List Value)(lo hi:Option Int):slicePick its.toArray lo hi none=((its.drop (HT.sIx its.length 0 lo)).take (HT.sIx its.length its.length hi - HT.sIx its.length 0 lo)).toArray:=by
 obtain ⟨h1,h2,h3⟩:=a3D lo hi its.toArray.size;unfold slicePick;rw [h1,h2,h3];simp only [sliceRange_one,pick_run,zR] <;> rfl
def rSlL (K:PySem.W.Frag):V->Option Int->Option Int->Hp->VK->Prop:=fun x lo hi H Q=>∃a xs,x= .ref a/\SqL K H a xs/\∀p,H p=none->Q (.ref p) (upd H p (.lst (cutV xs lo hi)))
theorem b1d:SlR X (rSlL X.K):=by
 intro pins s σ H x v vl vu lo hi sl Q I rx hs pl pu h;obtain ⟨a,xs,rfl,hx,q⟩:=h;cases rx;obtain ⟨its,r,ht,hz⟩:=I.list hx;have hlen:=r.length;refine ⟨"list",_,slot_list_getitem.lookup,ht.isList.typeIs,?_⟩;refine wpAny_getItem_list_slice ht.isList hs pl pu .none (by simp) ?_ (by rw [zR] <;> walk_at "o")
 rw [a2r,<-hlen];refine ⟨.ref s.heap.objs.size,_,I.laid (t':=s.toks) (o:=.lst (cutV xs lo hi)) (fun b ob q=>zF _ q) (zE _) ?_,rfl,q _ (I.hok.fresh (zE _))⟩;exact ⟨zY (a03 xs lo hi) hz,_,0,(r.drop (HT.sIx xs.length 0 lo)).take (HT.sIx xs.length xs.length hi - HT.sIx xs.length 0 lo),qB _ rfl⟩
def flatV:V->Bool
 | .non=>true
 | .bl _=>true
 | .int _=>true
 | .str _=>true
 | _=>false
def eqV:V->V->Bool
 | .non,.non=>true
 | .bl a,.bl b=>a == b
 | .bl a,.int b=>(if a then 1 else 0) == b
 | .int a,.bl b=>a == (if b then 1 else 0)
 | .int a,.int b=>a == b
 | .str a,.str b=>a == b
 | _,_=>false
theorem b4c {A:Around}{s:Shared}{y x:V}{u v:Value}(ry:RelV y u)(rx:RelV x v)(fy:flatV y=true)(fx:flatV x=true):SeqAt.EqAt A s u v (eqV y x):=by
 cases y with
 | non=>
  cases ry;cases x with
  | non=>cases rx;exact SeqAt.EqAt.same _
  | bl b=>cases rx;exact SeqAt.EqAt.none_bool b
  | int b=>obtain ⟨t,rfl⟩:=rx;exact SeqAt.EqAt.none_int b t
  | str b=>obtain ⟨t,rfl⟩:=rx;exact SeqAt.EqAt.none_str b t
  | _=>exact absurd (show false=true from fx) zQ
 | bl a=>
  cases ry;cases x with
  | non=>cases rx;exact SeqAt.EqAt.bool_none a
  | bl b=>cases rx;exact SeqAt.EqAt.bool_bool a b
  | int b=>obtain ⟨t,rfl⟩:=rx;exact SeqAt.EqAt.bool_int a b t
  | str b=>obtain ⟨t,rfl⟩:=rx;exact SeqAt.EqAt.bool_str a b t
  | _=>exact absurd (show false=true from fx) zQ
 | int a=>
  obtain ⟨t',rfl⟩:=ry;cases x with
  | non=>cases rx;exact SeqAt.EqAt.int_none a t'
  | bl b=>cases rx;exact SeqAt.EqAt.int_bool a t' b
  | int b=>obtain ⟨t,rfl⟩:=rx;exact SeqAt.EqAt.int_int a t' b t
  | str b=>obtain ⟨t,rfl⟩:=rx;exact SeqAt.EqAt.int_str a t' b t
  | _=>exact absurd (show false=true from fx) zQ
 | str a=>
  obtain ⟨t',rfl⟩:=ry;cases x with
  | non=>cases rx;exact SeqAt.EqAt.str_none a t'
  | bl b=>cases rx;exact SeqAt.EqAt.str_bool a t' b
  | int b=>obtain ⟨t,rfl⟩:=rx;exact SeqAt.EqAt.str_int a t' b t
  | str b=>obtain ⟨t,rfl⟩:=rx;exact SeqAt.EqAt.str_str a t' b t
  | _=>exact absurd (show false=true from fx) zQ
 | _=>exact absurd (show false=true from fy) zQ
def eqU (x:V) (u:Value):Bool:=match u with
 | .none=>eqV .non x
 | .bool b=>eqV (.bl b) x
 | .int i _=>eqV (.int i) x
 | .str z _=>eqV (.str z) x
 | _=>false
theorem b0M {x y:V}{u:Value}(r:RelV y u)(f:flatV y=true):eqU x u=eqV y x:=by
 cases y with
 | non=>cases r;rfl
 | bl b=>cases r;rfl
 | int i=>obtain ⟨t,rfl⟩:=r;rfl
 | str z=>obtain ⟨t,rfl⟩:=r;rfl
 | _=>exact absurd (show false=true from f) zQ
theorem a3J {x:V}:∀{xs:List V} {us:List Value},Vals xs us->xs.all flatV=true->us.any (eqU x)=xs.any fun y=>eqV y x
 | _,_,.nil,_=>rfl
 | y :: xs,u :: us,.cons r t,f=>by
  rw [all_cons,jH] at f;rw [any_cons,any_cons,b0M r f.1,a3J t f.2]
theorem a1u {A:Around}{s:Shared}{x:V}{v:Value}(rx:RelV x v)(fx:flatV x=true):∀{xs:List V} {us:List Value},Vals xs us->xs.all flatV=true->∀u∈us,SeqAt.EqAt A s u v (eqU x u)
 | _,_,.nil,_=>fun u hu=>by cases hu
 | y :: xs,u :: us,.cons r t,f=>fun u' hu=>by
  rw [all_cons,jH] at f;rcases zS.mp hu with rfl | hu
  ·rw [b0M r f.1];exact b4c r rx f.1 fx
  ·exact a1u rx fx t f.2 u' hu
def inV (x:V) (xs:List V):Bool:=xs.any fun y=>eqV y x
def rIn (K:PySem.W.Frag) (neg:Bool):R2:=fun x y H Q=>∃p xs,y= .ref p/\(SqL K H p xs\/SqT K H p xs)/\flatV x=true/\xs.all flatV=true/\Q (.bl (if neg then !inV x xs else inV x xs)) H
theorem a29:OpR X (compareOp .In) (rIn X.K false):=by
 intro pins s σ H x y v u Q I rx ry h;obtain ⟨p,xs,rfl,hq,fx,fs,q⟩:=h;cases ry;rcases hq with hq | hq
 ·obtain ⟨its,r,pl,hz⟩:=I.list hq;refine SeqAt.in_listAt (eqU x) pl.isList (fun w hw=>a1u rx fx r fs w (by simpa using hw)) ⟨.bl _,H,I,rfl,?_⟩
  rw [show its.toArray.any (eqU x)=its.any (eqU x) by simp,a3J r fs]
  exact q
 ·obtain ⟨its,r,pl,hz⟩:=I.tuple hq;refine SeqAt.in_tupleAt (eqU x) pl (fun w hw=>a1u rx fx r fs w (by simpa using hw)) ⟨.bl _,H,I,rfl,?_⟩
  rw [show its.toArray.any (eqU x)=its.any (eqU x) by simp,a3J r fs]
  exact q
theorem l5:CallR X (.builtin "len") (fun xs H Q=>∃p ys,xs=[.ref p]/\(SqL X.K H p ys\/SqT X.K H p ys)/\Q (.int ys.length) H):=by
 intro pins s σ H xs us Q I r h;obtain ⟨p,ys,rfl,hq,q⟩:=h;obtain ⟨u,rfl,rx⟩:=vals1 r;cases rx;have hn:=line63;rcases hq with hq | hq
 ·obtain ⟨its,r',pl,hz⟩:=I.list hq;have hlen:=r'.length;exact Calls.call_len_list pl.isList (by simp only [zR] <;> walk_at "o") ⟨.int ys.length,H,I.tok _,⟨s.toks + 1,by rw [zR,hlen]⟩,q⟩
 ·obtain ⟨its,r',pl,hz⟩:=I.tuple hq;have hlen:=r'.length;exact len_tuple pl (by simp only [zR] <;> walk_at "o") ⟨.int ys.length,H,I.tok _,⟨s.toks + 1,by rw [zR,hlen]⟩,q⟩
theorem CallR.or {f:Value}{r r':List V->Hp->VK->Prop}(h:CallR X f r)(h':CallR X f r'):CallR X f (fun xs H Q=>r xs H Q\/r' xs H Q):=by
 intro pins s σ H xs us Q I rs q;rcases q with q | q
 ·exact h pins s σ H xs us Q I rs q
 ·exact h' pins s σ H xs us Q I rs q
theorem a3m:CallR X (.type "list") (fun xs H Q=>∃p ys,xs=[.ref p]/\(SqL X.K H p ys\/SqT X.K H p ys)/\∀l,H l=none->Q (.ref l) (upd H l (.lst ys))):=by
 intro pins s σ H xs us Q I r h;obtain ⟨p,ys,rfl,hq,q⟩:=h;obtain ⟨u,rfl,rx⟩:=vals1 r;cases rx;have fin:∀(its:List Value),Vals ys its->ys.length<=sizeLine->∀(h':Heap) (c':Nat),(∀b o',s.heap.get? b=some o'->h'.get? b=some o')->
   h'.get? s.heap.objs.size=some {cls:=.type "list",dict:=none,data:=.seq its.toArray c',slots:= #[]}->EP X pins σ Q (.ref s.heap.objs.size) {s with heap:=h'}:=fun its r' hz h' c' kp e=>
  ⟨.ref s.heap.objs.size,_,I.laid (t':=s.toks) kp (zE _) (show ObjOk X.prog X.w _ h' _ (.lst ys) from ⟨hz,its,c',r',e⟩),rfl,q _ (I.hok.fresh (zE _))⟩
 rcases hq with hq | hq
 ·obtain ⟨its,r',pl,hz⟩:=I.list hq;have hlen:=r'.length;obtain ⟨o,ho,hc,n,hd⟩:=pl.isList;exact call_list_seq p (.inl rfl) ho hc hd (fun h' c' kp e=>fin its r' hz h' c' kp e) (by simp only [zR] <;> walk_at "o")
 ·obtain ⟨its,r',pl,hz⟩:=I.tuple hq;have hlen:=r'.length;obtain ⟨o,ho,hc,n,hd⟩:=pl;exact call_list_seq p (.inr rfl) ho hc hd (fun h' c' kp e=>fin its r' hz h' c' kp e) (by simp only [zR] <;> walk_at "o")
theorem D4:CallR X (.type "tuple") (fun xs H Q=>∃p ys,xs=[.ref p]/\((SqL X.K H p ys/\∀l,H l=none->Q (.ref l) (upd H l (.tup ys)))\/(SqT X.K H p ys/\Q (.ref p) H))):=by
 intro pins s σ H xs us Q I r h;obtain ⟨p,ys,rfl,h⟩:=h;obtain ⟨u,rfl,rx⟩:=vals1 r;cases rx;rcases h with ⟨hq,q⟩ | ⟨hq,q⟩
 ·obtain ⟨its,r',pl,hz⟩:=I.list hq;have hlen:=r'.length;refine call_tuple_list pl.isList (fun h' kp=>?_) (by simp only [zR] <;> walk_at "o")
  have I1:Inv X pins σ H {s with heap:=h'}:=I.kept (t':=s.toks) kp
  have I2:Inv X pins σ (upd H h'.objs.size (.tup ys)) {s with heap:=h'.push {cls:=.type "tuple",data:=.seq its.toArray}}:=
   I1.laid (t':=s.toks) (fun b o e=>zF _ e) (zE _) (show ObjOk X.prog X.w _ _ _ (.tup ys) from ⟨hz,its,r',TupN.new _ _⟩)
  exact ⟨.ref h'.objs.size,_,I2,rfl,q _ (I1.hok.fresh (zE _))⟩
 ·obtain ⟨its,r',pl,hz⟩:=I.tuple hq;exact call_tuple_same pl ⟨.ref p,H,I,rfl,q⟩
def tyV (K:PySem.W.Frag) (T:String) (x:V) (H:Hp):Prop:=match x with
 | .str _=>T="str"
 | .int _=>T="int"
 | .ref p=>(T="list"/\∃xs,SqL K H p xs)\/(T="tuple"/\∃o,K.lookup p=some o/\o.cls= .type "tuple"/\o.dict=none)\/
   (T="dict"/\((∃kvs,H p=some (.dK kvs))\/∃kvs,H p=some (.dT kvs)))\/(T="set"/\∃S n,H p=some (.set S n))
 | _=>False
theorem b3T {pins:List (Addr×Obj)}{σ:St}{H:Hp}{s:Shared}{T:String}{x:V}{v:Value}(I:Inv X pins σ H s)(r:RelV x v)(ty:tyV X.K T x H):
  s.TypeIs v T/\∀a,v= .ref a->∃ob,s.heap.get? a=some ob/\ob.dict=none:=by
 cases x with
 | str z=>
  obtain ⟨t,rfl⟩:=r;cases (show T="str" from ty);exact ⟨typeIs_str s z t,fun _ e=>nomatch e⟩
 | int i=>
  obtain ⟨t,rfl⟩:=r;cases (show T="int" from ty);exact ⟨typeIs_int s i t,fun _ e=>nomatch e⟩
 | ref p=>
  cases r;rcases ty with ⟨rfl,xs,hq⟩ | ⟨rfl,o,hk,hc,hd⟩ | ⟨rfl,hk⟩ | ⟨rfl,S,n,hk⟩
  ·obtain ⟨its,_,pl,_⟩:=I.list hq;refine ⟨pl.isList.typeIs,fun a e=>?_⟩;cases e;obtain ⟨o,n,e,c,hd,_⟩:=pl;exact ⟨o,e,hd⟩
  ·refine ⟨⟨o,I.kIn p o hk,hc⟩,fun a e=>?_⟩;cases e;exact ⟨o,I.kIn _ o hk,hd⟩
  ·have z:∃o,s.heap.get? p=some o/\o.ExactDict:=by
    rcases hk with ⟨kvs,hk⟩ | ⟨kvs,hk⟩
    ·obtain ⟨_,_,_,_,o,_,_,e,ex,_⟩:=I.hok p _ hk;exact ⟨o,e,ex⟩
    ·obtain ⟨_,_,_,_,o,_,_,e,ex,_⟩:=I.hok p _ hk;exact ⟨o,e,ex⟩
   obtain ⟨o,e,ex⟩:=z;refine ⟨⟨o,e,ex.1⟩,fun a e2=>?_⟩;cases e2;exact ⟨o,e,ex.2.1⟩
  ·obtain ⟨o,_,_,_,e,ex,_⟩:=I.hok p _ hk;refine ⟨⟨o,e,ex.1⟩,fun a e2=>?_⟩;cases e2;exact ⟨o,e,ex.2.1⟩
 | _=>exact False.elim ty
def tBM (K:PySem.W.Frag) (T:String) (r:V->List V->Hp->VK->Prop) (to:TE) (t:TA):TE:=fun σ H Q=>to σ H fun x H1=>tyV K T x H1/\t σ H1 fun xs H2=>r x xs H2 Q
variable {o e:Expr}{es:List Expr}{to:TE}{t:TA}{name:Str}{apos cpos:Pos}{T id:String}{r:V->List V->Hp->VK->Prop}
theorem b0r (pa:PlainAttrs T)(slot:Slot T name id)(hty:typeOf (.builtin id)=pure (.type "method_descriptor"))(hm:MtR X id r)(ho:PE X o to)(ha:PA X (e :: es) t)
  (hbase:attributeBase o name X.env (eval o X.env)=eval o X.env:=by rfl)
  (hfew:((backTo cpos (starEach (e :: es) X.env)).all (fun x=>!x.1) && (backToKw cpos (keywordEach [] X.env)).all (fun x=>x.1.isSome)
   && decide ((e :: es).length + ([]:List Keyword).length + (if ([]:List Keyword).isEmpty then 0 else 1) < 30))=true:=by rfl)
  (hline:(apos.endLine == cpos.line)=true:=by rfl) (hs:starEach (e :: es) X.env=(false,eval e X.env) :: starEach es X.env:=by rfl) (hplain:(backTo cpos (starEach es X.env)).any (·.1)=false:=by rfl):
  PE X (.Call (.Attribute o name apos) (e :: es) [] cpos) (tBM X.K T r to t):=by
 intro pins s σ H Q I h;refine wpAny_Call_method_late hbase hfew hline rfl (thn (ho pins s σ H _ I h) fun v s1 ⟨x,H1,I1,r1,ty,q1⟩=>?_);obtain ⟨h1,h2⟩:=b3T I1 r1 ty;refine ⟨T,id,pa,slot,hty,h1,h2,?_⟩;have hA:=ha cpos pins s1 σ H1 _ I1 q1;rw [hs] at hA ⊢;refine Calls.callWith_builtin (by show (false || (backTo cpos (starEach es X.env)).any (·.1))=false;rw [hplain] <;> rfl) (Calls.evalArgs_plain ?_)
 exact thn hA fun us s2 h0=>ex5 h0 fun vs H2 I2 r2 q2=>hm pins s2 σ H2 x vs v us Q I2 r1 r2 q2
end
def MtM (X:Cx) (id:String) (r:V->List V->Hp->VK->Prop):Prop:=
 ∀(pins:List (Addr×Obj)) (s:Shared) (σ:St) (H:Hp) (x:V) (xs:List V) (v:Value) (us:List Value) (Q:VK),Inv X pins σ H s->RelV x v->Vals xs us->r x xs H Q->
  wpAny (model X.prog X.w) X.A (call (.builtin id) (v :: us)) (EP X pins σ Q) X.xe s
theorem Vals.one:∀{x:V} {us:List Value},Vals [x] us->∃u,us=[u]/\RelV x u
 | _,_,.cons r .nil=>⟨_,rfl,r⟩
theorem Vals.eraseIdx:∀{xs:List V} {us:List Value} (i:Nat),Vals xs us->Vals (xs.eraseIdx i) (us.eraseIdx i)
 | _,_,_,.nil=>.nil
 | _,_,0,.cons _ t=>t
 | _,_,i + 1,.cons r t=>.cons r (Vals.eraseIdx i t)
theorem Vals.reverse {xs:List V}{us:List Value}(h:Vals xs us):Vals xs.reverse us.reverse:=by
 induction h with
 | nil=>exact .nil
 | cons r t ih=>rw [reverse_cons,reverse_cons];exact Vals.append ih (.cons r .nil)
theorem Vals.rep {xs:List V}{us:List Value}(h:Vals xs us):∀k:Nat,Vals (List.replicate k xs).flatten (List.replicate k us).flatten
 | 0=>.nil
 | k + 1=>by
  rw [xQ,xQ,xJ,xJ];exact Vals.append h (Vals.rep h k)
theorem a3i {α:Type}:∀(l:List α) (i:Nat),(l.eraseIdx i).length<=l.length
 | [],_=>zE _
 | _ :: _,0=>Nat.le_succ _
 | _ :: r,i + 1=>Nat.succ_le_succ (a3i r i)
theorem a2I (its:List Value):∀(k:Nat) (acc:List Value),
  List.foldl (fun x1 x2=>x1 ++ x2) acc.toArray (List.replicate k its.toArray)=(acc ++ (List.replicate k its).flatten).toArray
 | 0,acc=>by simp
 | k + 1,acc=>by
  have e:acc.toArray ++ its.toArray=(acc ++ its).toArray:=by simp
  have e2:(acc ++ its) ++ (List.replicate k its).flatten=acc ++ (List.replicate (k + 1) its).flatten:=by
   rw [xQ,xJ,jX]
  rw [<-e2,<-a2I its k (acc ++ its),<-e,xQ,List.foldl_cons]
section
variable {X:Cx}{pins:List (Addr×Obj)}{σ:St}{H:Hp}{s:Shared}{l:Addr}{xs ys:List V}
theorem Inv.lset {its its':List Value}{n:Nat}{f:Array Value->Array Value}{t':Nat}(I:Inv X pins σ H s)(hH:H l=some (.lst xs))
  (e:s.heap.get? l=some {cls:=.type "list",data:=.seq its.toArray n}) (hf:f its.toArray=its'.toArray) (hv:Vals ys its') (hz:ys.length<=sizeLine):
  Inv X pins σ (upd H l (.lst ys)) {s with heap:=s.heap.update l (Obj.mapSeq f),toks:=t'}:=by
 have q:=PySem.IsL.update e f;rw [hf] at q;refine I.write (x:=l) (e:=l) (by rw [hH];exact trivial) (.inl rfl) (fun b' u hb hu=>(Heap.get?_update_other s.heap (Obj.mapSeq f) (qO hb)).trans hu) ⟨_,q⟩ ?_
 exact ⟨hz,its',_,hv,q⟩
theorem Inv.lnew {its:List Value}{t':Nat}(I:Inv X pins σ H s)(hv:Vals ys its)(hz:ys.length<=sizeLine):
  Inv X pins σ (upd H s.heap.objs.size (.lst ys)) {s with heap:=s.heap.push {cls:=.type "list",data:=.seq its.toArray},toks:=t'}:=
 I.laid (fun _ _ q=>zF _ q) (zE _) ⟨hz,its,0,hv,qB _ rfl⟩
theorem Inv.fresh (I:Inv X pins σ H s):H s.heap.objs.size=none:=I.hok.fresh (zE _)
theorem Inv.lstM (I:Inv X pins σ H s)(hH:H l=some (.lst xs)):xs.length<=sizeLine/\∃(its:List Value) (n:Nat),Vals xs its/\xs.length=its.length/\s.heap.get? l=some {cls:=.type "list",data:=.seq its.toArray n}:=by
 obtain ⟨z,its,n,r,e⟩:=I.hok l _ hH;exact ⟨z,its,n,r,r.length,e⟩
theorem notLongL {n:Nat}(h:n<=sizeLine):Builtin.List.listTooLong n=false:=by
 unfold Builtin.List.listTooLong;exact qK (by walk_at "o")
end
section
variable {X:Cx}
def rAppend:V->List V->Hp->VK->Prop:=fun x vs H Q=>∃l xs y,x= .ref l/\vs=[y]/\H l=some (.lst xs)/\xs.length < sizeLine/\Q .non (upd H l (.lst (xs ++ [y])))
theorem U1:MtM X "list.append" rAppend:=by
 intro pins s σ H x vs v us Q I rx rv h;obtain ⟨l,xs,y,rfl,rfl,hH,hz,q⟩:=h;cases rx;obtain ⟨u,rfl,ru⟩:=rv.one;obtain ⟨z,its,n,r,hl,e⟩:=I.lstM hH;refine call_meets F.slot_list_append ⟨_,e,rfl⟩ F.entry_list_append (F.args_list_append_2 _ _) (PySem.list_append l its.toArray n u (by rw [zR];walk_at "o")) ⟨e,?_⟩
 refine ⟨.non,_,I.lset (its':=its ++ [u]) hH e (by simp) (r.append (.cons ru .nil)) ?_,rfl,q⟩
 rw [zT,jQ];walk_at "o"
def rPopAt:V->List V->Hp->VK->Prop:=fun x vs H Q=>∃l xs i k y,x= .ref l/\vs=[.int i]/\H l=some (.lst xs)/\-(2 ^ 63)<=i/\i < 2 ^ 63/\seqIndex? i xs.length=some k/\xs[k]? =some y/\Q y (upd H l (.lst (xs.eraseIdx k)))
theorem a9Y:MtM X "list.pop" rPopAt:=by
 intro pins s σ H x vs v us Q I rx rv h;obtain ⟨l,xs,i,k,y,rfl,rfl,hH,h1,h2,hk,hy,q⟩:=h;cases rx;obtain ⟨u,rfl,ru⟩:=rv.one;obtain ⟨t,rfl⟩:=ru;obtain ⟨z,its,n,r,hl,e⟩:=I.lstM hH;obtain ⟨w,hw,rw'⟩:=r.get hy;refine call_meets F.slot_list_pop ⟨_,e,rfl⟩ F.entry_list_pop (F.args_list_pop_2 _ _)
  (MeetsSeq.list_pop_at l its.toArray n i t k w (fitsIndex_both h1 h2) (by rw [zR,<-hl];exact hk) (by rw [<-jS];exact hw) (by rw [zR];walk_at "o")) ⟨e,?_⟩
 refine ⟨y,_,I.lset (its':=its.eraseIdx k) hH e ?_ (r.eraseIdx k) ?_,rw',q⟩
 ·show its.toArray.eraseIdxIfInBounds k=(its.eraseIdx k).toArray;rw [List.eraseIdxIfInBounds_toArray]
 ·have:=a3i xs k
  walk_at "o"
theorem b18 {α:Type}(xs:List α)(k:Nat):(List.replicate k xs).flatten.length=k * xs.length:=by
 induction k with
 | zero=>simp
 | succ k ih=>rw [xQ,xJ,zT,ih,Nat.succ_mul,Nat.add_comm]
end
section
set_option maxRecDepth 100000 in
end
end L2
namespace Att
open PySem PySem.W PySem.Calls PyProof.Rows
theorem a1k {P:Params}{h:Heap}:∀(ns:List Int) (vs:List Value),WellAll P h vs (ns.map WData.int)->IntsAre vs ns:=by
 intro ns
 induction ns with
 | nil=>
  intro vs w;rw [map_nil] at w;cases w;exact .nil
 | cons n ns ih=>
  intro vs w;rw [zK] at w;cases w with
  | cons a b=>
   cases a;exact .cons _ _ (ih _ b)
theorem a7L {l:OpenLaw}{n:Nat}(hn:l.most=some n){P:Params}{h:Heap}{args:List WData}{vals:List Value}
  (hpre:l.row.toRowW.claim.pre args=true) (hwl:WellAll P h vals args):
  ∃a vs ns,vals=[Value.ref a]/\args=[WData.list (ns.map WData.int)]/\h.get? a=some {cls:=.type "list",data:=.seq vs.toArray}/\IntsAre vs ns/\ns.length<=n:=by
 have hsh:WShape.hasAll [] args [.list .int]=true:=(pre_splitW hpre).1;have hc:l.pre.holds [] {args:=args}=true:=(pre_splitW hpre).2;obtain ⟨d,r,rfl,h1,h2⟩:=hasAllW_cons hsh;obtain rfl:=hasAllW_nil h2;obtain ⟨xs,rfl,h3⟩:=hasW_list h1;obtain ⟨ns,rfl⟩:=items_int h3;have hlen:ns.length<=n:=by
  unfold OpenLaw.pre at hc;have h4:(WTm.not (.lt (.lit (.int (n:Int))) (.len (.arg 0)))).holds [] {args:=[.list (ns.map .int)]}=true:=by
   have h4:=(holds_andW hc).1;rw [hn] at h4;exact h4
  have h5:=condW_of h4 (w_not (w_lt w_lit (w_len_list (w_arg rfl))));rw [zD] at h5;refine Nat.le_of_not_lt fun q=>?_;have q':(n:Int) < ((ns.length:Nat):Int):=by walk_at "o"
  first
   | (rw [qE q'] at h5;exact absurd h5 (by decide))
   | (simp at h5;walk_at "o")
 cases hwl with
 | cons w1 w2=>
  cases w2;cases w1 with
  | list ho hall=>exact ⟨_,_,ns,rfl,rfl,ho,a1k ns _ hall,hlen⟩
theorem a8w (l:OpenLaw)(args:List WData):l.row.toRowW.claim.post args (.bool true) args=true:=
 postW_of (r:=l.row.toRowW) (X:=(true == true))
  (show WShape.has [] (.bool true) .bool=true by first | rfl | decide | simp [WShape.has,WShape.arms,WShape.armsAll])
  (show (WTm.eq .res (.lit (.bool true))).value [] {args:=args,res:=some (.bool true),after:=args}=some (.bool (true == true)) from w_eq_bool (w_res rfl) w_lit) rfl
theorem attach_call {l:OpenLaw}{n:Nat}{q:Program}{loose:List Str}{XP:(Str->Option Value)->Heap->Prop}{YP:World->Heap->Prop}{d:DefRec}
  (hn:l.most=some n) (hdf:d.params.defaults=[])
  (call:∀(w:World) (s₀ s₁:Shared) (mg mb:Str->Option Value) (fa:Addr) (o:Obj) (pm cd doc:Value) (a:Addr) (vs:List Value) (ns:List Int),
   Ground q loose [] XP w s₀ mg mb s₁.heap->YP w s₁.heap->
   s₁.heap.get? fa=some o->o.data= .func (docDef d.name d.params d.body d.scope pm cd doc)->s₁.heap.CodeRec cd d.name->mg d.name=some (.ref fa)->
   s₁.heap.get? a=some {cls:=.type "list",data:=.seq vs.toArray}->IntsAre vs ns->ns.length<=n->s₁.gens= #[]->
   codeAny (model l.prog w) callerA (.call (.ref fa) ⟨[.ref a],[]⟩) (fun r s'=>r= .ok (.ret (.bool true))/\OldK s₁.heap s'.heap/\s'.os=s₁.os/\AllBare s'.gens) s₁):
  WalkO q loose XP YP l.row.toRowW d [] (fun f vs=>PySem.call f vs):=by
 intro w s₀ s₁ mg mb G Y fa o pm cd doc dV kV ho hd hcd hD hmg hg args vals as hpre hlay hrd hwl hlo;obtain rfl:dV= .none:=Dflts.none hD hdf;obtain rfl:kV= .none:=Dflts.noKw hD;obtain ⟨a,vs,ns,rfl,rfl,hobj,hints,hlen⟩:=a7L hn hpre hwl;refine enter_call (codeAny_mono (call w s₀ s₁ mg mb fa o pm cd doc a vs ns G Y ho (fd_plain hd) hcd hmg hobj hints hlen hg) fun r s' hq=>?_);obtain ⟨rfl,h2,h3,h4⟩:=hq;exact ⟨.inl ⟨.bool true,.bool true,[],rfl,fun _=>rfl,.bool true,a8w l _,fun _=>⟨List.Pairwise.nil,fun _ hm=>(nomatch hm)⟩⟩,h2,h3,h4⟩
def ledger (h:Heap) (L d:Addr):List (Addr×Obj):=(List.range h.objs.size).filterMap fun a=>if a=L\/a=d then none else (h.get? a).map fun o=>(a,o)
end Att
namespace L2
open PySem PySem.Spec PyProof.Rows
theorem a2S:∀{vs:List Value} {ns:List Int},IntsAre vs ns->Vals (ns.map V.int) vs
 | _,_,.nil=>.nil
 | _,_,.cons n t h=>.cons ⟨t,rfl⟩ (a2S h)
def Only (H:Hp):Prop:=∀b,H b=none\/∃o xs,H b=some (.frz o (.lst xs))
theorem a94 {P:Program}{w:World}{K:PySem.W.Frag}{mg mb:Str->Option Value}{CX:CXT}{k:Nat}{fa a:Addr}{fd:FuncData}{x:Str}{sp:Sp}{s₁:Shared}{vs:List Value}{ns:List Int}
  (KX:K.In s₁.heap) (hns:s₁.heap.Ns mainGlobals mg) (hb:s₁.heap.Ns builtinsNs mb) (hbb:∀x:Str,x≠"__name__"->mb x=bootBuiltins x) (hlim:s₁.heap.NoLimit) (hg:s₁.gens= #[])
  (ha:s₁.heap.get? a=some {cls:=.type "list",data:=.seq vs.toArray}) (hi:IntsAre vs ns) (hl:ns.length<=sizeLine) (hr:Room k callerA)
  (F:∀base:Heap,K.In base->base.Ns mainGlobals mg->FnOk P w K mg base CX k fa fd [x] sp) (hbind:∀(s:Shared) (u:Value),BindsTo s fd ⟨[u],[]⟩ [(x,u)])
  (hsp:∀H:Hp,Only H->SqL K H a (ns.map V.int)->sp [.ref a] H (fun v _=>v= .bl true) fun _ _ _=>False)
  (hCX:∀H e s',CX [] H s₁ (fun _ _ _=>False) e s'->False):
  codeAny (model P w) callerA (.call (.ref fa) ⟨[.ref a],[]⟩) (fun r s'=>r= .ok (.ret (.bool true))/\OldK s₁.heap s'.heap/\s'.os=s₁.os/\AllBare s'.gens) s₁:=by
 have rv:=a2S hi;have lenV:=hi.length;have core:∀H:Hp,Only H->SqL K H a (ns.map V.int)->HOk P w H s₁.heap->(∀b,H b≠none->b=a)->(H a≠none->K.lookup a=none)->
   codeAny (model P w) callerA (.call (.ref fa) ⟨[.ref a],[]⟩) (fun r s'=>r= .ok (.ret (.bool true))/\OldK s₁.heap s'.heap/\s'.os=s₁.os/\AllBare s'.gens) s₁:=by
  intro H hO hS hok hA hK;have base_of:∀{b:Addr} {o:Obj},s₁.heap.get? b=some o->H b=none->(hidT s₁.heap H).get? b=some o:=fun e n=>b0x e n;have noA:∀{b:Addr} {o:Obj} {es:Array DictEntry} {ep:Nat},s₁.heap.get? b=some o->o.data= .dict es ep->H b=none:=fun {b o es ep} e d=>by
   cases q:H b with
   | none=>rfl
   | some u=>
    have e':b=a:=hA b (by rw [q];simp)
    subst e';rw [ha] at e;cases e;have d':Data.seq vs.toArray _=Data.dict es ep:=d;cases d'
  have nsK:∀{b:Addr} {m:Str->Option Value},s₁.heap.Ns b m->(hidT s₁.heap H).Ns b m:=fun {b m} ⟨o,es,ep,e,d,r⟩=>⟨o,es,ep,base_of e (noA e d),d,r⟩
  have hKb:K.In (hidT s₁.heap H):=fun b o e=>base_of (KX b o e) (by
   cases q:H b with
   | none=>rfl
   | some u=>
    have e':b=a:=hA b (by rw [q];simp)
    subst e'
    rw [hK (by rw [q];simp)] at e;cases e)
  have hM:Mod K mg (hidT s₁.heap H):=⟨hKb,nsK hns,⟨mb,nsK hb,hbb⟩,let ⟨mc,h1,h2⟩:=hlim;⟨mc,nsK h1,h2⟩⟩;have e0:Env0 P w K mg (hidT s₁.heap H) callerA [] s₁ H:=⟨rfl,hM,fun b o e=>b19 e,Nat.le_of_eq (a8m _ _),trivial,fun b hb=>absurd (show b∈([]:List Addr) from hb) (by simp),hok,.of_eq hg⟩
  refine codeAny_mono ((F _ hKb (nsK hns)).run callerA [] s₁ H ⟨[.ref a],[]⟩ [.ref a] [.ref a] _ _ hr e0 (hbind s₁ (.ref a)) (.cons rfl .nil) (hsp H hO hS)) fun r s' h=>?_;cases r with
  | error e=>exact (hCX H e s' h).elim
  | ok fl=>
   cases fl with
   | next=>exact False.elim h
   | brk=>exact False.elim h
   | cont=>exact False.elim h
   | ret u=>
    obtain ⟨v,H',os,bare,un,hok',r',q⟩:=h;have q':v= .bl true:=q;subst q';obtain rfl:u=Value.bool true:=r';refine ⟨rfl,OldK.of_keep fun b o e=>?_,os,bare⟩;cases q:H b with
    | none=>exact un.keep b o e q (by intro z;exact absurd (show b∈([]:List Addr) from z) (by simp)) (by simp)
    | some u=>
     rcases hO b with z | ⟨ob,xs,z⟩
     ·rw [q] at z;cases z
     ·have z2:=un.frzs b ob _ z;obtain ⟨e1,_⟩:=hok b _ z;obtain ⟨e2,_⟩:=hok' b _ z2;rw [e] at e1;cases e1;exact e2
 cases hk:K.lookup a with
 | some o=>
  have e:=KX a o hk;rw [ha] at e;cases e;refine core (fun _=>none) (fun _=>.inl rfl) (.inr ⟨_,vs.toArray,_,hk,rfl,rfl,rfl,by rw [zR,lenV];exact hl,by simpa using rv⟩) (fun b u z=>by have z':(none:Option HO)=some u:=z;cases z') (fun b z=>absurd rfl z) fun z=>absurd rfl z
 | none=>
  refine core (fun b=>if b=a then some (.frz {cls:=.type "list",data:=.seq vs.toArray} (.lst (ns.map V.int))) else none) (fun b=>?_) (.inl (.inr ⟨{cls:=.type "list",data:=.seq vs.toArray},if_pos rfl⟩)) (fun b u z=>?_) (fun b z=>?_) fun _=>hk
  ·by_cases hb:b=a
   ·exact .inr ⟨_,_,if_pos hb⟩
   ·exact .inl (if_neg hb)
  ·by_cases hb:b=a
   ·have z':=(if_pos hb).symm.trans z;cases z';subst hb;exact ⟨ha,by rw [zD];exact hl,vs,_,rv,ha⟩
   ·have z':=(if_neg hb).symm.trans z;cases z'
  ·by_cases hb:b=a
   ·exact hb
   ·exact absurd (if_neg hb) z
abbrev KOf {K:PySem.W.Frag} {h:Heap} (_:K.In h):PySem.W.Frag:=K
theorem b1O {l:PySem.W.OpenLaw}{n k:Nat}{q:Program}{loose:List Str}{XP:(Str->Option Value)->Heap->Prop}{YP:World->Heap->Prop}{d:DefRec}{K:Params->PySem.W.Frag}{CX:World->CXT}{sp:World->Sp}{x:Str}
  (hn:l.most=some n) (hn2:n<=sizeLine) (hdf:d.params.defaults=[]) (hr:Room k callerA)
  (hY:∀(w:World) (h:Heap),YP w h->(K w.params).In h)
  (F:∀(w:World) (mg:Str->Option Value) (fa:Addr) (h:Heap),(K w.params).In h->h.Ns mainGlobals mg->mg d.name=some (.ref fa)->
   ∃fd:FuncData,(∀(s:Shared) (u:Value),BindsTo s fd ⟨[u],[]⟩ [(x,u)])/\
    ∀base:Heap,(K w.params).In base->base.Ns mainGlobals mg->FnOk l.prog w (K w.params) mg base (CX w) k fa fd [x] (sp w))
  (hsp:∀(w:World) (H:Hp) (a:Addr) (ns:List Int),ns.length<=n->Only H->SqL (K w.params) H a (ns.map V.int)->sp w [.ref a] H (fun v _=>v= .bl true) fun _ _ _=>False)
  (hCX:∀(w:World) (H:Hp) (s:Shared) (e:Value) (s':Shared),CX w [] H s (fun _ _ _=>False) e s'->False):
  PySem.W.WalkO q loose XP YP l.row.toRowW d [] (fun f vs=>PySem.call f vs):=by
 refine Att.attach_call hn hdf fun w s₀ s₁ mg mb fa o pm cd doc a vs ns G Y ho hd hcd hmg hobj hints hlen hg=>?_;have KX:=hY w _ Y;obtain ⟨fd,hb,hF⟩:=F w mg fa _ KX G.T.g hmg;exact a94 KX G.T.g G.T.b G.T.builtins G.T.nolimit hg hobj hints (zY hlen hn2) hr hF hb (fun H hO hS=>hsp w H a ns hlen hO hS) fun H e s'=>hCX w H s₁ e s'
def defArgs (s:Stmt):Arguments:=match s with
 | .FunctionDef _ a _ _ _ _ _ _ _ _=>a
 | _=>{posonlyargs:=[],args:=[],vararg:=none,kwonlyargs:=[],kw_defaults:=[],kwarg:=none,defaults:=[]}
def defBody (s:Stmt):List Stmt:=match s with
 | .FunctionDef _ _ b _ _ _ _ _ _ _=>b
 | _=>[]
def defScope (s:Stmt):Scope:=match s with
 | .FunctionDef _ _ _ _ _ _ sc _ _ _=>sc
 | _=>{kind:=.function,names:=[],isGenerator:=false,isCoroutine:=false}
abbrev CX0:CXT:=fun _ _ _ _ _ _=>False
abbrev E0:XK:=fun _ _ _=>False
theorem pass0 {X:Cx}:Passes CX0 X E0:=fun _ _ _ _ _ _ _ h=>h.elim
structure Fun (K:PySem.W.Frag) (x qual:Str) (st:Stmt) (f:Addr) (fd:FuncData):Prop where
 ex:∃(oc:Value) (od:Option Addr) (kV doc pm:Value) (an:Option Addr) (cdv ct:Value) (osl:Array (Option Value)),
  fd=PySem.W.fnOf x qual (defArgs st) (defBody st) (defScope st) .none kV doc pm an cdv ct/\K.lookup f=some ⟨oc,od,.func fd,osl⟩/\PySem.W.codeIn K cdv qual=true
 kp:PySem.W.keepIn K (.ref f)=true
section
variable {P:Program}{w:World}{K:PySem.W.Frag}{mg:Str->Option Value}{base:Heap}
theorem Fun.ok {x qual:Str}{st:Stmt}{f:Addr}{fd:FuncData}{N ps:List Str}{k:Nat}{sp:Sp}(F:Fun K x qual st f fd)(S:FnScope N ps (defScope st))(len:∀vs H Q E,sp vs H Q E->vs.length=ps.length)
  (hbody:∀(cdv:Value) (A:Around) (outer:List Env) (s:Shared) (H:Hp) (vs:List V) (Q:VK) (E:XK),Room k (A.deeper (envOfC qual (defScope st) s.heap.objs.size f cdv))->sp vs H Q E->
   ∃t,PSs (cxOf CX0 P w K mg base N qual (defScope st) f cdv A outer s H E).nox (defBody st) t/\t {nx:=fun _ H'=>Q .non H',rt:=Q} (start N vs) H):FnOk P w K mg base CX0 (k + 1) f fd ps sp:=by
 obtain ⟨oc,od,kV,doc,pm,an,cdv,ct,osl,rfl,lk,hcd⟩:=F.ex;refine fn_of lk hcd S len fun A outer s H vs Q E hr hsp=>?_;obtain ⟨t,h,q⟩:=hbody cdv A outer s H vs Q E hr hsp;exact ⟨t,h.nox,q⟩
theorem Fun.binds {x qual:Str}{st:Stmt}{f:Addr}{fd:FuncData}{ps:List Str}(F:Fun K x qual st f fd)
  (h:∀(kV doc pm:Value) (an:Option Addr) (cdv ct:Value) (us:List Value),us.length=ps.length->bindArgs (PySem.W.fnOf x qual (defArgs st) (defBody st) (defScope st) .none kV doc pm an cdv ct) ⟨us,[]⟩=pure (ps.zip us)):Binds K fd ps []:=by
 obtain ⟨oc,od,kV,doc,pm,an,cdv,ct,osl,rfl,lk,hcd⟩:=F.ex;exact .all (h kV doc pm an cdv ct)
theorem a8S {x qual:Str}{st:Stmt}{f:Addr}{oc:Value}{od an:Option Addr}{osl:Array (Option Value)}{kV doc pm cdv ct:Value}(l:K.lookup f=some ⟨oc,od,.func (PySem.W.fnOf x qual (defArgs st) (defBody st) (defScope st) .none kV doc pm an cdv ct),osl⟩)
  (c:PySem.W.codeIn K cdv qual=true) (k:PySem.W.keepIn K (.ref f)=true):Fun K x qual st f (PySem.W.fnOf x qual (defArgs st) (defBody st) (defScope st) .none kV doc pm an cdv ct):=⟨⟨oc,od,kV,doc,pm,an,cdv,ct,osl,rfl,l,c⟩,k⟩
end
theorem a6K {A:Around}{k:Nat}(hr:Room k A):A.units + 1 < cLine:=xK (Nat.add_le_add_left (by decide:1<=64) _) hr.units
def Same (H H':Hp):Prop:=∀b o,H b=some o->H' b=some o
theorem Same.refl (H:Hp):Same H H:=fun _ _ h=>h
theorem Same.trans {H H1 H2:Hp}(a:Same H H1)(b:Same H1 H2):Same H H2:=fun c o h=>b c o (a c o h)
section
variable {κ:Type} [DecidableEq κ]
def valV (kvs:List (κ×V)) (k:κ):Option V:=(kvs.find? fun kv=>decide (kv.1=k)).map (·.2)
def putK (kvs:List (κ×V)) (k:κ) (v:V):List (κ×V):=
 if (kvs.any fun kv=>decide (kv.1=k))=true then kvs.map (fun kv=>if kv.1=k then (kv.1,v) else kv) else kvs ++ [(k,v)]
theorem a0m {p:κ×V}{r:List (κ×V)}{k:κ}(e:p.1=k):valV (p :: r) k=some p.2:=by simp [valV,find?_cons,e]
theorem R6 {p:κ×V}{r:List (κ×V)}{k:κ}(e:¬p.1=k):valV (p :: r) k=valV r k:=by simp [valV,find?_cons,e]
theorem a4t (k:κ):∀kvs:List (κ×V),(kvs.any fun kv=>decide (kv.1=k))=(valV kvs k).isSome
 | []=>rfl
 | p :: r=>by
  rw [any_cons]
  by_cases e:p.1=k
  ·simp only [a0m e,qE e,Bool.true_or,Option.isSome_some]
  ·rw [R6 e,qK e,Bool.false_or];exact a4t k r
theorem a5h (kvs:List (κ×V))(k:κ)(v:V):(putK kvs k v).length<=kvs.length + 1:=by
 unfold putK
 split
 ·rw [zD];walk_at "o"
 ·rw [zT,qI,jP];walk_at "o"
theorem RelO.isSome_eq {o:Option V}{u:Option Value}(r:RelO o u):o.isSome=u.isSome:=by
 cases o with
 | none=>cases u with
  | none=>rfl
  | some _=>exact (show False from r).elim
 | some _=>cases u with
  | none=>exact (show False from r).elim
  | some _=>rfl
theorem RelO.getD {o:Option V}{u:Option Value}{d:V}{d':Value}(r:RelO o u)(rd:RelV d d'):RelV (o.getD d) (u.getD d'):=by
 cases o with
 | none=>cases u with
  | none=>exact rd
  | some _=>exact (show False from r).elim
 | some _=>cases u with
  | none=>exact (show False from r).elim
  | some _=>exact r
theorem KV.val {kvs:List (κ×V)}{vs:List (κ×Value)}(r:KV kvs vs)(k:κ):RelO (valV kvs k) (valueAt vs k):=by
 unfold KV at r
 induction r with
 | nil=>exact True.intro
 | @cons p q ps qs h t ih=>
  obtain ⟨h1,h2⟩:=h
  by_cases e:p.1=k
  ·have e':q.1=k:=h1.symm.trans e;have b:valueAt (q :: qs) k=some q.2:=by simp [valueAt,find?_cons,e']
   rw [a0m e,b];exact h2
  ·have e':¬q.1=k:=fun z=>e (h1.trans z);have b:valueAt (q :: qs) k=valueAt qs k:=by simp [valueAt,find?_cons,e']
   rw [R6 e,b];exact ih
theorem KV.any {kvs:List (κ×V)}{vs:List (κ×Value)}(r:KV kvs vs)(k:κ):(kvs.any fun kv=>decide (kv.1=k))=vs.any fun kv=>decide (kv.1=k):=by
 unfold KV at r
 induction r with
 | nil=>rfl
 | cons h t ih=>rw [any_cons,any_cons,ih,h.1]
theorem KV.repl {kvs:List (κ×V)}{vs:List (κ×Value)}(r:KV kvs vs)(k:κ){y:V}{u:Value}(ry:RelV y u):
  KV (kvs.map fun kv=>if kv.1=k then (kv.1,y) else kv) (vs.map fun kv=>if kv.1=k then (kv.1,u) else kv):=by
 unfold KV at r ⊢
 induction r with
 | nil=>exact .nil
 | @cons p q ps qs h t ih=>
  rw [zK,zK];refine .cons ?_ ih;obtain ⟨h1,h2⟩:=h
  by_cases e:p.1=k
  ·rw [if_pos e,if_pos (h1.symm.trans e)];exact ⟨h1,ry⟩
  ·rw [if_neg e,if_neg (fun z=>e (h1.trans z))];exact ⟨h1,h2⟩
theorem KV.put {kvs:List (κ×V)}{vs:List (κ×Value)}(r:KV kvs vs)(k:κ){y:V}{u:Value}(ry:RelV y u):KV (putK kvs k y) (stored vs k u):=by
 unfold putK stored;rw [r.any k]
 by_cases e:(vs.any fun kv=>decide (kv.1=k))=true
 ·rw [if_pos e,if_pos e];exact r.repl k ry
 ·rw [if_neg e,if_neg e];exact Paired.snoc r ⟨rfl,ry⟩
theorem KV.length {kvs:List (κ×V)}{vs:List (κ×Value)}(r:KV kvs vs):kvs.length=vs.length:=Paired.length r
end
theorem a60 {P:Program}{w:World}{k:Key}{u:Value}(r:RelV (kV k) u):(mixKind P w).is k u=true:=by
 cases k with
 | inl i=>obtain ⟨t,e⟩:=(show ∃t,u=Value.int i t from r);subst e;exact a49 P w i t
 | inr x=>obtain ⟨t,e⟩:=(show ∃t,u=Value.str x t from r);subst e;exact a4M P w x t
theorem a0X {P:Program}{w:World}:∀{ks:List Key} {us:List Value},Vals (ks.map kV) us->ItemsAre (mixKind P w) ks us
 | [],_,r=>by rw [map_nil] at r;cases r;exact .nil
 | k :: ks,_,r=>by
  rw [zK] at r;cases r with
  | cons h t=>exact .cons (a60 h) (a0X t)
abbrev KT (H:Hp):List (List Key×V)->List (List Key×Addr×Value)->Prop:=Paired fun p q=>p.1=q.1/\H q.2.1=some (.tup (p.1.map kV))/\RelV p.2 q.2.2
theorem KT.val {H:Hp}{kvs:List (List Key×V)}{xs:List (List Key×Addr×Value)}(r:KT H kvs xs)(k:List Key):RelO (valV kvs k) ((atKey xs k).map (·.2)):=by
 induction r with
 | nil=>exact True.intro
 | @cons p q ps qs h t ih=>
  obtain ⟨h1,_,h2⟩:=h
  by_cases e:p.1=k
  ·have e':q.1=k:=h1.symm.trans e;have b:atKey (q :: qs) k=some q.2:=by simp [atKey,find?_cons,e']
   rw [a0m e,b];exact h2
  ·have e':¬q.1=k:=fun z=>e (h1.trans z);have b:atKey (q :: qs) k=atKey qs k:=by simp [atKey,find?_cons,e']
   rw [R6 e,b];exact ih
theorem KT.repl {H:Hp}{kvs:List (List Key×V)}{xs:List (List Key×Addr×Value)}(r:KT H kvs xs)(k:List Key){y:V}{u:Value}(ry:RelV y u):
  KT H (kvs.map fun kv=>if kv.1=k then (kv.1,y) else kv) (xs.map (putAt k u)):=by
 induction r with
 | nil=>exact .nil
 | @cons p q ps qs h t ih=>
  rw [zK,zK];refine .cons ?_ ih;obtain ⟨h1,h2,h3⟩:=h;unfold putAt
  by_cases e:p.1=k
  ·rw [if_pos e,if_pos (h1.symm.trans e)];exact ⟨h1,h2,ry⟩
  ·rw [if_neg e,if_neg (fun z=>e (h1.trans z))];exact ⟨h1,h2,h3⟩
theorem KT.put {H:Hp}{kvs:List (List Key×V)}{xs:List (List Key×Addr×Value)}(r:KT H kvs xs)(k:List Key){b:Addr}{y:V}{u:Value}(hb:H b=some (.tup (k.map kV)))(ry:RelV y u):
  KT H (putK kvs k y) (storedH xs k b u):=by
 have e:(kvs.any fun kv=>decide (kv.1=k))=(atKey xs k).isSome:=by
  rw [a4t,(r.val k).isSome_eq,isSome_map]
 unfold putK storedH;rw [e]
 by_cases q:(atKey xs k).isSome=true
 ·rw [if_pos q,if_pos q];exact r.repl k ry
 ·rw [if_neg q,if_neg q];exact Paired.snoc r ⟨rfl,hb,ry⟩
theorem KT.keeps {H H':Hp}{kvs:List (List Key×V)}{xs:List (List Key×Addr×Value)}(r:KT H kvs xs)(ht:∀b ys,H b=some (.tup ys)->H' b=some (.tup ys)):KT H' kvs xs:=
 Paired.mapP r fun _ _ z=>⟨z.1,ht _ _ z.2.1,z.2.2⟩
section
variable {P:Program}{w:World}{H:Hp}{h:Heap}{a:Addr}
theorem b3e {u:HO}(ok:HOk P w H h)(e:Rd H a u):ObjOk P w H h a u:=e.ok ok
theorem dk_rd {kvs:List (Key×V)}(ok:HOk P w H h)(e:Rd H a (.dK kvs)):kvs.length<=sizeLine/\(a == sysModules)=false/\∃vs,KV kvs vs/\h.DictOf (mixKind P w) a vs:=
 show ObjOk P w H h a (.dK kvs) from b3e ok e
theorem b0j {kvs:List (Key×V)}(ok:HOk P w H h)(e:H a=some (.dK kvs)):kvs.length<=sizeLine/\(a == sysModules)=false/\∃vs,KV kvs vs/\h.DictOf (mixKind P w) a vs:=dk_rd ok (.inl e)
theorem a98 {ks:List Key}(ok:HOk P w H h)(e:H a=some (.tup (ks.map kV))):(tupleKind (mixKind P w)).is h ks a:=by
 obtain ⟨_,its,r,o,h1,h2,⟨n,h3⟩,_⟩:=(show ObjOk P w H h a (.tup (ks.map kV)) from ok a _ e);exact ⟨o,its.toArray,n,h1,h2,h3,by simpa using a0X r⟩
theorem dt_rd {kvs:List (List Key×V)}(ok:HOk P w H h)(e:Rd H a (.dT kvs)):kvs.length<=sizeLine/\(a == sysModules)=false/\
  ∃xs,KT H kvs xs/\h.DictOfH (tupleKind (mixKind P w)) a xs:=by
 obtain ⟨z,y,xs,r,o,es,ep,h1,h2,h3,h4,h5⟩:=(show ObjOk P w H h a (.dT kvs) from b3e ok e);refine ⟨z,y,xs,r,o,es,ep,h1,h2,h3,h4,fun x hx=>?_,h5⟩;have all:∀{l:List (List Key×V)} {m:List (List Key×Addr×Value)},KT H l m->∀x∈m,(tupleKind (mixKind P w)).is h x.1 x.2.1:=by
  intro l m q
  induction q with
  | nil=>intro x hx;exact nomatch hx
  | @cons p q ps qs hq t ih=>
   intro x hx;rcases zS.mp hx with e | hx
   ·subst e;exact a98 ok (by rw [<-hq.1];exact hq.2.1)
   ·exact ih x hx
 exact all r x hx
theorem a7o {kvs:List (List Key×V)}(ok:HOk P w H h)(e:H a=some (.dT kvs)):kvs.length<=sizeLine/\(a == sysModules)=false/\
  ∃xs,KT H kvs xs/\h.DictOfH (tupleKind (mixKind P w)) a xs:=dt_rd ok (.inl e)
end
def DPut (H:Hp) (a:Addr) (y v:V) (H':Hp):Prop:=
 (∃kvs k,H a=some (.dK kvs)/\y=kV k/\kvs.length < sizeLine/\H'=upd H a (.dK (putK kvs k v)))\/
 ∃kvs k b,H a=some (.dT kvs)/\y= .ref b/\H b=some (.tup (k.map kV))/\kvs.length < sizeLine/\H'=upd H a (.dT (putK kvs k v))
theorem DPut.t {H:Hp}{a b:Addr}{kvs:List (List Key×V)}{k:List Key}{v:V}(e:H a=some (.dT kvs))(eb:H b=some (.tup (k.map kV)))(hl:kvs.length < sizeLine):
  DPut H a (.ref b) v (upd H a (.dT (putK kvs k v))):=.inr ⟨kvs,k,b,e,rfl,eb,hl,rfl⟩
section
variable {X:Cx}{pins:List (Addr×Obj)}{σ:St}{H:Hp}{s:Shared}{a:Addr}
theorem Inv.big (I:Inv X pins σ H s):sysModules < s.heap.objs.size:=by
 have h:mainGlobals < s.heap.objs.size:=(I.mod.glob.keeps I.bk).lt;exact Nat.lt_trans (by decide) h
theorem b1K {h':Heap}{t':Nat}{ob:HO}(I:Inv X pins σ H s)(mu:Mut (H a))(hs:Heap.SameBut a s.heap h')(he:∃q,h'.get? a=some q)(new:ObjOk X.prog X.w (upd H a ob) h' a ob):
  Inv X pins σ (upd H a ob) {s with heap:=h',toks:=t'}:=
 I.write (x:=a) (e:=a) mu (.inl rfl) (fun b q hb z=>(hs.2 b hb).trans z) he new
end
theorem a8V {P:Program}{w:World}{H:Hp}(h:Heap)(hb:sysModules < h.objs.size):ObjOk P w H (h.push {cls:=.type "dict",data:=.dict #[]}) h.objs.size (.dT []):=
 ⟨jK _,xY.mpr (qO (zN hb)),[],.nil,_, #[],0,qB _ rfl,⟨rfl,rfl,rfl⟩,rfl,rfl,List.nodup_nil⟩
end L2
set_option maxHeartbeats 1000000
namespace Z
open PySem PySem.Spec PyProof.Rows L2
theorem obs {α β:Type}{o:Option α}{k:α->Option β}{y:β}(h:o.bind k=some y):∃a,o=some a/\k a=some y:=Option.bind_eq_some_iff.mp h
theorem oms {α β:Type}{o:Option α}{k:α->β}{y:β}(h:o.map k=some y):∃a,o=some a/\k a=y:=Option.map_eq_some_iff.mp h
set_option genInjectivity true in
inductive D where
 | non | bl (b:Bool) | int (i:Int) | str (x:Str) | tup (xs:List D) | lst (xs:List D) | dT (ks:List (List Key)) (xs:List D) | dK (ks:List Key) (xs:List D) | exn (C:Addr)
set_option genInjectivity true in
inductive W where
 | v (d:D) | o (d:D) | l (d:D) | r (i:Nat)
abbrev Ev:=List (Option W)
abbrev Av:=Addr->Prop
def ExcAt (a C:Addr) (h:Heap):Prop:=∃o vs,h.get? a=some o/\o.cls= .ref C/\o.data= .fields vs
def Mu:HO->Prop
 | .lst _=>True
 | .dT _=>True
 | .dK _=>True
 | _=>False
abbrev Emp:Hp:=fun _=>none
mutual
def Den (K:PySem.W.Frag) (A:Av) (H:Hp):D->V->Prop
 | .non,v=>v= .non
 | .bl b,v=>v= .bl b
 | .int i,v=>v= .int i
 | .str x,v=>v= .str x
 | .tup xs,v=>∃a vs,v= .ref a/\SqT K H a vs/\DenL K A H xs vs
 | .lst xs,v=>∃a vs,v= .ref a/\((H a=some (.lst vs)/\¬A a)\/(∃o,H a=some (.frz o (.lst vs)))\/SqL K Emp a vs)/\DenL K A H xs vs
 | .dT ks xs,v=>∃a vs,v= .ref a/\(H a=some (.dT (ks.zip vs))/\¬A a)/\ks.length=xs.length/\DenL K A H xs vs
 | .dK ks xs,v=>∃a vs,v= .ref a/\(H a=some (.dK (ks.zip vs))/\¬A a)/\ks.length=xs.length/\DenL K A H xs vs
 | .exn C,v=>∃a,v= .ref a/\H a=some (.ext (ExcAt a C))
def DenL (K:PySem.W.Frag) (A:Av) (H:Hp):List D->List V->Prop
 | [],vs=>vs=[]
 | d :: ds,vs=>∃v r,vs=v :: r/\Den K A H d v/\DenL K A H ds r
end
section
variable {K:PySem.W.Frag}{A A' M:Av}{H H':Hp}
structure Go (A A' M:Av) (H H':Hp):Prop where
 k:∀b o,H b=some o->¬M b->H' b=some o
 m:∀b,M b->A b/\∃u,H b=some u/\Mu u
 n:∀b,A' b->A b\/H b=none
theorem Go.not (g:Go A A' M H H'){b:Addr}{u:HO}(e:H b=some u)(n:¬Mu u):H' b=some u:=g.k b u e fun z=>by
 obtain ⟨_,u',e',m⟩:=g.m b z;rw [e] at e';cases e';exact n m
theorem Go.lone (g:Go A A' M H H'){b:Addr}{u:HO}(h:H b=some u/\¬A b):H' b=some u/\¬A' b:=
 ⟨g.k b u h.1 fun z=>h.2 (g.m b z).1,fun z=>(g.n b z).elim h.2 fun z=>by rw [h.1] at z;cases z⟩
mutual
theorem p0 (g:Go A A' M H H'):∀(d:D) (v:V),Den K A H d v->Den K A' H' d v
 | .non,v,h=>by rw [Den] at h ⊢;exact h
 | .bl b,v,h=>by rw [Den] at h ⊢;exact h
 | .int i,v,h=>by rw [Den] at h ⊢;exact h
 | .str x,v,h=>by rw [Den] at h ⊢;exact h
 | .tup xs,v,h=>by
  rw [Den] at h ⊢;obtain ⟨a,vs,e,q,l⟩:=h;refine ⟨a,vs,e,?_,t5 g xs vs l⟩;rcases q with (q | ⟨o,q⟩) | q
  ·exact .inl (.inl (g.not q id))
  ·exact .inl (.inr ⟨o,g.not q id⟩)
  ·exact .inr q
 | .lst xs,v,h=>by
  rw [Den] at h ⊢;obtain ⟨a,vs,e,q,l⟩:=h;refine ⟨a,vs,e,?_,t5 g xs vs l⟩;rcases q with q | ⟨o,q⟩ | q
  ·exact .inl (g.lone q)
  ·exact .inr (.inl ⟨o,g.not q id⟩)
  ·exact .inr (.inr q)
 | .dT ks xs,v,h=>by
  rw [Den] at h ⊢;obtain ⟨a,vs,e,q,hl,l⟩:=h;exact ⟨a,vs,e,g.lone q,hl,t5 g xs vs l⟩
 | .dK ks xs,v,h=>by
  rw [Den] at h ⊢;obtain ⟨a,vs,e,q,hl,l⟩:=h;exact ⟨a,vs,e,g.lone q,hl,t5 g xs vs l⟩
 | .exn C,v,h=>by
  rw [Den] at h ⊢;obtain ⟨a,e,q⟩:=h;exact ⟨a,e,g.not q id⟩
theorem t5 (g:Go A A' M H H'):∀(ds:List D) (vs:List V),DenL K A H ds vs->DenL K A' H' ds vs
 | [],vs,h=>by rw [DenL] at h ⊢;exact h
 | d :: ds,vs,h=>by
  rw [DenL] at h ⊢;obtain ⟨v,r,e,q,l⟩:=h;exact ⟨v,r,e,p0 g d v q,t5 g ds r l⟩
end
theorem a1r (s:Same H H'):Go A A (fun _=>False) H H':=⟨fun b o e _=>s b o e,fun _ z=>z.elim,fun _ z=>.inl z⟩
theorem u5 (h:∀b,A' b->A b):Go A A' (fun _=>False) H H:=⟨fun _ _ e _=>e,fun _ z=>z.elim,fun b z=>.inl (h b z)⟩
theorem a44 (s:Same H H'){d:D}{v:V}(h:Den K A H d v):Den K A H' d v:=p0 (a1r s) d v h
theorem a8p (s:Same H H'){d:List D}{v:List V}(h:DenL K A H d v):DenL K A H' d v:=t5 (a1r s) d v h
theorem g9 {d:D}{ds:List D}{v:V}{vs:List V}(h:Den K A H d v)(t:DenL K A H ds vs):DenL K A H (d :: ds) (v :: vs):=by rw [DenL];exact ⟨v,vs,rfl,h,t⟩
theorem i0:DenL K A H [] []:=by rw [DenL]
theorem l7:∀{ds es:List D} {vs ws:List V},DenL K A H ds vs->DenL K A H es ws->DenL K A H (ds ++ es) (vs ++ ws)
 | [],_,_,_,h,t=>by rw [DenL] at h;subst h;exact t
 | d :: ds,_,_,_,h,t=>by
  rw [DenL] at h;obtain ⟨v,r,rfl,q,l⟩:=h;exact g9 q (l7 l t)
theorem b6:∀{ds:List D} {vs:List V},DenL K A H ds vs->ds.length=vs.length
 | [],_,h=>by rw [DenL] at h;subst h;rfl
 | d :: ds,_,h=>by
  rw [DenL] at h;obtain ⟨v,r,rfl,q,l⟩:=h;rw [qI,qI,b6 l]
theorem z6:∀{ds:List D} {vs:List V} {i:Nat} {d:D},DenL K A H ds vs->ds[i]? =some d->∃v,vs[i]? =some v/\Den K A H d v
 | [],_,_,_,_,e=>by simp at e
 | d :: ds,_,0,_,h,e=>by
  rw [DenL] at h;obtain ⟨v,r,rfl,q,l⟩:=h;simp at e;subst e;exact ⟨v,rfl,q⟩
 | d :: ds,_,i + 1,x,h,e=>by
  rw [DenL] at h;obtain ⟨v,r,rfl,q,l⟩:=h;obtain ⟨u,h1,h2⟩:=z6 (i:=i) (d:=x) l (by simpa using e)
  exact ⟨u,by simpa using h1,h2⟩
theorem a4s {d:D}{v:V}(hd:Den K A H d v):∀{ds:List D} {vs:List V} (i:Nat),DenL K A H ds vs->DenL K A H (ds.set i d) (vs.set i v)
 | [],_,_,h=>by rw [DenL] at h;subst h;exact i0
 | _ :: _,_,0,h=>by
  rw [DenL] at h;obtain ⟨v,r,rfl,q,l⟩:=h;exact g9 hd l
 | _ :: _,_,i + 1,h=>by
  rw [DenL] at h;obtain ⟨v,r,rfl,q,l⟩:=h;exact g9 q (a4s hd i l)
theorem a0U:∀{ds:List D} {vs:List V} (n:Nat),DenL K A H ds vs->DenL K A H (ds.take n) (vs.take n)
 | [],_,n,h=>by rw [DenL] at h;subst h;simp;exact i0
 | d :: ds,_,0,h=>by simp;exact i0
 | d :: ds,_,n + 1,h=>by
  rw [DenL] at h;obtain ⟨v,r,rfl,q,l⟩:=h;exact g9 q (a0U n l)
theorem a0K:∀{ds:List D} {vs:List V} (n:Nat),DenL K A H ds vs->DenL K A H (ds.drop n) (vs.drop n)
 | [],_,n,h=>by rw [DenL] at h;subst h;simp;exact i0
 | d :: ds,_,0,h=>h
 | d :: ds,_,n + 1,h=>by
  rw [DenL] at h;obtain ⟨v,r,rfl,q,l⟩:=h;exact a0K n l
theorem u7 {i:Int}{v:V}:Den K A H (.int i) v↔v= .int i:=by rw [Den]
theorem a1F {i:Bool}{v:V}:Den K A H (.bl i) v↔v= .bl i:=by rw [Den]
theorem a6R {v:V}:Den K A H .non v↔v= .non:=by rw [Den]
theorem a37 {i:Str}{v:V}:Den K A H (.str i) v↔v= .str i:=by rw [Den]
theorem denL1 {d:D}{vs:List V}(l:DenL K A H [d] vs):∃v,vs=[v]/\Den K A H d v:=by
 rw [DenL] at l;obtain ⟨v,r,rfl,h,l⟩:=l;rw [DenL] at l;subst l;exact ⟨v,rfl,h⟩
theorem denL2 {d e:D}{vs:List V}(l:DenL K A H [d,e] vs):∃v u,vs=[v,u]/\Den K A H d v/\Den K A H e u:=by
 rw [DenL] at l;obtain ⟨v,r,rfl,h,l⟩:=l;obtain ⟨u,rfl,h'⟩:=denL1 l;exact ⟨v,u,rfl,h,h'⟩
end
mutual
def lf:D->Bool
 | .tup xs=>lfL xs
 | .lst _=>false
 | .dT _ _=>false
 | .dK _ _=>false
 | _=>true
def lfL:List D->Bool
 | []=>true
 | d :: ds=>lf d && lfL ds
end
section
variable {K:PySem.W.Frag}{A A':Av}{H H':Hp}
mutual
theorem a2c (g:∀b o,H b=some o->¬Mu o->H' b=some o):∀(d:D) (v:V),lf d=true->Den K A H d v->Den K A' H' d v
 | .non,v,_,h=>by rw [Den] at h ⊢;exact h
 | .bl b,v,_,h=>by rw [Den] at h ⊢;exact h
 | .int i,v,_,h=>by rw [Den] at h ⊢;exact h
 | .str x,v,_,h=>by rw [Den] at h ⊢;exact h
 | .tup xs,v,f,h=>by
  rw [Den] at h ⊢;obtain ⟨a,vs,e,q,l⟩:=h;refine ⟨a,vs,e,?_,a0k g xs vs (by rw [lf] at f;exact f) l⟩
  rcases q with (q | ⟨o,q⟩) | q
  ·exact .inl (.inl (g _ _ q id))
  ·exact .inl (.inr ⟨o,g _ _ q id⟩)
  ·exact .inr q
 | .lst xs,v,f,h=>by rw [lf] at f;cases f
 | .dT _ xs,v,f,h=>by rw [lf] at f;cases f
 | .dK _ xs,v,f,h=>by rw [lf] at f;cases f
 | .exn _,v,_,h=>by rw [Den] at h ⊢;obtain ⟨a,e,q⟩:=h;exact ⟨a,e,g _ _ q id⟩
theorem a0k (g:∀b o,H b=some o->¬Mu o->H' b=some o):∀(d:List D) (v:List V),lfL d=true->DenL K A H d v->DenL K A' H' d v
 | [],v,_,h=>by rw [DenL] at h ⊢;exact h
 | d :: ds,v,f,h=>by
  rw [lfL,jH] at f;rw [DenL] at h ⊢;obtain ⟨u,r,e,q,l⟩:=h;exact ⟨u,r,e,a2c g d u f.1 q,a0k g ds r f.2 l⟩
end
end
def Obj (K:PySem.W.Frag) (A:Av) (H:Hp) (a:Addr):D->Prop
 | .lst xs=>∃vs,H a=some (.lst vs)/\DenL K A H xs vs
 | .dT ks xs=>∃vs,H a=some (.dT (ks.zip vs))/\ks.length=xs.length/\DenL K A H xs vs
 | .dK ks xs=>∃vs,H a=some (.dK (ks.zip vs))/\ks.length=xs.length/\DenL K A H xs vs
 | _=>False
def DenR (K:PySem.W.Frag) (A:Av) (H:Hp):D->V->Prop
 | .lst xs,v=>∃a vs,v= .ref a/\SqL K H a vs/\DenL K A H xs vs
 | .dT ks xs,v=>∃a vs,v= .ref a/\H a=some (.dT (ks.zip vs))/\ks.length=xs.length/\DenL K A H xs vs
 | .dK ks xs,v=>∃a vs,v= .ref a/\H a=some (.dK (ks.zip vs))/\ks.length=xs.length/\DenL K A H xs vs
 | d,v=>Den K A H d v
section
variable {K:PySem.W.Frag}{A A' M:Av}{H H':Hp}{d:D}{v:V}{a:Addr}
theorem q5 (g:Go A A' M H H')(hk:H' a=H a)(h:Obj K A H a d):Obj K A' H' a d:=by
 cases d with
 | lst xs=>obtain ⟨vs,e,l⟩:=h;exact ⟨vs,hk.trans e,t5 g _ _ l⟩
 | dT ks xs=>obtain ⟨vs,e,hl,l⟩:=h;exact ⟨vs,hk.trans e,hl,t5 g _ _ l⟩
 | dK ks xs=>obtain ⟨vs,e,hl,l⟩:=h;exact ⟨vs,hk.trans e,hl,t5 g _ _ l⟩
 | _=>exact h
theorem C2 (h:Obj K A H a d):∃u,H a=some u/\Mu u:=by
 cases d with
 | lst xs=>obtain ⟨vs,e,l⟩:=h;exact ⟨_,e,trivial⟩
 | dT ks xs=>obtain ⟨vs,e,hl,l⟩:=h;exact ⟨_,e,trivial⟩
 | dK ks xs=>obtain ⟨vs,e,hl,l⟩:=h;exact ⟨_,e,trivial⟩
 | _=>exact h.elim
theorem Y6 (h:Obj K A H a d)(n:¬A a):Den K A H d (.ref a):=by
 cases d with
 | lst xs=>obtain ⟨vs,e,l⟩:=h;rw [Den];exact ⟨a,vs,rfl,.inl ⟨e,n⟩,l⟩
 | dT ks xs=>obtain ⟨vs,e,hl,l⟩:=h;rw [Den];exact ⟨a,vs,rfl,⟨e,n⟩,hl,l⟩
 | dK ks xs=>obtain ⟨vs,e,hl,l⟩:=h;rw [Den];exact ⟨a,vs,rfl,⟨e,n⟩,hl,l⟩
 | _=>exact h.elim
theorem obj_r (h:Obj K A H a d):DenR K A H d (.ref a):=by
 cases d with
 | lst xs=>obtain ⟨vs,e,l⟩:=h;exact ⟨a,vs,rfl,.inl (.inl e),l⟩
 | dT ks xs=>obtain ⟨vs,e,hl,l⟩:=h;exact ⟨a,vs,rfl,e,hl,l⟩
 | dK ks xs=>obtain ⟨vs,e,hl,l⟩:=h;exact ⟨a,vs,rfl,e,hl,l⟩
 | _=>exact h.elim
theorem E7 (h:Den K A H d v):DenR K A H d v:=by
 cases d with
 | lst xs=>
  rw [Den] at h;obtain ⟨a,vs,e,q,l⟩:=h;refine ⟨a,vs,e,?_,l⟩;rcases q with q | ⟨o,q⟩ | (q | ⟨o,q⟩) | q
  ·exact .inl (.inl q.1)
  ·exact .inl (.inr ⟨o,q⟩)
  ·cases q
  ·cases q
  ·exact .inr q
 | dT ks xs=>rw [Den] at h;obtain ⟨a,vs,e,q,l⟩:=h;exact ⟨a,vs,e,q.1,l⟩
 | dK ks xs=>rw [Den] at h;obtain ⟨a,vs,e,q,l⟩:=h;exact ⟨a,vs,e,q.1,l⟩
 | _=>exact h
end
def W.own:W->Option D
 | .o d=>some d
 | .l d=>some d
 | _=>none
def Ow (ρ:Ev) (σ:L2.St):Av:=fun b=>∃(i:Nat) (w:W) (d:D),ρ[i]? =some (some w)/\w.own=some d/\σ[i]? =some (some (V.ref b))
abbrev AvO (O:Av) (ρ:Ev) (σ:L2.St):Av:=fun b=>O b\/Ow ρ σ b
def SlotOk (K:PySem.W.Frag) (A:Av) (H:Hp):W->V->Prop
 | .v d,v=>Den K A H d v
 | .o d,v=>∃a,v= .ref a/\Obj K A H a d
 | .l d,v=>∃a,v= .ref a/\Obj K A H a d
 | .r _,_=>False
def hz (X:Cx) (L:List (Option Nat×Addr)):Hp:=fun b=>if (none,b)∈L then none else X.H₀ b
structure Rep (X:Cx) (P:List (D×V)) (O:Av) (L:List (Option Nat×Addr)) (ρ:Ev) (σ:L2.St) (H:Hp):Prop where
 same:∀b o,X.H₀ b=some o->(∀i,(i,b)∉L)->H b=some o
 amb:∀b,O b->(∃o,X.H₀ b=some o)/\∀i,(i,b)∉L
 len:ρ.length=σ.length
 slot:∀(i:Nat) (w:W),ρ[i]? =some (some w)->∃v,σ[i]? =some (some v)/\SlotOk X.K (AvO O ρ σ) H w v
 inj:∀(i j:Nat) (w w':W) (d d':D) (b:Addr),ρ[i]? =some (some w)->w.own=some d->σ[i]? =some (some (.ref b))->ρ[j]? =some (some w')->w'.own=some d'->σ[j]? =some (some (.ref b))->i=j
 new:∀(i:Nat) (d:D) (b:Addr),ρ[i]? =some (some (.o d))->σ[i]? =some (some (.ref b))->hz X L b=none
 lnt:∀(i:Nat) (d:D),ρ[i]? =some (some (.l d))->∃b,σ[i]? =some (some (.ref b))/\(some i,b)∈L
 lnd:∀(i:Nat) (b:Addr),(some i,b)∈L->∃d,ρ[i]? =some (some (.l d))/\σ[i]? =some (some (.ref b))
 prot:∀p∈P,Den X.K (AvO O ρ σ) H p.1 p.2
 gvl:∀b,(none,b)∈L->∃(i:Nat) (a:Addr),(some i,a)∈L
section
variable {X:Cx}{P:List (D×V)}{O:Av}{L:List (Option Nat×Addr)}{ρ:Ev}{σ:L2.St}{H H':Hp}
theorem a5n {K:PySem.W.Frag}{A:Av}{H:Hp}{w:W}{d:D}{v:V}(h:SlotOk K A H w v)(e:w.own=some d):∃a,v= .ref a/\Obj K A H a d:=by
 cases w <;> simp only [W.own] at e <;> first | (cases e;exact h) | cases e
theorem Rep.obj (r:Rep X P O L ρ σ H){i:Nat}{w:W}{d:D}(e:ρ[i]? =some (some w))(ew:w.own=some d):∃a,σ[i]? =some (some (.ref a))/\Obj X.K (AvO O ρ σ) H a d:=by
 obtain ⟨v,h1,h2⟩:=r.slot i w e;obtain ⟨a,rfl,h3⟩:=a5n h2 ew;exact ⟨a,h1,h3⟩
theorem Rep.owMu (r:Rep X P O L ρ σ H){b:Addr}(z:Ow ρ σ b):∃u,H b=some u/\Mu u:=by
 obtain ⟨i,w,d,e1,e2,e3⟩:=z;obtain ⟨a,h1,h2⟩:=r.obj e1 e2;rw [e3] at h1;cases h1;exact C2 h2
theorem Rep.ambN (r:Rep X P O L ρ σ H){b:Addr}(z:O b):¬Ow ρ σ b:=fun ⟨i,w,d,e1,e2,e3⟩=>by
 obtain ⟨⟨o,h0⟩,hl⟩:=r.amb b z;cases w with
 | o d'=>have:=r.new i d' b e1 e3;unfold hz at this;rw [if_neg (hl none),h0] at this;cases this
 | l d'=>obtain ⟨c,h1,h2⟩:=r.lnt i d' e1;rw [e3] at h1;cases h1;exact hl (some i) h2
 | _=>cases e2
theorem Rep.there (r:Rep X P O L ρ σ H){b:Addr}(z:AvO O ρ σ b):∃o,H b=some o:=by
 rcases z with z | z
 ·obtain ⟨⟨o,h0⟩,hl⟩:=r.amb b z;exact ⟨o,r.same b o h0 hl⟩
 ·obtain ⟨u,e,_⟩:=r.owMu z;exact ⟨u,e⟩
theorem Rep.fresh (r:Rep X P O L ρ σ H){b:Addr}(n:H b=none):¬AvO O ρ σ b:=fun z=>by obtain ⟨o,e⟩:=r.there z;rw [n] at e;cases e
theorem Rep.fresh0 (r:Rep X P O L ρ σ H){b:Addr}(n:H b=none):hz X L b=none:=by
 unfold hz
 split
 ·rfl
 ·rename_i hg;cases q:X.H₀ b with
  | none=>rfl
  | some o=>
   have:H b=some o:=r.same b o q fun i e=>by
    cases i with
    | none=>exact hg e
    | some i=>
     obtain ⟨d,h1,h2⟩:=r.lnd i b e;obtain ⟨a,h3,h4⟩:=r.obj h1 rfl;rw [h2] at h3;cases h3;obtain ⟨u,e,_⟩:=C2 h4;rw [n] at e;cases e
   rw [n] at this;cases this
theorem L7 {K:PySem.W.Frag}{A A' M:Av}{H H':Hp}(g:Go A A' M H H'){w:W}{v:V}(hk:∀a d,w.own=some d->v= .ref a->H' a=H a)(h:SlotOk K A H w v):SlotOk K A' H' w v:=by
 cases w with
 | v d=>exact p0 g _ _ h
 | o d=>obtain ⟨a,e,q⟩:=h;exact ⟨a,e,q5 g (hk a d rfl e) q⟩
 | l d=>obtain ⟨a,e,q⟩:=h;exact ⟨a,e,q5 g (hk a d rfl e) q⟩
 | r i=>exact h
theorem Rep.grow (r:Rep X P O L ρ σ H)(s:Same H H'):Rep X P O L ρ σ H' where
 same:=fun b o e hl=>s b o (r.same b o e hl)
 amb:=r.amb
 len:=r.len
 slot:=fun i w e=>by
  obtain ⟨v,h1,h2⟩:=r.slot i w e;refine ⟨v,h1,L7 (a1r s) (fun a d ew ev=>?_) h2⟩;subst ev;obtain ⟨b,h3,h4⟩:=r.obj e ew;rw [h1] at h3;cases h3;obtain ⟨u,eu,_⟩:=C2 h4;rw [eu,s _ _ eu]
 inj:=r.inj
 new:=r.new
 lnt:=r.lnt
 lnd:=r.lnd
 prot:=fun p hp=>a44 s (r.prot p hp)
 gvl:=r.gvl
theorem Rep.more {p:D×V}(r:Rep X P O L ρ σ H)(h:Den X.K (AvO O ρ σ) H p.1 p.2):Rep X (p :: P) O L ρ σ H:=
 ⟨r.same,r.amb,r.len,r.slot,r.inj,r.new,r.lnt,r.lnd,fun q hq=>(zS.mp hq).elim (fun e=>by rw [e];exact h) (r.prot q),r.gvl⟩
theorem Rep.less {p:D×V}(r:Rep X (p :: P) O L ρ σ H):Rep X P O L ρ σ H:=
 ⟨r.same,r.amb,r.len,r.slot,r.inj,r.new,r.lnt,r.lnd,fun q hq=>r.prot q (zI _ hq),r.gvl⟩
theorem Rep.head {p:D×V}(r:Rep X (p :: P) O L ρ σ H):Den X.K (AvO O ρ σ) H p.1 p.2:=r.prot p zH
theorem p9 {α:Type}{l:List α}{i j:Nat}{x y:α}(e:(l.set i x)[j]? =some y):(j=i/\y=x/\i < l.length)\/(j≠i/\l[j]? =some y):=by
 by_cases q:i=j
 ·subst q;rw [List.getElem?_set,if_pos rfl] at e;split at e
  ·cases e;rename_i h;exact .inl ⟨rfl,rfl,h⟩
  ·cases e
 ·rw [zO q] at e;exact .inr ⟨qO q,e⟩
theorem u6 {α:Type}{l:List α}{i:Nat}{x:α}(h:i < l.length):(l.set i x)[i]? =some x:=by rw [List.getElem?_set,if_pos rfl,if_pos h]
def freeSlot (ρ:Ev) (i:Nat):Bool:=match ρ[i]? with
 | some (some (.l _))=>false
 | _=>true
theorem Rep.put (r:Rep X P O L ρ σ H){i:Nat}{d:D}{v:V}(hf:freeSlot ρ i=true)(h:Den X.K (AvO O ρ σ) H d v):Rep X P O L (ρ.set i (some (.v d))) (σ.set i (some v)) H:=by
 have sub:∀b,AvO O (ρ.set i (some (.v d))) (σ.set i (some v)) b->AvO O ρ σ b:=fun b z=>by
  rcases z with z | ⟨j,w,c,e1,e2,e3⟩
  ·exact .inl z
  ·rcases p9 e1 with ⟨rfl,z,_⟩ | ⟨n,e1⟩
   ·cases z;cases e2
   ·rw [zO (qO n)] at e3;exact .inr ⟨j,w,c,e1,e2,e3⟩
 have g:=u5 (H:=H) sub;have st:∀{j:Nat} {w:W} {c:D},(ρ.set i (some (.v d)))[j]? =some (some w)->w.own=some c->j≠i/\ρ[j]? =some (some w):=fun {j w c} e1 e2=>by
  rcases p9 e1 with ⟨rfl,z,_⟩ | z
  ·cases z;cases e2
  ·exact z
 refine ⟨r.same,r.amb,by rw [qL,qL];exact r.len,fun j w e=>?_,fun j k w w' c c' b e1 e2 e3 e4 e5 e6=>?_,fun j c b e1 e2=>?_,fun j c e=>?_,fun j b e=>?_,fun p hp=>p0 g _ _ (r.prot p hp),r.gvl⟩
 ·rcases p9 e with ⟨rfl,z,hl⟩ | ⟨n,e⟩
  ·cases z;exact ⟨v,u6 (by rw [<-r.len];exact hl),p0 g _ _ h⟩
  ·obtain ⟨u,h1,h2⟩:=r.slot j w e;exact ⟨u,by rw [zO (qO n)];exact h1,L7 g (fun _ _ _ _=>rfl) h2⟩
 ·obtain ⟨n1,e1⟩:=st e1 e2;obtain ⟨n2,e4⟩:=st e4 e5;rw [zO (qO n1)] at e3;rw [zO (qO n2)] at e6;exact r.inj j k w w' c c' b e1 e2 e3 e4 e5 e6
 ·obtain ⟨n1,e1⟩:=st (c:=c) e1 rfl;rw [zO (qO n1)] at e2;exact r.new j c b e1 e2
 ·obtain ⟨n1,e1⟩:=st (c:=c) e rfl;rw [zO (qO n1)];exact r.lnt j c e1
 ·obtain ⟨c,h1,h2⟩:=r.lnd j b e;have n:i≠j:=fun z=>by subst z;unfold freeSlot at hf;rw [h1] at hf;cases hf
  exact ⟨c,by rw [zO n];exact h1,by rw [zO n];exact h2⟩
theorem Rep.putO (r:Rep X P O L ρ σ H)(s:Same H H'){i:Nat}{d:D}{a:Addr}(hf:freeSlot ρ i=true)(hn:H a=none)(h:Obj X.K (fun b=>AvO O ρ σ b\/b=a) H' a d):Rep X P O L (ρ.set i (some (.o d))) (σ.set i (some (.ref a))) H':=by
 have nA:=r.fresh hn;have sub:∀b,AvO O (ρ.set i (some (.o d))) (σ.set i (some (.ref a))) b->AvO O ρ σ b\/b=a:=fun b z=>by
  rcases z with z | ⟨j,w,c,e1,e2,e3⟩
  ·exact .inl (.inl z)
  ·rcases p9 e1 with ⟨rfl,z,hl⟩ | ⟨n,e1⟩
   ·rw [u6 (by rw [<-r.len];exact hl)] at e3;cases e3;exact .inr rfl
   ·rw [zO (qO n)] at e3;exact .inl (.inr ⟨j,w,c,e1,e2,e3⟩)
 have g:Go (AvO O ρ σ) (AvO O (ρ.set i (some (.o d))) (σ.set i (some (.ref a)))) (fun _=>False) H H':=⟨fun b o e _=>s b o e,fun _ z=>z.elim,fun b z=>(sub b z).imp id fun z=>by rw [z];exact hn⟩
 have old:∀{j:Nat} {w:W} {b:Addr},ρ[j]? =some (some w)->σ[j]? =some (some (.ref b))->w.own≠none->b≠a:=fun {j w b} e1 e2 e3 z=>by
  cases q:w.own with
  | none=>exact e3 q
  | some c=>exact nA (.inr ⟨j,w,c,e1,q,by rw [<-z];exact e2⟩)
 refine ⟨fun b o e hl=>s b o (r.same b o e hl),r.amb,by rw [qL,qL];exact r.len,fun j w e=>?_,fun j k w w' c c' b e1 e2 e3 e4 e5 e6=>?_,fun j c b e1 e2=>?_,fun j c e=>?_,fun j b e=>?_,fun p hp=>p0 g _ _ (r.prot p hp),r.gvl⟩
 ·rcases p9 e with ⟨rfl,z,hl⟩ | ⟨n,e⟩
  ·cases z;exact ⟨.ref a,u6 (by rw [<-r.len];exact hl),a,rfl,q5 (u5 sub) rfl h⟩
  ·obtain ⟨u,h1,h2⟩:=r.slot j w e;refine ⟨u,by rw [zO (qO n)];exact h1,L7 g (fun b c ec eb=>?_) h2⟩
   subst eb;obtain ⟨o,eo,_⟩:=r.owMu ⟨j,w,c,e,ec,h1⟩;rw [eo,s _ _ eo]
 ·rcases p9 e1 with ⟨rfl,z,hl⟩ | ⟨n1,e1⟩
  ·rw [u6 (by rw [<-r.len];exact hl)] at e3;cases e3
   rcases p9 e4 with ⟨rfl,_,_⟩ | ⟨n2,e4⟩
   ·rfl
   ·rw [zO (qO n2)] at e6;exact absurd rfl (old e4 e6 (by rw [e5];exact nofun))
  ·rw [zO (qO n1)] at e3;have f1:=old e1 e3 (by rw [e2];exact nofun)
   rcases p9 e4 with ⟨rfl,_,hl⟩ | ⟨n2,e4⟩
   ·rw [u6 (by rw [<-r.len];exact hl)] at e6;cases e6
    exact absurd rfl f1
   ·rw [zO (qO n2)] at e6;exact r.inj j k w w' c c' b e1 e2 e3 e4 e5 e6
 ·rcases p9 e1 with ⟨rfl,z,hl⟩ | ⟨n1,e1⟩
  ·rw [u6 (by rw [<-r.len];exact hl)] at e2;cases e2;exact r.fresh0 hn
  ·rw [zO (qO n1)] at e2;exact r.new j c b e1 e2
 ·rcases p9 e with ⟨rfl,z,hl⟩ | ⟨n1,e⟩
  ·cases z
  ·rw [zO (qO n1)];exact r.lnt j c e
 ·obtain ⟨c,h1,h2⟩:=r.lnd j b e;have n:i≠j:=fun z=>by subst z;unfold freeSlot at hf;rw [h1] at hf;cases hf
  exact ⟨c,by rw [zO n];exact h1,by rw [zO n];exact h2⟩
def setOwn (ρ:Ev) (i:Nat) (d:D):Ev:=match ρ[i]? with
 | some (some (.l _))=>ρ.set i (some (.l d))
 | _=>ρ.set i (some (.o d))
def ownAt (ρ:Ev) (i:Nat):Option D:=match ρ[i]? with
 | some (some w)=>w.own
 | _=>none
theorem q8 {ρ:Ev}{i:Nat}{c:D}(e:ownAt ρ i=some c):∃w,ρ[i]? =some (some w)/\w.own=some c:=by
 unfold ownAt at e;split at e
 ·rename_i w q;exact ⟨w,q,e⟩
 ·cases e
theorem V2 {ρ:Ev}{i:Nat}{c d:D}(e:ownAt ρ i=some c):∃w,w.own=some d/\setOwn ρ i d=ρ.set i (some w)/\((∃x,w= .l x)↔∃x,ρ[i]? =some (some (.l x))):=by
 obtain ⟨w,q,e⟩:=q8 e;unfold setOwn;cases w with
 | v d=>cases e
 | r d=>cases e
 | o x=>rw [q];exact ⟨.o d,rfl,rfl,by simp⟩
 | l x=>rw [q];exact ⟨.l d,rfl,rfl,by simp⟩
theorem T7 {ρ:Ev}{σ:L2.St}{i:Nat}{c d:D}(e:ownAt ρ i=some c)(b:Addr):Ow (setOwn ρ i d) σ b↔Ow ρ σ b:=by
 obtain ⟨w,h1,h2,_⟩:=V2 (d:=d) e;obtain ⟨w0,q,e0⟩:=q8 e;rw [h2];constructor
 ·rintro ⟨j,w',c',e1,e2,e3⟩;rcases p9 e1 with ⟨rfl,z,_⟩ | ⟨n,e1⟩
  ·exact ⟨j,w0,c,q,e0,e3⟩
  ·exact ⟨j,w',c',e1,e2,e3⟩
 ·rintro ⟨j,w',c',e1,e2,e3⟩
  by_cases n:j=i
  ·subst n;exact ⟨j,w,d,u6 (zJ.mp q).1,h1,e3⟩
  ·exact ⟨j,w',c',by rw [zO (qO n)];exact e1,e2,e3⟩
theorem Rep.mut (r:Rep X P O L ρ σ H){i:Nat}{a:Addr}{c d:D}(e:ownAt ρ i=some c)(ea:σ[i]? =some (some (.ref a)))(hk:∀b o,H b=some o->b≠a->H' b=some o)(h:Obj X.K (AvO O ρ σ) H' a d):
  Rep X P O L (setOwn ρ i d) σ H':=by
 obtain ⟨w,h1,h2,h3⟩:=V2 (d:=d) e;obtain ⟨w0,q,e0⟩:=q8 e;have av:AvO O (setOwn ρ i d) σ=AvO O ρ σ:=funext fun b=>propext (or_congr Iff.rfl (T7 e b));have ma:Ow ρ σ a:=⟨i,w0,c,q,e0,ea⟩;have g:Go (AvO O ρ σ) (AvO O ρ σ) (fun b=>b=a) H H':=⟨hk,fun b z=>by rw [z];exact ⟨.inr ma,r.owMu ma⟩,fun b z=>.inl z⟩
 have st:∀{j:Nat} {w':W} {c':D},(setOwn ρ i d)[j]? =some (some w')->w'.own=some c'->∃w'' c'',ρ[j]? =some (some w'')/\w''.own=some c'':=fun {j w' c'} e1 e2=>by
  rw [h2] at e1;rcases p9 e1 with ⟨rfl,_,_⟩ | ⟨_,e1⟩
  ·exact ⟨w0,c,q,e0⟩
  ·exact ⟨w',c',e1,e2⟩
 refine ⟨fun b o eb hl=>hk b o (r.same b o eb hl) fun z=>?_,r.amb,by rw [h2,qL];exact r.len,fun j w' e'=>?_,fun j k w1 w2 c1 c2 b e1 e2 e3 e4 e5 e6=>?_,fun j c' b e1 e2=>?_,fun j c' e'=>?_,fun j b e'=>?_,fun p hp=>by rw [av];exact p0 g _ _ (r.prot p hp),r.gvl⟩
 ·subst z;cases w0 with
  | o x=>have:=r.new i x b q ea;unfold hz at this;rw [if_neg (hl none),eb] at this;cases this
  | l x=>obtain ⟨c',q1,q2⟩:=r.lnt i x q;rw [ea] at q1;cases q1;exact hl (some i) q2
  | _=>cases e0
 ·rw [av];rw [h2] at e';rcases p9 e' with ⟨rfl,z,_⟩ | ⟨n,e'⟩
  ·cases z;refine ⟨.ref a,ea,?_⟩;cases w with
   | o x=>cases h1;exact ⟨a,rfl,h⟩
   | l x=>cases h1;exact ⟨a,rfl,h⟩
   | _=>cases h1
  ·obtain ⟨u,q1,q2⟩:=r.slot j w' e';refine ⟨u,q1,L7 g (fun b c' ec eb=>?_) q2⟩;subst eb;have nb:b≠a:=fun z=>n (r.inj j i w' w0 c' c a e' ec (by rw [<-z];exact q1) q e0 ea)
   obtain ⟨o,eo,_⟩:=r.owMu ⟨j,w',c',e',ec,q1⟩;rw [eo,hk _ _ eo nb]
 ·obtain ⟨u1,v1,q1,q2⟩:=st e1 e2;obtain ⟨u2,v2,q3,q4⟩:=st e4 e5;exact r.inj j k u1 u2 v1 v2 b q1 q2 e3 q3 q4 e6
 ·rw [h2] at e1;rcases p9 e1 with ⟨rfl,z,_⟩ | ⟨n,e1⟩
  ·cases z;cases w0 with
   | o x=>exact r.new j x b q e2
   | l x=>exact absurd (h3.mpr ⟨x,q⟩) (by simp)
   | _=>cases e0
  ·exact r.new j c' b e1 e2
 ·rw [h2] at e';rcases p9 e' with ⟨rfl,z,_⟩ | ⟨n,e'⟩
  ·cases z;obtain ⟨x,qx⟩:=h3.mp ⟨_,rfl⟩;exact r.lnt j x qx
  ·exact r.lnt j c' e'
 ·obtain ⟨c',q1,q2⟩:=r.lnd j b e'
  by_cases n:j=i
  ·subst n;obtain ⟨x,rfl⟩:=h3.mpr ⟨c',q1⟩;exact ⟨x,by rw [h2];exact u6 (zJ.mp q).1,q2⟩
  ·exact ⟨c',by rw [h2,zO (qO n)];exact q1,q2⟩
def frzAt (ρ:Ev) (i:Nat):Option Ev:=match ρ[i]? with
 | some (some (.o d))=>some (ρ.set i (some (.v d)))
 | some (some (.v _))=>some ρ
 | _=>none
theorem Rep.frz (r:Rep X P O L ρ σ H){i:Nat}{ρ':Ev}(e:frzAt ρ i=some ρ'):Rep X P O L ρ' σ H/\∀(j:Nat) (w:W) (d:D),ρ'[j]? =some (some w)->w.own=some d->ρ[j]? =some (some w)/\j≠i:=by
 unfold frzAt at e;split at e
 ·rename_i d q;cases e;obtain ⟨a,h1,h2⟩:=r.obj q rfl;have hl:i < σ.length:=by rw [<-r.len];exact (zJ.mp q).1
  have es:σ.set i (some (.ref a))=σ:=by
   apply xT;intro j
   by_cases z:i=j
   ·subst z;rw [u6 hl,h1]
   ·rw [zO z]
  have hw:¬AvO O (ρ.set i (some (.v d))) σ a:=fun z=>by
   rcases z with z | ⟨j,w,c,e1,e2,e3⟩
   ·exact r.ambN z ⟨i,_,d,q,rfl,h1⟩
   ·rcases p9 e1 with ⟨rfl,z,_⟩ | ⟨n,e1⟩
    ·cases z;cases e2
    ·exact n (r.inj j i w (.o d) c d a e1 e2 e3 q rfl h1)
  have sub:∀b,AvO O (ρ.set i (some (.v d))) σ b->AvO O ρ σ b:=fun b z=>by
   rcases z with z | ⟨j,w,c,e1,e2,e3⟩
   ·exact .inl z
   ·rcases p9 e1 with ⟨rfl,z,_⟩ | ⟨n,e1⟩
    ·cases z;cases e2
    ·exact .inr ⟨j,w,c,e1,e2,e3⟩
  have g:=u5 (H:=H) sub;refine ⟨⟨r.same,r.amb,by rw [qL];exact r.len,fun j w e=>?_,fun j k w w' c c' b e1 e2 e3 e4 e5 e6=>?_,fun j c b e1 e2=>?_,fun j c e=>?_,fun j b e=>?_,fun p hp=>p0 g _ _ (r.prot p hp),r.gvl⟩,fun j w c e1 e2=>?_⟩
  ·rcases p9 e with ⟨rfl,z,_⟩ | ⟨n,e⟩
   ·cases z;exact ⟨.ref a,h1,Y6 (q5 g rfl h2) hw⟩
   ·obtain ⟨u,q1,q2⟩:=r.slot j w e;exact ⟨u,q1,L7 g (fun _ _ _ _=>rfl) q2⟩
  ·rcases p9 e1 with ⟨rfl,z,_⟩ | ⟨n1,e1⟩
   ·cases z;cases e2
   ·rcases p9 e4 with ⟨rfl,z,_⟩ | ⟨n2,e4⟩
    ·cases z;cases e5
    ·exact r.inj j k w w' c c' b e1 e2 e3 e4 e5 e6
  ·rcases p9 e1 with ⟨rfl,z,_⟩ | ⟨n1,e1⟩
   ·cases z
   ·exact r.new j c b e1 e2
  ·rcases p9 e with ⟨rfl,z,_⟩ | ⟨n1,e⟩
   ·cases z
   ·exact r.lnt j c e
  ·obtain ⟨c,q1,q2⟩:=r.lnd j b e;have n:i≠j:=fun z=>by subst z;rw [q] at q1;cases q1
   exact ⟨c,by rw [zO n];exact q1,q2⟩
  ·rcases p9 e1 with ⟨rfl,z,_⟩ | ⟨n,e1⟩
   ·cases z;cases e2
   ·exact ⟨e1,n⟩
 ·rename_i d q;cases e;exact ⟨r,fun j w c e1 e2=>⟨e1,fun z=>by subst z;rw [q] at e1;cases e1;cases e2⟩⟩
 ·cases e
end
abbrev FX:=Ev->Option (W×Ev)
abbrev FT:=Ev->Option (Bool×Ev)
abbrev FA:=Ev->Option (List W×Ev)
def DenW (K:PySem.W.Frag) (A:Av) (σ:L2.St) (H1 H':Hp):W->V->Prop
 | .v d,v=>Den K A H' d v
 | .o d,v=>∃a,v= .ref a/\H1 a=none/\Obj K (fun b=>A b\/b=a) H' a d
 | .r i,v=>σ[i]? =some (some v)
 | .l _,_=>False
def DenP (K:PySem.W.Frag) (A:Av) (σ:L2.St) (H:Hp):W->V->Prop
 | .v d,v=>Den K A H d v
 | .r i,v=>σ[i]? =some (some v)
 | _,_=>False
def DenA (K:PySem.W.Frag) (A:Av) (σ:L2.St) (H:Hp):List W->List V->Prop
 | [],vs=>vs=[]
 | w :: ws,vs=>∃v r,vs=v :: r/\DenP K A σ H w v/\DenA K A σ H ws r
def W.fz:W->W
 | .o d=>.v d
 | w=>w
def tX (X:Cx) (f:FX):TE:=fun σ H Q=>∃P O L ρ w ρ',Rep X P O L ρ σ H/\f ρ=some (w,ρ')/\∀v H1 H',Rep X P O L ρ' σ H1->Same H1 H'->DenW X.K (AvO O ρ' σ) σ H1 H' w v->Q v H'
def tT (X:Cx) (f:FT):TT:=fun σ H Q=>∃P O L ρ b ρ',Rep X P O L ρ σ H/\f ρ=some (b,ρ')/\∀H',Rep X P O L ρ' σ H'->Q b H'
def tA (X:Cx) (f:FA):TA:=fun σ H Q=>∃P O L ρ ws ρ',Rep X P O L ρ σ H/\f ρ=some (ws,ρ')/\∀vs H',Rep X P O L ρ' σ H'->DenA X.K (AvO O ρ' σ) σ H' ws vs->Q vs H'
theorem tXe {X:Cx}{f:FX}{σ:L2.St}{H:Hp}{Q:VK}{C:Prop}(h:tX X f σ H Q)(k:∀P O L ρ w ρ',Rep X P O L ρ σ H->f ρ=some (w,ρ')->(∀v H1 H',Rep X P O L ρ' σ H1->Same H1 H'->DenW X.K (AvO O ρ' σ) σ H1 H' w v->Q v H')->C):C:=by
 obtain ⟨P,O,L,ρ,w,ρ',r,e,q⟩:=h;exact k P O L ρ w ρ' r e q
theorem tTe {X:Cx}{f:FT}{σ:L2.St}{H:Hp}{Q:Bool->Hp->Prop}{C:Prop}(h:tT X f σ H Q)(k:∀P O L ρ b ρ',Rep X P O L ρ σ H->f ρ=some (b,ρ')->(∀H',Rep X P O L ρ' σ H'->Q b H')->C):C:=by
 obtain ⟨P,O,L,ρ,w,ρ',r,e,q⟩:=h;exact k P O L ρ w ρ' r e q
theorem tAe {X:Cx}{f:FA}{σ:L2.St}{H:Hp}{Q:List V->Hp->Prop}{C:Prop}(h:tA X f σ H Q)(k:∀P O L ρ ws ρ',Rep X P O L ρ σ H->f ρ=some (ws,ρ')->(∀vs H',Rep X P O L ρ' σ H'->DenA X.K (AvO O ρ' σ) σ H' ws vs->Q vs H')->C):C:=by
 obtain ⟨P,O,L,ρ,w,ρ',r,e,q⟩:=h;exact k P O L ρ w ρ' r e q
structure QX (X:Cx) (e:Expr) (f:FX):Prop where
 to:PE X e (tX X f)
structure QT (X:Cx) (e:Expr) (f:FT):Prop where
 to:PT X e (tT X f)
structure QW (X:Cx) (e:Expr) (f:FT):Prop where
 to:PW X e (tT X f)
structure QA (X:Cx) (e:List Expr) (f:FA):Prop where
 to:PA X e (tA X f)
theorem PE.weak {X:Cx}{e:Expr}{t u:TE}(h:PE X e t)(w:∀σ H Q,u σ H Q->t σ H Q):PE X e u:=fun pins s σ H Q I q=>h pins s σ H Q I (w σ H Q q)
theorem PT.weak {X:Cx}{e:Expr}{t u:TT}(h:PT X e t)(w:∀σ H Q,u σ H Q->t σ H Q):PT X e u:=fun pins s σ H Q I q=>h pins s σ H Q I (w σ H Q q)
theorem PW.weak {X:Cx}{e:Expr}{t u:TT}(h:PW X e t)(w:∀σ H Q,u σ H Q->t σ H Q):PW X e u:=fun wh pins s σ H Q I q=>h wh pins s σ H Q I (w σ H Q q)
theorem PA.weak {X:Cx}{e:List Expr}{t u:TA}(h:PA X e t)(w:∀σ H Q,u σ H Q->t σ H Q):PA X e u:=fun pos pins s σ H Q I q=>h pos pins s σ H Q I (w σ H Q q)
def dr (ρ:Ev):W->Option D
 | .v d=>some d
 | .r i=>match ρ[i]? with
  | some (some (.v d))=>some d
  | some (some w)=>w.own
  | _=>none
 | _=>none
def drs (ρ:Ev):List W->Option (List D)
 | []=>some []
 | w :: ws=>(dr ρ w).bind fun d=>(drs ρ ws).map fun ds=>d :: ds
section
variable {X:Cx}{P:List (D×V)}{O:Av}{L:List (Option Nat×Addr)}{ρ:Ev}{σ:L2.St}{H H1 H':Hp}{w:W}{d:D}{v:V}
theorem DenW.fz (r:Rep X P O L ρ σ H1)(s:Same H1 H')(h:DenW X.K (AvO O ρ σ) σ H1 H' w v):DenP X.K (AvO O ρ σ) σ H' w.fz v:=by
 cases w with
 | v d=>exact h
 | o d=>
  obtain ⟨a,rfl,n,ob⟩:=h;exact Y6 (q5 (u5 fun b z=>.inl z) rfl ob) (r.fresh n)
 | r i=>exact h
 | l d=>exact h.elim
theorem hold (r:Rep X P O L ρ σ H)(h:DenP X.K (AvO O ρ σ) σ H w v):∃P',Rep X P' O L ρ σ H/\∀ρ2 H2,Rep X P' O L ρ2 σ H2->Rep X P O L ρ2 σ H2/\DenP X.K (AvO O ρ2 σ) σ H2 w v:=by
 cases w with
 | v d=>exact ⟨(d,v) :: P,r.more h,fun ρ2 H2 r2=>⟨r2.less,r2.head⟩⟩
 | r i=>exact ⟨P,r,fun ρ2 H2 r2=>⟨r2,h⟩⟩
 | _=>exact h.elim
theorem G6 (r:Rep X P O L ρ σ H)(e:dr ρ w=some d)(h:DenP X.K (AvO O ρ σ) σ H w v):DenR X.K (AvO O ρ σ) H d v:=by
 cases w with
 | v c=>cases e;exact E7 h
 | r i=>
  rw [dr] at e;have h:σ[i]? =some (some v):=h;cases q:ρ[i]? with
  | none=>rw [q] at e;cases e
  | some o=>
   rw [q] at e;cases o with
   | none=>cases e
   | some w'=>
    cases w' with
    | v c=>
     cases e;obtain ⟨u,h1,h2⟩:=r.slot i _ q;rw [h1] at h;cases h;exact E7 h2
    | _=>
     obtain ⟨a,h1,h2⟩:=r.obj q e;rw [h1] at h;cases h;exact obj_r h2
 | _=>cases e
def DenRL (K:PySem.W.Frag) (A:Av) (H:Hp):List D->List V->Prop
 | [],vs=>vs=[]
 | d :: ds,vs=>∃v r,vs=v :: r/\DenR K A H d v/\DenRL K A H ds r
theorem a6k (r:Rep X P O L ρ σ H):∀{ws:List W} {ds:List D} {vs:List V},drs ρ ws=some ds->DenA X.K (AvO O ρ σ) σ H ws vs->DenRL X.K (AvO O ρ σ) H ds vs
 | [],ds,vs,e,h=>by cases e;exact h
 | w :: ws,ds,vs,e,h=>by
  obtain ⟨v,rs,rfl,h1,h2⟩:=h;rw [drs] at e;cases e1:dr ρ w with
  | none=>rw [e1] at e;cases e
  | some d=>
   cases e2:drs ρ ws with
   | none=>rw [e1,e2] at e;cases e
   | some dd=>
    rw [e1,e2] at e;cases e;exact ⟨v,rs,rfl,G6 r e1 h1,a6k r e2 h2⟩
end
section
variable {K:PySem.W.Frag}{A:Av}{σ:L2.St}{H H':Hp}
theorem C4 {i:Int}:DenW K A σ H H' (.v (.int i)) (.int i):=by show Den _ _ _ _ _;rw [Den]
theorem A4 {i:Bool}:DenW K A σ H H' (.v (.bl i)) (.bl i):=by show Den _ _ _ _ _;rw [Den]
theorem b07 {i:Str}:DenW K A σ H H' (.v (.str i)) (.str i):=by show Den _ _ _ _ _;rw [Den]
theorem F5:DenW K A σ H H' (.v .non) .non:=by show Den _ _ _ _ _;rw [Den]
end
def fVar (i:Nat):FX:=fun ρ=>match ρ[i]? with
 | some (some (.v d))=>some (.v d,ρ)
 | some (some (.r _))=>none
 | some (some _)=>some (.r i,ρ)
 | _=>none
def fC (d:D):FX:=fun ρ=>some (.v d,ρ)
section
variable {X:Cx}{a b e:Expr}{pos:Pos}{f g h:FX}{t u:FT}
theorem a6 (i:Nat){x:Str}(hN:X.N[i]? =some x:=by rfl)(hv:Vis X.env.scope x:=by first | exact Or.inl rfl | exact Or.inr (Or.inl rfl) | exact Or.inr (Or.inr rfl))(hd:(x == ("__debug__":Str))=false:=by decide)(hcd:(x == ("__classdict__":Str))=false:=by decide):QX X (.Name x pos) (fVar i):=by
 refine ⟨PE.weak (a3s hN hv hd hcd) fun σ H Q h0=>tXe h0 fun P O L ρ w ρ' r e q=>?_⟩;unfold fVar at e;split at e
 ·rename_i d0 e0;cases e;obtain ⟨v,h1,h2⟩:=r.slot i _ e0;exact ⟨v,h1,q v H H r (Same.refl H) h2⟩
 ·cases e
 ·rename_i w' _ _ e0;cases e;obtain ⟨v,h1,h2⟩:=r.slot i _ e0;exact ⟨v,h1,q v H H r (Same.refl H) h1⟩
 ·cases e
theorem a6T {d:D}{v:V}(hd:∀A H,Den X.K A H d v):∀σ H Q,tX X (fC d) σ H Q->tC v σ H Q:=fun σ H Q h0=>tXe h0 fun P O L ρ w ρ' r e q=>by cases e;exact q v H H r (Same.refl H) (hd _ H)
theorem a8 {i:Int}{j:Nat}:QX X (.Constant (.int i) j pos) (fC (.int i)):=⟨PE.weak b4s (a6T fun A H=>u7.mpr rfl)⟩
theorem Y4 {i:Bool}{j:Nat}:QX X (.Constant (.bool i) j pos) (fC (.bl i)):=⟨PE.weak pe_bl (a6T fun A H=>a1F.mpr rfl)⟩
theorem a0S {j:Nat}:QX X (.Constant .none j pos) (fC .non):=⟨PE.weak a5Q (a6T fun A H=>a6R.mpr rfl)⟩
def fBin (op:D->D->Option W) (f g:FX):FX:=fun ρ=>(f ρ).bind fun p=>(g p.2).bind fun q=>(dr q.2 p.1.fz).bind fun x=>(dr q.2 q.1.fz).bind fun y=>(op x y).map fun w=>(w,q.2)
def Pr2 (X:Cx) (op:D->D->Option W) (r:R2):Prop:=∀(A:Av) (x y:D) (w:W) (v u:V) (H:Hp) (Q:VK),(∀b,A b->∃o,H b=some o)->op x y=some w->DenR X.K A H x v->DenR X.K A H y u->(∀z H',Same H H'->DenW X.K A [] H H' w z->Q z H')->r v u H Q
theorem DenW.st {K:PySem.W.Frag}{A:Av}{σ:L2.St}{H1 H':Hp}{w:W}{v:V}(h:DenW K A [] H1 H' w v):DenW K A σ H1 H' w v:=by
 cases w with
 | r i=>exact absurd h (by simp [DenW])
 | _=>exact h
theorem Z8 {r:R2}{op:D->D->Option W}(k:Pr2 X op r):∀σ H Q,tX X (fBin op f g) σ H Q->tOp r (tX X f) (tX X g) σ H Q:=fun σ H Q h0=>tXe h0 fun P O L ρ w ρ' r e q=>by
 unfold fBin at e;obtain ⟨⟨w1,ρ1⟩,e1,e⟩:=obs e;dsimp only at e;refine ⟨P,O,L,ρ,w1,ρ1,r,e1,fun v H1 H1' r1 s1 d1=>?_⟩;obtain ⟨P',r1',k1⟩:=hold (r1.grow s1) (d1.fz r1 s1);obtain ⟨⟨w2,ρ2⟩,e2,e⟩:=obs e;dsimp only at e;refine ⟨P',O,L,ρ1,w2,ρ2,r1',e2,fun u H2 H2' r2 s2 d2=>?_⟩;have d2':=d2.fz r2 s2;obtain ⟨r3,d1'⟩:=k1 ρ2 H2' (r2.grow s2);cases e3:dr ρ2 w1.fz with
 | none=>rw [e3] at e;cases e
 | some x=>
  cases e4:dr ρ2 w2.fz with
  | none=>rw [e3,e4] at e;cases e
  | some y=>
   rw [e3,e4] at e;simp only [bind_some] at e;cases e5:op x y with
   | none=>rw [e5] at e;cases e
   | some w'=>
    rw [e5] at e;cases e;exact k _ x y w v u H2' Q (fun b z=>r3.there z) e5 (G6 r3 e3 d1') (G6 r3 e4 d2') fun z H' s d=>q z H2' H' r3 s d.st
theorem V0 {op:Operator}{r:R2}{o:D->D->Option W}(ho:OpR X (binaryOp op) r)(k:Pr2 X o r)(ha:QX X a f)(hb:QX X b g):QX X (.BinOp a op b pos) (fBin o f g):=⟨PE.weak (b2r ho ha.to hb.to) (Z8 k)⟩
theorem a1S {op:CmpOp}{r:R2}{o:D->D->Option W}(ho:OpR X (compareOp op) r)(k:Pr2 X o r)(ha:QX X a f)(hb:QX X b g)(hm:behindInMarks op b=false:=by first | exact nomark _ | rfl):QX X (.Compare a [op] [b] pos) (fBin o f g):=⟨PE.weak (b1L ho ha.to hb.to hm) (Z8 k)⟩
def fTest (f:FX):FT:=fun ρ=>(f ρ).bind fun p=>match p.1 with | .v (.bl k)=>some (k,p.2) | _=>none
theorem W0 {f:FX}{ρ ρ':Ev}{k:Bool}(e:fTest f ρ=some (k,ρ')):f ρ=some (.v (.bl k),ρ'):=by
 unfold fTest at e;cases q:f ρ with
 | none=>rw [q] at e;cases e
 | some p=>
  rw [q] at e;obtain ⟨w,ρ1⟩:=p;simp only [bind_some] at e;split at e
  ·cases e;rfl
  ·cases e
theorem S5 {op:CmpOp}{r:R2}{o:D->D->Option W}(ho:OpR X (compareOp op) r)(k:Pr2 X o r)(ha:QX X a f)(hb:QX X b g)(hm:behindInMarks op b=false:=by first | exact nomark _ | rfl):QT X (.Compare a [op] [b] pos) (fTest (fBin o f g)):=by
 refine ⟨PT.weak (b13 ho ha.to hb.to hm) fun σ H Q h0=>tTe h0 fun P O L ρ t ρ' r e q=>?_⟩;refine Z8 k σ H _ ⟨P,O,L,ρ,_,ρ',r,W0 e,fun v H1 H' r1 s1 d1=>⟨t,?_,q H' (r1.grow s1)⟩⟩;have d1':Den X.K (AvO O ρ' σ) H' (.bl t) v:=d1;exact a1F.mp d1'
def big:Nat:=2 ^ 8000
def mOk (i j:Int):Prop:=i.natAbs < 2 ^ 64\/j.natAbs < 2 ^ 64\/(i.natAbs < big/\j.natAbs < big)
instance (i j:Int):Decidable (mOk i j):=by unfold mOk;infer_instance
theorem mOk.ok {i j:Int}(m:mOk i j):IntMulOk i j:=by
 rcases m with m | m | ⟨m,n⟩
 ·exact .of_left (KE_bits m)
 ·exact .of_right (KE_bits m)
 ·exact .of_bits (zY (KE_bits m) (by decide)) (zY (KE_bits n) (by decide))
where KE_bits {x:Int} {m:Nat} (h:x.natAbs < 2 ^ m):Builtin.Int.intBits x<=m:=intBits_le_iff.mpr h
theorem b1y:OpR X (binaryOp .Mult) (rI mOk fun i j=>.int (i * j)):=opI fun _ _ _ _ _ _ _ hc q=>mul_int q hc.ok
def dOk (j:Int):Prop:=0 < j/\j.natAbs < big
instance (j:Int):Decidable (dOk j):=by unfold dOk;infer_instance
theorem b1n:OpR X (binaryOp .FloorDiv) (rI (fun _ j=>dOk j) fun i j=>.int (i / j)):=opI fun i j _ _ _ _ _ hc q=>by
 have e:i.fdiv j=i / j:=Int.fdiv_eq_ediv_of_nonneg i (Int.le_of_lt hc.1);refine floordiv_int (Int.ne_of_gt hc.1) (by rw [e];exact q) (.inl (PyProof.noPylong_of_log2 ?_))
 by_cases z:j.natAbs=0
 ·rw [z];decide
 ·exact zB ((Nat.log2_lt z).mpr (show j.natAbs < 2 ^ 8000 from hc.2)) (by decide)
def oI (C:Int->Int->Prop) [∀i j,Decidable (C i j)] (g:Int->Int->D):D->D->Option W
 | .int i,.int j=>if C i j then some (.v (g i j)) else none
 | _,_=>none
def oI0 (g:Int->Int->D):D->D->Option W
 | .int i,.int j=>some (.v (g i j))
 | _,_=>none
theorem j4 {K:PySem.W.Frag}{A:Av}{H:Hp}{i:Int}{v:V}(h:DenR K A H (.int i) v):v= .int i:=by
 have h:Den K A H (.int i) v:=h;exact u7.mp h
theorem kI {C:Int->Int->Prop} [∀i j,Decidable (C i j)] {g:Int->Int->Int}:Pr2 X (oI C fun i j=>.int (g i j)) (rI C fun i j=>.int (g i j)):=by
 intro A x y w v u H Q _ e hx hy q;cases x <;> cases y <;> simp only [oI] at e <;> try cases e
 rename_i i j;split at e
 ·rename_i hc;cases e;exact ⟨i,j,j4 hx,j4 hy,hc,q _ H (Same.refl H) C4⟩
 ·cases e
theorem kI0 {g:Int->Int->Int}:Pr2 X (oI0 fun i j=>.int (g i j)) (rI0 fun i j=>.int (g i j)):=by
 intro A x y w v u H Q _ e hx hy q;cases x <;> cases y <;> simp only [oI0] at e <;> cases e
 rename_i i j;exact ⟨i,j,j4 hx,j4 hy,q _ H (Same.refl H) C4⟩
theorem kB0 {g:Int->Int->Bool}:Pr2 X (oI0 fun i j=>.bl (g i j)) (rI0 fun i j=>.bl (g i j)):=by
 intro A x y w v u H Q _ e hx hy q;cases x <;> cases y <;> simp only [oI0] at e <;> cases e
 rename_i i j;exact ⟨i,j,j4 hx,j4 hy,q _ H (Same.refl H) A4⟩
abbrev fSub:=fBin (oI0 fun i j=>.int (i - j))
abbrev fMul:=fBin (oI mOk fun i j=>.int (i * j))
abbrev fDiv:=fBin (oI (fun _ j=>dOk j) fun i j=>.int (i / j))
abbrev fMod:=fBin (oI (fun _ j=>0 < j) fun i j=>.int (i % j))
instance (i j:Int):Decidable (CPow i j):=by unfold CPow;infer_instance
abbrev fPow:=fBin (oI CPow fun i j=>.int (i ^ j.toNat))
theorem C9 (ha:QX X a f)(hb:QX X b g):QX X (.BinOp a .Sub b pos) (fSub f g):=V0 b3H kI0 ha hb
theorem m8 (ha:QX X a f)(hb:QX X b g):QX X (.BinOp a .Mult b pos) (fMul f g):=V0 b1y kI ha hb
theorem O0 (ha:QX X a f)(hb:QX X b g):QX X (.BinOp a .FloorDiv b pos) (fDiv f g):=V0 b1n kI ha hb
theorem K9 (ha:QX X a f)(hb:QX X b g):QX X (.BinOp a .Mod b pos) (fMod f g):=V0 b4g kI ha hb
theorem a0t (ha:QX X a f)(hb:QX X b g):QX X (.BinOp a .Pow b pos) (fPow f g):=V0 b33 kI ha hb
abbrev oGt:=oI0 fun i j=>.bl (decide (j < i))
abbrev oGe:=oI0 fun i j=>.bl (decide (j<=i))
theorem a9g (ha:QX X a f)(hb:QX X b g):QX X (.Compare a [.Gt] [b] pos) (fBin oGt f g):=a1S b2M kB0 ha hb
theorem qx_ge (ha:QX X a f)(hb:QX X b g):QX X (.Compare a [.GtE] [b] pos) (fBin oGe f g):=a1S b2P kB0 ha hb
theorem b3p (ha:QX X a f)(hb:QX X b g):QT X (.Compare a [.Gt] [b] pos) (fTest (fBin oGt f g)):=S5 b2M kB0 ha hb
theorem b3d (ha:QX X a f)(hb:QX X b g):QT X (.Compare a [.GtE] [b] pos) (fTest (fBin oGe f g)):=S5 b2P kB0 ha hb
def lim:Nat:=1000000
theorem t3:lim<=sizeLine:=by unfold lim;rw [jT];decide
theorem j6 {H:Hp}{p:Addr}(h:H p=none)(o:HO):Same H (upd H p o):=fun b u q=>by rw [c7 (m6 q h)];exact q
theorem w8 {K:PySem.W.Frag}{A:Av}{σ:L2.St}{H:Hp}{p:Addr}{xs:List D}{vs:List V}(hp:H p=none)(l:DenL K A H xs vs):DenW K A σ H (upd H p (.lst vs)) (.o (.lst xs)) (.ref p):=
 ⟨p,rfl,hp,vs,m7,t5 (M:=fun _=>False) ⟨fun b o q _=>j6 hp _ b o q,fun _ z=>z.elim,fun b z=>z.imp id fun z=>by rw [z];exact hp⟩ _ _ l⟩
theorem a0b {K:PySem.W.Frag}{A:Av}{σ:L2.St}{H H0:Hp}{p:Addr}{xs:List D}{vs:List V}(hp:H p=none)(l:DenL K A H xs vs):DenW K A σ H0 (upd H p (.tup vs)) (.v (.tup xs)) (.ref p):=by
 show Den _ _ _ _ _;rw [Den];exact ⟨p,vs,rfl,.inl (.inl m7),a8p (j6 hp _) l⟩
theorem b1u:OpR X (binaryOp .Add) (fun x y H Q=>∃l b xs zs,x= .ref l/\y= .ref b/\SqL X.K H l xs/\SqL X.K H b zs/\xs.length + zs.length<=sizeLine/\∀p,H p=none->Q (.ref p) (upd H p (.lst (xs ++ zs)))):=by
 intro pins s σ H x y v u Q I rx ry h;obtain ⟨l,b,xs,zs,rfl,rfl,hH,hB,hz,q⟩:=h;cases rx;cases ry;obtain ⟨its,r,⟨⟨c1,d1,e1,s1⟩,n1,g1,k1,_,w1⟩,_⟩:=I.list hH;obtain ⟨its2,r2,⟨⟨c2,d2,e2,s2⟩,n2,g2,k2,_,w2⟩,_⟩:=I.list hB;simp only at k1 w1 k2 w2;subst k1 w1 k2 w2;have l1:=r.length;have l2:=r2.length;refine concat_meets ⟨_,g1,rfl⟩ ⟨_,g2,rfl⟩ noFill_list_add seq_list_add PySem.F.slot_list_add PySem.F.entry_list_add (PySem.F.args_list_add_2 _ _) (list_addW l b its.toArray its2.toArray n1 n2 d1 d2 s1 s2 (by rw [zR,zR];walk_at "o")) ⟨g1,g2,?_⟩
 have ea:its.toArray ++ its2.toArray=(its ++ its2).toArray:=by simp
 rw [ea];exact ⟨.ref _,_,I.lnew (t':=s.toks) (r.append r2) (by rw [zT];walk_at "o"),rfl,q _ I.fresh⟩
def oCat (xs ys:List D):Option W:=if xs.length + ys.length<=lim then some (.o (.lst (xs ++ ys))) else none
def oAdd:D->D->Option W
 | .int i,.int j=>some (.v (.int (i + j)))
 | .lst xs,.lst ys=>oCat xs ys
 | .tup xs,.tup ys=>if xs≠[]/\xs.length + ys.length<=lim then some (.v (.tup (xs ++ ys))) else none
 | _,_=>none
theorem k7 (ha:QX X a f)(hb:QX X b g):QX X (.BinOp a .Add b pos) (fBin oAdd f g):=V0 (b4u.or (b1u.or b1V)) (by
 intro A x y w v u H Q _ e hx hy q;cases x <;> cases y <;> simp only [oAdd] at e <;> try cases e
 ·rename_i i j;exact .inl ⟨i,j,j4 hx,j4 hy,q _ H (Same.refl H) C4⟩
 ·rename_i xs ys;split at e
  ·rename_i hl;cases e;have hx:Den X.K A H (.tup xs) v:=hx;have hy:Den X.K A H (.tup ys) u:=hy;rw [Den] at hx hy;obtain ⟨a,vs,ev,ha,la⟩:=hx;obtain ⟨b,us,eu,hb,lb⟩:=hy;refine .inr (.inr ⟨a,b,vs,us,ev,eu,ha,hb,fun z=>?_,?_,fun z=>?_,fun _ p hp=>q _ _ (j6 hp _) (a0b hp (l7 la lb))⟩)
   rotate_left 2
   ·subst z;have z:ys=[]:=List.length_eq_zero_iff.mp (b6 lb);subst z;refine q _ H (Same.refl H) ?_;show Den _ _ _ _ _;rw [yE,Den];exact ⟨a,vs,rfl,ha,la⟩
   ·subst z;exact hl.1 (List.length_eq_zero_iff.mp (b6 la))
   ·rw [<-b6 la,<-b6 lb];exact zY hl.2 t3
  ·cases e
 ·rename_i xs ys;unfold oCat at e;split at e
  ·rename_i hl;cases e;obtain ⟨a,vs,ev,ha,la⟩:=hx;obtain ⟨b,us,eu,hb,lb⟩:=hy;refine .inr (.inl ⟨a,b,vs,us,ev,eu,ha,hb,?_,fun p hp=>q _ _ (j6 hp _) (w8 hp (l7 la lb))⟩);rw [<-b6 la,<-b6 lb];exact zY hl t3
  ·cases e) ha hb
def fUn (op:D->Option W) (f:FX):FX:=fun ρ=>(f ρ).bind fun p=>(dr p.2 p.1.fz).bind fun x=>(op x).map fun w=>(w,p.2)
def Pr1 (X:Cx) (op:D->Option W) (r:V->Hp->VK->Prop):Prop:=∀(A:Av) (x:D) (w:W) (v:V) (H:Hp) (Q:VK),(∀b,A b->∃o,H b=some o)->op x=some w->DenR X.K A H x v->(∀z H',Same H H'->DenW X.K A [] H H' w z->Q z H')->r v H Q
theorem a7z {r:V->Hp->VK->Prop}{op:D->Option W}(k:Pr1 X op r):∀σ H Q,tX X (fUn op f) σ H Q->tUn r (tX X f) σ H Q:=fun σ H Q h0=>tXe h0 fun P O L ρ w ρ' r e q=>by
 unfold fUn at e;obtain ⟨⟨w1,ρ1⟩,e1,e⟩:=obs e;dsimp only at e;refine ⟨P,O,L,ρ,w1,ρ1,r,e1,fun v H1 H1' r1 s1 d1=>?_⟩;have r3:=r1.grow s1;cases e3:dr ρ1 w1.fz with
 | none=>rw [e3] at e;cases e
 | some x=>
  rw [e3] at e;simp only [bind_some] at e;cases e5:op x with
  | none=>rw [e5] at e;cases e
  | some w'=>
   rw [e5] at e;cases e;exact k _ x w v H1' Q (fun b z=>r3.there z) e5 (G6 r3 e3 (d1.fz r1 s1)) fun z H' s d=>q z H1' H' r3 s d.st
def oNeg:D->Option W
 | .int i=>some (.v (.int (-i)))
 | _=>none
theorem P4 (ha:QX X a f):QX X (.UnaryOp .USub a pos) (fUn oNeg f):=⟨PE.weak (pe_un b3E ha.to) (a7z fun A x w v H Q _ e hx q=>by
 cases x <;> simp only [oNeg] at e <;> cases e
 rename_i i
 exact ⟨i,j4 hx,q _ H (Same.refl H) C4⟩)⟩
end
section
variable {X:Cx}{a b c e:Expr}{pos:Pos}{f g h:FX}{t u:FT}{fa:FA}{es rest:List Expr}
def truth:D->Option Bool
 | .non=>some false
 | .bl b=>some b
 | .int i=>some (!decide (i=0))
 | .tup xs=>some (!xs.isEmpty)
 | .lst xs=>some (!xs.isEmpty)
 | .dK ks _=>some (!ks.isEmpty)
 | _=>none
def fTru (f:FX):FT:=fun ρ=>(f ρ).bind fun p=>(dr p.2 p.1.fz).bind fun d=>(truth d).map fun k=>(k,p.2)
theorem a1J {K:PySem.W.Frag}{A:Av}{H:Hp}{xs:List D}{vs:List V}(l:DenL K A H xs vs):(!xs.isEmpty)= !vs.isEmpty:=by
 have:=b6 l
 cases xs <;> cases vs <;> simp_all
theorem a68 {K:PySem.W.Frag}{A:Av}{H:Hp}{d:D}{v:V}{k:Bool}(e:truth d=some k)(h:DenR K A H d v):TruV K v H k:=by
 cases d with
 | non=>cases e;have h:Den K A H .non v:=h;rw [Den] at h;subst h;rfl
 | bl b=>cases e;have h:Den K A H (.bl k) v:=h;rw [Den] at h;subst h;rfl
 | int i=>cases e;have h:Den K A H (.int i) v:=h;rw [Den] at h;subst h;rfl
 | tup xs=>cases e;have h:Den K A H (.tup xs) v:=h;rw [Den] at h;obtain ⟨a,vs,rfl,hq,l⟩:=h;exact .inr (.inl ⟨vs,hq,a1J l⟩)
 | lst xs=>cases e;obtain ⟨a,vs,rfl,hq,l⟩:=h;exact .inl ⟨vs,hq,a1J l⟩
 | dK ks xs=>
  cases e;obtain ⟨a,vs,rfl,hq,hl,l⟩:=h;refine .inr (.inr ⟨_,hq,?_⟩)
  have:=b6 l
  cases ks <;> cases vs <;> cases xs <;> simp_all
 | _=>cases e
theorem C0 (ha:QX X a f)(he:∀whole,isTrue a X.env whole=(do let v <-whole;standAt a.pos;holding [v] (truthy v)):=by intro _;rfl):QT X a (fTru f):=⟨PT.weak (a9p ha.to he) fun σ H Q h0=>tTe h0 fun P O L ρ k ρ' r e q=>by
 unfold fTru at e;obtain ⟨⟨w,ρ1⟩,e1,e⟩:=obs e;dsimp only at e;cases e2:dr ρ1 w.fz with
 | none=>rw [e2] at e;cases e
 | some d=>
  rw [e2] at e;simp only [bind_some] at e;cases e3:truth d with
  | none=>rw [e3] at e;cases e
  | some k'=>
   rw [e3] at e;cases e
   exact ⟨P,O,L,ρ,w,_,r,e1,fun v H1 H' r1 s1 d1=>⟨k,a68 e3 (G6 (r1.grow s1) e2 (d1.fz r1 s1)),q H' (r1.grow s1)⟩⟩⟩
def fNot (t:FT):FT:=fun ρ=>(t ρ).map fun p=>(!p.1,p.2)
theorem G5 (ha:QT X a t):QT X (.UnaryOp .Not a pos) (fNot t):=⟨PT.weak (L2.b4y ha.to) fun σ H Q h0=>tTe h0 fun P O L ρ k ρ' r e q=>by
 unfold fNot at e;cases e1:t ρ with
 | none=>rw [e1] at e;cases e
 | some p=>rw [e1] at e;obtain ⟨k1,ρ1⟩:=p;cases e;exact ⟨P,O,L,ρ,k1,_,r,e1,q⟩⟩
def fAnd (t u:FT):FT:=fun ρ=>(t ρ).bind fun p=>if p.1=true then u p.2 else some (false,p.2)
def fOr (t u:FT):FT:=fun ρ=>(t ρ).bind fun p=>if p.1=true then some (true,p.2) else u p.2
theorem b14 (ha:QT X a t):QW X (.BoolOp .And [a] pos) t:=⟨pw_and1 ha.to⟩
theorem a12 (ha:QT X a t):QW X (.BoolOp .Or [a] pos) t:=⟨pw_or1 ha.to⟩
theorem b4r (ha:QT X a t)(hb:QW X (.BoolOp .And (b :: rest) pos) u):QW X (.BoolOp .And (a :: b :: rest) pos) (fAnd t u):=⟨PW.weak (pw_and ha.to hb.to) fun σ H Q h0=>tTe h0 fun P O L ρ k ρ' r e q=>by
 unfold fAnd at e;obtain ⟨⟨k1,ρ1⟩,e1,e⟩:=obs e;dsimp only at e;refine ⟨P,O,L,ρ,k1,ρ1,r,e1,fun H' r'=>?_⟩;cases k1 with
 | true=>rw [if_pos rfl] at e ⊢;exact ⟨P,O,L,ρ1,k,ρ',r',e,q⟩
 | false=>rw [if_neg zQ] at e ⊢;cases e;exact q H' r'⟩
theorem a08 (ha:QT X a t)(hb:QW X (.BoolOp .Or (b :: rest) pos) u):QW X (.BoolOp .Or (a :: b :: rest) pos) (fOr t u):=⟨PW.weak (pw_or ha.to hb.to) fun σ H Q h0=>tTe h0 fun P O L ρ k ρ' r e q=>by
 unfold fOr at e;obtain ⟨⟨k1,ρ1⟩,e1,e⟩:=obs e;dsimp only at e;refine ⟨P,O,L,ρ,k1,ρ1,r,e1,fun H' r'=>?_⟩;cases k1 with
 | true=>rw [if_pos rfl] at e ⊢;cases e;exact q H' r'
 | false=>rw [if_neg zQ] at e ⊢;exact ⟨P,O,L,ρ1,k,ρ',r',e,q⟩⟩
theorem a3d (ha:QW X a t):QT X a t:=⟨PW.pt ha.to⟩
theorem A9 {op}(ha:QX X a f):QX X (.BoolOp op [a] pos) f:=⟨b31 ha.to⟩
def fAndV (f g:FX):FX:=fun ρ=>(fTest f ρ).bind fun p=>if p.1=true then g p.2 else some (.v (.bl false),p.2)
def fOrV (f g:FX):FX:=fun ρ=>(fTest f ρ).bind fun p=>if p.1=true then some (.v (.bl true),p.2) else g p.2
def fNotV (f:FX):FX:=fun ρ=>(fTest f ρ).map fun p=>(.v (.bl (!p.1)),p.2)
theorem Y1 {K:PySem.W.Frag}{A:Av}{σ:L2.St}{H H':Hp}{k:Bool}{v:V}(h:DenW K A σ H H' (.v (.bl k)) v):v= .bl k:=by
 have h:Den K A H' (.bl k) v:=h;exact a1F.mp h
theorem C8 (ha:QX X a f)(hb:QX X (.BoolOp .And (b :: rest) pos) g):QX X (.BoolOp .And (a :: b :: rest) pos) (fAndV f g):=⟨PE.weak (b38 ha.to hb.to) fun σ H Q h0=>tXe h0 fun P O L ρ w ρ' r e q=>by
 unfold fAndV at e;obtain ⟨⟨k,ρ1⟩,e1,e⟩:=obs e;dsimp only at e;refine ⟨P,O,L,ρ,_,ρ1,r,W0 e1,fun v H1 H' r1 s1 d1=>⟨k,Y1 d1,?_⟩⟩;cases k with
 | true=>rw [if_pos rfl] at e ⊢;exact ⟨P,O,L,ρ1,w,ρ',r1.grow s1,e,q⟩
 | false=>rw [if_neg zQ] at e ⊢;cases e;exact q _ H' H' (r1.grow s1) (Same.refl _) A4⟩
theorem a6g (ha:QX X a f)(hb:QX X (.BoolOp .Or (b :: rest) pos) g):QX X (.BoolOp .Or (a :: b :: rest) pos) (fOrV f g):=⟨PE.weak (pe_or ha.to hb.to) fun σ H Q h0=>tXe h0 fun P O L ρ w ρ' r e q=>by
 unfold fOrV at e;obtain ⟨⟨k,ρ1⟩,e1,e⟩:=obs e;dsimp only at e;refine ⟨P,O,L,ρ,_,ρ1,r,W0 e1,fun v H1 H' r1 s1 d1=>⟨k,Y1 d1,?_⟩⟩;cases k with
 | true=>rw [if_pos rfl] at e ⊢;cases e;exact q _ H' H' (r1.grow s1) (Same.refl _) A4
 | false=>rw [if_neg zQ] at e ⊢;exact ⟨P,O,L,ρ1,w,ρ',r1.grow s1,e,q⟩⟩
def fIf (t:FT) (f g:FX):FX:=fun ρ=>(t ρ).bind fun p=>if p.1=true then f p.2 else g p.2
theorem qx_if (hc:QT X c t)(ha:QX X a f)(hb:QX X b g):QX X (.IfExp c a b pos) (fIf t f g):=⟨PE.weak (a9i hc.to ha.to hb.to) fun σ H Q h0=>tXe h0 fun P O L ρ w ρ' r e q=>by
 unfold fIf at e;obtain ⟨⟨k,ρ1⟩,e1,e⟩:=obs e;dsimp only at e;refine ⟨P,O,L,ρ,k,ρ1,r,e1,fun H' r'=>?_⟩;cases k with
 | true=>rw [if_pos rfl] at e ⊢;exact ⟨P,O,L,ρ1,w,ρ',r',e,q⟩
 | false=>rw [if_neg zQ] at e ⊢;exact ⟨P,O,L,ρ1,w,ρ',r',e,q⟩⟩
def fNil:FA:=fun ρ=>some ([],ρ)
def fCons (f:FX) (fa:FA):FA:=fun ρ=>(f ρ).bind fun p=>(fa p.2).map fun q=>(p.1.fz :: q.1,q.2)
theorem a9:QA X [] fNil:=⟨PA.weak a0P fun σ H Q h0=>tAe h0 fun P O L ρ ws ρ' r e q=>by cases e;exact q [] H r rfl⟩
theorem a7 (ha:QX X e f)(hr:QA X es fa)(hs:starEach (e :: es) X.env=(false,eval e X.env) :: starEach es X.env:=by rfl):QA X (e :: es) (fCons f fa):=⟨PA.weak (D6 ha.to hr.to hs) fun σ H Q h0=>tAe h0 fun P O L ρ ws ρ' r e q=>by
 unfold fCons at e;obtain ⟨⟨w,ρ1⟩,e1,e⟩:=obs e;dsimp only at e;obtain ⟨⟨ws2,ρ2⟩,e2,e⟩:=oms e;cases e;refine ⟨P,O,L,ρ,w,ρ1,r,e1,fun v H1 H' r1 s1 d1=>?_⟩;obtain ⟨P',r1',k1⟩:=hold (r1.grow s1) (d1.fz r1 s1);refine ⟨P',O,L,ρ1,ws2,_,r1',e2,fun vs H2 r2 l2=>?_⟩;obtain ⟨r3,d3⟩:=k1 _ H2 r2
 exact q _ H2 r3 ⟨v,vs,rfl,d3,l2⟩⟩
def takeAll:Ev->List W->Option (List D×Ev)
 | ρ,[]=>some ([],ρ)
 | ρ,.v d :: ws=>(takeAll ρ ws).map fun p=>(d :: p.1,p.2)
 | ρ,.r i :: ws=>(frzAt ρ i).bind fun ρ1=>match ρ1[i]? with
  | some (some (.v d))=>(takeAll ρ1 ws).map fun p=>(d :: p.1,p.2)
  | _=>none
 | _,_=>none
theorem a5o {ρ ρ':Ev}{σ:L2.St}{O:Av}(h:∀(j:Nat) (w:W) (d:D),ρ'[j]? =some (some w)->w.own=some d->ρ[j]? =some (some w)):∀b,AvO O ρ' σ b->AvO O ρ σ b:=fun b z=>z.imp id fun ⟨j,w,d,e1,e2,e3⟩=>⟨j,w,d,h j w d e1 e2,e2,e3⟩
theorem k8 {P:List (D×V)}{O:Av}{L:List (Option Nat×Addr)}{σ:L2.St}{H:Hp}:∀{ws:List W} {ds:List D} {vs:List V} {ρ ρ':Ev},Rep X P O L ρ σ H->takeAll ρ ws=some (ds,ρ')->DenA X.K (AvO O ρ σ) σ H ws vs->
  Rep X P O L ρ' σ H/\DenL X.K (AvO O ρ' σ) H ds vs/\∀(j:Nat) (w:W) (d:D),ρ'[j]? =some (some w)->w.own=some d->ρ[j]? =some (some w)
 | [],ds,vs,ρ,ρ',r,e,h=>by cases e;have h:vs=[]:=h;subst h;exact ⟨r,i0,fun j w d e _=>e⟩
 | .v d :: ws,ds,vs,ρ,ρ',r,e,h=>by
  obtain ⟨v,rs,rfl,h1,h2⟩:=h;rw [takeAll] at e;obtain ⟨⟨ds1,ρ1⟩,e1,e⟩:=oms e;cases e;obtain ⟨r1,l1,k1⟩:=k8 r e1 h2;exact ⟨r1,g9 (p0 (u5 (a5o k1)) _ _ h1) l1,k1⟩
 | .r i :: ws,ds,vs,ρ,ρ',r,e,h=>by
  obtain ⟨v,rs,rfl,h1,h2⟩:=h;have h1:σ[i]? =some (some v):=h1;rw [takeAll] at e;cases e0:frzAt ρ i with
  | none=>rw [e0] at e;cases e
  | some ρ1=>
   rw [e0] at e;simp only [bind_some] at e;obtain ⟨r1,k1⟩:=r.frz e0;split at e
   ·rename_i d q;obtain ⟨⟨ds1,ρ2⟩,e1,e⟩:=oms e;cases e;have go1:∀{ws:List W} {vs:List V},DenA X.K (AvO O ρ σ) σ H ws vs->DenA X.K (AvO O ρ1 σ) σ H ws vs:=fun {ws}=>by
     induction ws with
     | nil=>exact fun h=>h
     | cons w ws ih=>
      intro vs h;obtain ⟨v,rs,rfl,h1,h2⟩:=h;refine ⟨v,rs,rfl,?_,ih h2⟩;cases w with
      | v d=>exact p0 (u5 (a5o fun j w d e1 e2=>(k1 j w d e1 e2).1)) _ _ h1
      | _=>exact h1
    obtain ⟨r2,l2,k2⟩:=k8 r1 e1 (go1 h2);obtain ⟨u,q1,q2⟩:=r1.slot i _ q;rw [h1] at q1;cases q1;have q2:Den X.K (AvO O ρ1 σ) H d v:=q2;exact ⟨r2,g9 (p0 (u5 (a5o k2)) _ _ q2) l2,fun j w d e1 e2=>(k1 j w d (k2 j w d e1 e2) e2).1⟩
   ·cases e
 | .o _ :: ws,ds,vs,ρ,ρ',r,e,h=>by rw [takeAll] at e <;> first | cases e | (intros;nofun)
 | .l _ :: ws,ds,vs,ρ,ρ',r,e,h=>by rw [takeAll] at e <;> first | cases e | (intros;nofun)
def fTup (fa:FA):FX:=fun ρ=>(fa ρ).bind fun p=>(takeAll p.2 p.1).bind fun q=>if q.1.length<=lim then some (.v (.tup q.1),q.2) else none
def fLst (fa:FA):FX:=fun ρ=>(fa ρ).bind fun p=>(takeAll p.2 p.1).bind fun q=>if q.1.length<=lim then some (.o (.lst q.1),q.2) else none
theorem a2T {mk:List D->W}{σ:L2.St}{H:Hp}{Q:VK}{R:List V->Hp->Prop}(hq:∀(A:Av) (ds:List D) (vs:List V) (H:Hp),(∀v H',Same H H'->DenW X.K A σ H H' (mk ds) v->Q v H')->vs.length<=sizeLine->DenL X.K A H ds vs->R vs H)
  (h:tX X (fun ρ=>(fa ρ).bind fun p=>(takeAll p.2 p.1).bind fun q=>if q.1.length<=lim then some (mk q.1,q.2) else none) σ H Q):tA X fa σ H R:=by
 obtain ⟨P,O,L,ρ,w,ρ',r,e,q⟩:=h;dsimp only at e;obtain ⟨⟨ws,ρ1⟩,e1,e⟩:=obs e;dsimp only at e;obtain ⟨⟨ds,ρ2⟩,e2,e⟩:=obs e;dsimp only at e;split at e
 ·rename_i hl;cases e;refine ⟨P,O,L,ρ,ws,ρ1,r,e1,fun vs H1 r1 l1=>?_⟩;obtain ⟨r2,l2,_⟩:=k8 r1 e2 l1;exact hq _ ds vs H1 (fun v H' s d=>q v H1 H' r2 s d) (by rw [<-b6 l2];exact zY hl t3) l2
 ·cases e
theorem m9 {k:Nat}(ha:QA X es fa):QX X (.Tuple es k pos) (fTup fa):=⟨PE.weak (b0G ha.to) fun σ H Q h=>a2T (mk:=fun ds=>.v (.tup ds)) (fun A ds vs H q hl l=>⟨hl,fun p hp=>q _ _ (j6 hp _) (a0b hp l)⟩) h⟩
theorem B5 (ha:QA X es fa):QX X (.List es pos) (fLst fa):=⟨PE.weak (a9G ha.to) fun σ H Q h=>a2T (mk:=fun ds=>.o (.lst ds)) (fun A ds vs H q hl l=>⟨hl,fun p hp=>q _ _ (j6 hp _) (w8 hp l)⟩) h⟩
def items:D->Option (List D)
 | .tup xs=>some xs
 | .lst xs=>some xs
 | _=>none
theorem F2 {K:PySem.W.Frag}{A:Av}{H:Hp}{d:D}{xs:List D}{v:V}(e:items d=some xs)(h:DenR K A H d v):∃a vs,v= .ref a/\(SqL K H a vs\/SqT K H a vs)/\DenL K A H xs vs:=by
 cases d <;> simp only [items] at e <;> cases e
 ·have h:Den K A H (.tup xs) v:=h;rw [Den] at h;obtain ⟨a,vs,e,hq,l⟩:=h;exact ⟨a,vs,e,.inr hq,l⟩
 ·obtain ⟨a,vs,e,hq,l⟩:=h;exact ⟨a,vs,e,.inl hq,l⟩
def strAt (x:Str) (i:Int):Option W:=if x.length<=lim then (atI x.cps.toList i).map fun c=>.v (.str ⟨#[c]⟩) else none
def oIx (x y:D):Option W:=match x,y with
 | .str x,.int i=>strAt x i
 | x,.int i=>(items x).bind fun xs=>(atI xs i).map .v
 | _,_=>none
theorem b1c {K:PySem.W.Frag}{A:Av}{H:Hp}{xs:List D}{vs:List V}{i:Int}{d:D}(l:DenL K A H xs vs)(e:atI xs i=some d):∃v,atI vs i=some v/\Den K A H d v:=by
 unfold atI at e ⊢;rw [<-b6 l];cases q:ixN xs.length i with
 | none=>rw [q] at e;cases e
 | some j=>rw [q] at e;exact z6 l e
theorem k_ix:Pr2 X oIx (rIx X.K):=by
 intro A x y w v u H Q _ e hx hy q;unfold oIx at e;split at e
 ·rename_i z i;unfold strAt at e;split at e
  ·rename_i hl;obtain ⟨ch,e1,e⟩:=oms e;cases e;have hx:Den X.K A H (.str z) v:=hx;exact .inr (.inr ⟨z,i,ch,a37.mp hx,j4 hy,zY hl t3,e1,q _ H (Same.refl H) b07⟩)
  ·cases e
 ·rename_i i _;cases e1:items x with
  | none=>rw [e1] at e;cases e
  | some xs=>
   rw [e1] at e;simp only [bind_some] at e;obtain ⟨d,e2,e⟩:=oms e;cases e;obtain ⟨a,vs,rfl,hq,l⟩:=F2 e1 hx;obtain ⟨v',h1,h2⟩:=b1c l e2;rcases hq with hq | hq
   ·exact .inl ⟨a,vs,i,v',rfl,j4 hy,hq,h1,q _ H (Same.refl H) h2⟩
   ·exact .inr (.inl ⟨a,vs,i,v',rfl,j4 hy,hq,h1,q _ H (Same.refl H) h2⟩)
 ·cases e
def fCall (k:List D->Option W) (fa:FA):FX:=fun ρ=>(fa ρ).bind fun p=>(drs p.2 p.1).bind fun ds=>(k ds).map fun w=>(w,p.2)
def PrA (X:Cx) (k:List D->Option W) (r:List V->Hp->VK->Prop):Prop:=∀(A:Av) (ds:List D) (w:W) (vs:List V) (H:Hp) (Q:VK),(∀b,A b->∃o,H b=some o)->k ds=some w->DenRL X.K A H ds vs->(∀z H',Same H H'->DenW X.K A [] H H' w z->Q z H')->r vs H Q
theorem a2C {r:List V->Hp->VK->Prop}{k:List D->Option W}(hk:PrA X k r):∀σ H Q,tX X (fCall k fa) σ H Q->tCB r (tA X fa) σ H Q:=fun σ H Q h0=>tXe h0 fun P O L ρ w ρ' r e q=>by
 unfold fCall at e;obtain ⟨⟨ws,ρ1⟩,e1,e⟩:=obs e;dsimp only at e;cases e2:drs ρ1 ws with
 | none=>rw [e2] at e;cases e
 | some ds=>
  rw [e2] at e;simp only [bind_some] at e;cases e3:k ds with
  | none=>rw [e3] at e;cases e
  | some w'=>
   rw [e3] at e;cases e;exact ⟨P,O,L,ρ,ws,ρ',r,e1,fun vs H1 r1 l1=>hk _ ds w vs H1 Q (fun b z=>r1.there z) e3 (a6k r1 e2 l1) fun z H2 s2 d2=>q z H1 H2 r1 s2 d2.st⟩
theorem a4H {x:Str}{p:Pos}{id:String}{r:List V->Hp->VK->Prop}{k:List D->Option W}(hc:CallR X (.builtin id) r)(hk:PrA X k r)(hv:bootBuiltins x=some (.builtin id))(hm:X.mg x=none)(ha:QA X (e :: es) fa)(hg:Gl X x)(hn:x≠"__name__")(hdb:(x == ("__debug__":Str))=false)
  (he:starEach (e :: es) X.env=(false,eval e X.env) :: starEach es X.env) (hpl:(backTo pos (starEach es X.env)).any (·.1)=false):QX X (.Call (.Name x p) (e :: es) [] pos) (fCall k fa):=⟨PE.weak (a2l hc hg hm hv ha.to hn hdb he hpl) (a2C hk)⟩
theorem a4G {x:Str}{p:Pos}{T:String}{r:List V->Hp->VK->Prop}{k:List D->Option W}(hc:CallR X (.type T) r)(hk:PrA X k r)(hv:bootBuiltins x=some (.type T))(hm:X.mg x=none)(ha:QA X (e :: es) fa)(hg:Gl X x)(hn:x≠"__name__")(hdb:(x == ("__debug__":Str))=false)
  (he:starEach (e :: es) X.env=(false,eval e X.env) :: starEach es X.env) (hpl:(backTo pos (starEach es X.env)).any (·.1)=false):QX X (.Call (.Name x p) (e :: es) [] pos) (fCall k fa):=⟨PE.weak (a7X hc hg hm hv ha.to hn hdb he hpl) (a2C hk)⟩
theorem denRL1 {K:PySem.W.Frag}{A:Av}{H:Hp}{d:D}{vs:List V}(l:DenRL K A H [d] vs):∃v,vs=[v]/\DenR K A H d v:=by
 obtain ⟨v,r,rfl,h,l⟩:=l;have l:r=[]:=l;subst l;exact ⟨v,rfl,h⟩
theorem denRL2 {K:PySem.W.Frag}{A:Av}{H:Hp}{d d':D}{vs:List V}(l:DenRL K A H [d,d'] vs):∃v v',vs=[v,v']/\DenR K A H d v/\DenR K A H d' v':=by
 obtain ⟨v,r,rfl,h,l⟩:=l;obtain ⟨v',rfl,h'⟩:=denRL1 l;exact ⟨v,v',rfl,h,h'⟩
end
inductive R where
 | nx (ρ:Ev) | bk (ρ:Ev) | ct (ρ:Ev) | rt (w:W) (ρ:Ev)
abbrev FS:=Ev->Option R
abbrev A0 (O:Av) (L:List (Option Nat×Addr)):Av:=fun b=>O b\/∃i:Nat,(some i,b)∈L
def EndsOk (X:Cx) (P:List (D×V)) (O:Av) (L:List (Option Nat×Addr)) (E:Ends):R->Prop
 | .nx ρ=>∀σ H,Rep X P O L ρ σ H->E.nx σ H
 | .bk ρ=>∀σ H,Rep X P O L ρ σ H->E.bk σ H
 | .ct ρ=>∀σ H,Rep X P O L ρ σ H->E.ct σ H
 | .rt w ρ=>∀v H,(∀b o,X.H₀ b=some o->(∀i,(i,b)∉L)->H b=some o)->(∀(i:Nat) b,(some i,b)∈L->∃c,ownAt ρ i=some c/\Obj X.K (A0 O L) H b c)->DenW X.K (A0 O L) [] (hz X L) H w v->E.rt v H
def tS (X:Cx) (F:FS):TS:=fun E σ H=>∃P O L ρ r,Rep X P O L ρ σ H/\F ρ=some r/\EndsOk X P O L E r
theorem tSe {X:Cx}{F:FS}{E:Ends}{σ:L2.St}{H:Hp}{C:Prop}(h:tS X F E σ H)(k:∀P O L ρ r,Rep X P O L ρ σ H->F ρ=some r->EndsOk X P O L E r->C):C:=by
 obtain ⟨P,O,L,ρ,r,rp,e,q⟩:=h;exact k P O L ρ r rp e q
structure QS (X:Cx) (st:Stmt) (F:FS):Prop where
 to:PS X st (tS X F)
structure QSs (X:Cx) (st:List Stmt) (F:FS):Prop where
 to:PSs X st (tS X F)
theorem PS.weak {X:Cx}{e:Stmt}{t u:TS}(h:PS X e t)(w:∀E σ H,u E σ H->t E σ H):PS X e u:=fun pins s σ H E I q=>h pins s σ H E I (w E σ H q)
theorem PSs.weak {X:Cx}{e:List Stmt}{t u:TS}(h:PSs X e t)(w:∀E σ H,u E σ H->t E σ H):PSs X e u:=fun pins s σ H E I q=>h pins s σ H E I (w E σ H q)
def fThen (F G:FS):FS:=fun ρ=>(F ρ).bind fun r=>match r with
 | .nx ρ'=>G ρ'
 | r=>some r
section
variable {X:Cx}{P:List (D×V)}{O:Av}{L:List (Option Nat×Addr)}{ρ ρ':Ev}{σ:L2.St}{H H1 H':Hp}{w:W}{d:D}{v:V}
theorem Rep.a0 (r:Rep X P O L ρ σ H){b:Addr}(z:A0 O L b):AvO O ρ σ b:=z.imp id fun ⟨i,z⟩=>by
 obtain ⟨d,h1,h2⟩:=r.lnd i b z;exact ⟨i,_,d,h1,rfl,h2⟩
theorem Rep.lents (r:Rep X P O L ρ σ H):∀(i:Nat) b,(some i,b)∈L->∃c,ownAt ρ i=some c/\Obj X.K (A0 O L) H b c:=fun i b z=>by
 obtain ⟨d,h1,h2⟩:=r.lnd i b z;obtain ⟨a,h3,h4⟩:=r.obj h1 rfl;rw [h2] at h3;cases h3;exact ⟨d,by unfold ownAt;rw [h1];rfl,q5 (u5 fun b z=>r.a0 z) rfl h4⟩
def bindW (ρ:Ev) (i:Nat):W->Option Ev
 | .v d=>if freeSlot ρ i=true then some (ρ.set i (some (.v d))) else none
 | .o d=>if freeSlot ρ i=true then some (ρ.set i (some (.o d))) else none
 | .r j=>(frzAt ρ j).bind fun ρ1=>match ρ1[j]? with
  | some (some (.v d))=>if freeSlot ρ1 i=true then some (ρ1.set i (some (.v d))) else none
  | _=>none
 | .l _=>none
theorem a6M {i:Nat}(r:Rep X P O L ρ σ H1)(s:Same H1 H')(h:DenW X.K (AvO O ρ σ) σ H1 H' w v)(e:bindW ρ i w=some ρ'):Rep X P O L ρ' (σ.set i (some v)) H':=by
 cases w with
 | v d=>
  rw [bindW] at e;split at e
  ·rename_i hf;cases e;exact (r.grow s).put hf h
  ·cases e
 | o d=>
  rw [bindW] at e;split at e
  ·rename_i hf;cases e;obtain ⟨a,rfl,hn,ob⟩:=h;exact r.putO s hf hn ob
  ·cases e
 | r j=>
  rw [bindW] at e;cases e1:frzAt ρ j with
  | none=>rw [e1] at e;cases e
  | some ρ1=>
   rw [e1] at e;simp only [bind_some] at e;obtain ⟨r1,_⟩:=(r.grow s).frz e1;split at e
   ·rename_i d q;split at e
    ·rename_i hf;cases e;obtain ⟨u,q1,q2⟩:=r1.slot j _ q;have h:σ[j]? =some (some v):=h;rw [h] at q1;cases q1;exact r1.put hf q2
    ·cases e
   ·cases e
 | l d=>cases e
def retW (ρ:Ev):W->Option R
 | .v d=>some (.rt (.v d) ρ)
 | .o d=>some (.rt (.o d) ρ)
 | .r i=>match ρ[i]? with
  | some (some (.o d))=>some (.rt (.o d) ρ)
  | some (some (.v d))=>some (.rt (.v d) ρ)
  | _=>none
 | .l _=>none
theorem b36 {E:Ends}{q:R}(r:Rep X P O L ρ σ H1)(s:Same H1 H')(h:DenW X.K (AvO O ρ σ) σ H1 H' w v)(e:retW ρ w=some q)(hq:EndsOk X P O L E q):E.rt v H':=by
 have r':=r.grow s;cases w with
 | v d=>cases e;exact hq v H' r'.same r'.lents (p0 (u5 fun b z=>r.a0 z) _ _ h)
 | o d=>
  cases e;obtain ⟨a,rfl,hn,ob⟩:=h;exact hq _ H' r'.same r'.lents ⟨a,rfl,r.fresh0 hn,q5 (u5 fun b z=>z.imp (fun z=>r.a0 z) id) rfl ob⟩
 | r i=>
  rw [retW] at e;have h:σ[i]? =some (some v):=h;split at e
  ·rename_i d q;cases e;obtain ⟨a,h1,h2⟩:=r'.obj q rfl;rw [h] at h1;cases h1;refine hq _ H' r'.same r'.lents ⟨a,rfl,r'.new i d a q h,q5 (u5 fun b z=>?_) rfl h2⟩;rcases z with z | z
   ·exact r.a0 z
   ·rw [z];exact .inr ⟨i,_,d,q,rfl,h⟩
  ·rename_i d q;cases e;obtain ⟨u,q1,q2⟩:=r'.slot i _ q;rw [h] at q1;cases q1;exact hq v H' r'.same r'.lents (p0 (u5 fun b z=>r.a0 z) _ _ q2)
  ·cases e
 | l d=>cases e
end
section
variable {X:Cx}{a b c e:Expr}{st:Stmt}{rest bd els:List Stmt}{pos:Pos}{f g:FX}{t:FT}{fa:FA}{F G:FS}
theorem j7:QSs X [] (fun ρ=>some (.nx ρ)):=⟨PSs.weak b1i fun E σ H h0=>tSe h0 fun P O L ρ r rp e q=>by cases e;exact q σ H rp⟩
theorem b4 (h1:QS X st F)(h2:QSs X rest G):QSs X (st :: rest) (fThen F G):=⟨PSs.weak (b0n h1.to h2.to) fun E σ H h0=>tSe h0 fun P O L ρ r rp e q=>by
 unfold fThen at e;obtain ⟨r1,e1,e⟩:=obs e;refine ⟨P,O,L,ρ,r1,rp,e1,?_⟩;cases r1 with
 | nx ρ'=>exact fun σ' H' rp'=>⟨P,O,L,ρ',r,rp',e,q⟩
 | bk ρ'=>cases e;exact q
 | ct ρ'=>cases e;exact q
 | rt d ρ'=>cases e;exact q⟩
theorem b5 (h1:QS X st F):QSs X [st] F:=⟨b1A h1.to⟩
theorem b0U:QS X (.Break pos) (fun ρ=>some (.bk ρ)):=⟨PS.weak b0f fun E σ H h0=>tSe h0 fun P O L ρ r rp e q=>by cases e;exact q σ H rp⟩
theorem b0J:QS X st (fun _=>none):=⟨PS.weak a9P fun E σ H h0=>tSe h0 fun P O L ρ r rp e q=>by cases e⟩
theorem a5g {e c:Option Expr}:QS X (.Raise e c pos) (fun _=>none):=b0J
def fRet (f:FX):FS:=fun ρ=>(f ρ).bind fun p=>retW p.2 p.1
theorem c9 (ha:QX X e f):QS X (.Return (some e) pos) (fRet f):=⟨PS.weak (b3P ha.to) fun E σ H h0=>tSe h0 fun P O L ρ r rp e q=>by
 unfold fRet at e;obtain ⟨⟨w,ρ1⟩,e1,e⟩:=obs e
 exact ⟨P,O,L,ρ,w,ρ1,rp,e1,fun v H1 H' r1 s1 d1=>b36 r1 s1 d1 e q⟩⟩
def fIfS (t:FT) (F G:FS):FS:=fun ρ=>(t ρ).bind fun p=>if p.1=true then F p.2 else G p.2
theorem n5 (hc:QT X c t)(ha:QSs X bd F)(hb:QSs X els G):QS X (.If c bd els pos) (fIfS t F G):=⟨PS.weak (ps_if hc.to ha.to hb.to) fun E σ H h0=>tSe h0 fun P O L ρ r rp e q=>by
 unfold fIfS at e;obtain ⟨⟨k,ρ1⟩,e1,e⟩:=obs e;dsimp only at e;refine ⟨P,O,L,ρ,k,ρ1,rp,e1,fun H1 r1=>?_⟩;cases k with
 | true=>rw [if_pos rfl] at e ⊢;exact ⟨P,O,L,ρ1,r,r1,e,q⟩
 | false=>rw [if_neg zQ] at e ⊢;exact ⟨P,O,L,ρ1,r,r1,e,q⟩⟩
def fAsg (i:Nat) (f:FX):FS:=fun ρ=>(f ρ).bind fun p=>(bindW p.2 i p.1).map .nx
theorem g8 (i:Nat){x:Str}{pos':Pos}(hN:X.N.Nodup)(ha:QX X e f)(hi:X.N[i]? =some x:=by rfl)(hx:Loc X.env.scope x:=by first | exact Or.inl rfl | exact Or.inr rfl)(hs:swapsWith e (some (.Name x pos')) pos.line X.env=pure false:=by rfl)(hf:X.fn x=true\/X.env.scope.names.lookup x=some .local:=by first | exact .inl rfl | exact .inr rfl):
  QS X (.Assign [.Name x pos'] e pos) (fAsg i f):=⟨PS.weak (b4t hN hi hx ha.to hs hf) fun E σ H h0=>tSe h0 fun P O L ρ r rp e q=>by
 unfold fAsg at e;obtain ⟨⟨w,ρ1⟩,e1,e⟩:=obs e;dsimp only at e;obtain ⟨ρ2,e2,e⟩:=oms e;cases e
 exact ⟨P,O,L,ρ,w,ρ1,rp,e1,fun v H1 H' r1 s1 d1=>q _ H' (a6M r1 s1 d1 e2)⟩⟩
abbrev FG:=D->Ev->Option Ev
def GOk (X:Cx) (g:TG) (gf:FG):Prop:=∀(P:List (D×V)) (O:Av) (L:List (Option Nat×Addr)) (d:D) (v:V) (ρ ρ':Ev) (σ:L2.St) (H:Hp) (Q:L2.St->Hp->Prop),Rep X P O L ρ σ H->Den X.K (AvO O ρ σ) H d v->gf d ρ=some ρ'->(∀σ' H',Rep X P O L ρ' σ' H'->Q σ' H')->g v σ H Q
structure QG (X:Cx) (tg:Expr) (gf:FG):Prop where
 to:∃g,PG X tg g/\GOk X g gf
abbrev FGs:=List D->Ev->Option Ev
structure QGs (X:Cx) (tgs:List Expr) (n:Nat) (gf:FGs):Prop where
 to:∃g,PGs X tgs g/\∀(P:List (D×V)) (O:Av) (L:List (Option Nat×Addr)) (ds:List D) (vs:List V) (ρ ρ':Ev) (σ:L2.St) (H:Hp) (Q:L2.St->Hp->Prop),Rep X P O L ρ σ H->DenL X.K (AvO O ρ σ) H ds vs->gf ds ρ=some ρ'->(∀σ' H',Rep X P O L ρ' σ' H'->Q σ' H')->g vs σ H Q
 len:∀ds ρ ρ',gf ds ρ=some ρ'->ds.length=n
def gfName (i:Nat):FG:=fun d ρ=>if freeSlot ρ i=true then some (ρ.set i (some (.v d))) else none
theorem c6 (i:Nat){x:Str}(hN:X.N.Nodup)(hi:X.N[i]? =some x:=by rfl)(hx:Loc X.env.scope x:=by first | exact Or.inl rfl | exact Or.inr rfl)(hf:X.fn x=true\/X.env.scope.names.lookup x=some .local:=by first | exact .inl rfl | exact .inr rfl):QG X (.Name x pos) (gfName i):=
 ⟨gName i,a6Q hN hi hx hf,fun P O L d v ρ ρ' σ H Q r h e q=>by
  unfold gfName at e;split at e
  ·rename_i hf;cases e;exact q _ H (r.put hf h)
  ·cases e⟩
def gfNil:FGs:=fun ds ρ=>match ds with
 | []=>some ρ
 | _=>none
def gfCons (gf:FG) (gs:FGs):FGs:=fun ds ρ=>match ds with
 | d :: ds=>(gf d ρ).bind (gs ds)
 | _=>none
def gfTup (gs:FGs):FG:=fun d ρ=>match d with
 | .tup ds=>gs ds ρ
 | _=>none
theorem A5:QGs X [] 0 gfNil:=⟨⟨gNil,b1k,fun P O L ds vs ρ ρ' σ H Q r l e q=>by
 cases ds with
 | nil=>cases e;rw [DenL] at l;exact ⟨l,q σ H r⟩
 | cons d ds=>cases e⟩,fun ds ρ ρ' e=>by cases ds with | nil=>rfl | cons d ds=>cases e⟩
theorem holdL {P:List (D×V)}{O:Av}{L:List (Option Nat×Addr)}{σ:L2.St}:∀{ds:List D} {vs:List V} {ρ:Ev} {H:Hp},Rep X P O L ρ σ H->DenL X.K (AvO O ρ σ) H ds vs->∃P',Rep X P' O L ρ σ H/\∀ρ2 σ2 H2,Rep X P' O L ρ2 σ2 H2->Rep X P O L ρ2 σ2 H2/\DenL X.K (AvO O ρ2 σ2) H2 ds vs
 | [],vs,ρ,H,r,l=>⟨P,r,fun ρ2 σ2 H2 r2=>⟨r2,by rw [DenL] at l ⊢;exact l⟩⟩
 | d :: ds,vs,ρ,H,r,l=>by
  rw [DenL] at l;obtain ⟨v,rs,rfl,h,l⟩:=l;obtain ⟨P',r1,k1⟩:=holdL r l
  exact ⟨(d,v) :: P',r1.more h,fun ρ2 σ2 H2 r2=>by
   obtain ⟨r3,l3⟩:=k1 ρ2 σ2 H2 r2.less
   exact ⟨r3,g9 r2.head l3⟩⟩
theorem g7 {n:Nat}{tgs:List Expr}{tg:Expr}{gf:FG}{gs:FGs}(h:QG X tg gf)(t:QGs X tgs n gs)(hs:(assignEach (tg :: tgs) X.env).map (·.2)=assign tg X.env :: (assignEach tgs X.env).map (·.2):=by rfl):QGs X (tg :: tgs) (n + 1) (gfCons gf gs):=by
 obtain ⟨g,p,k⟩:=h.to;obtain ⟨gg,pp,kk⟩:=t.to;refine ⟨⟨gCons g gg,b06 p pp hs,fun P O L ds vs ρ ρ' σ H Q r l e q=>?_⟩,fun ds ρ ρ' e=>?_⟩
 ·cases ds with
  | nil=>cases e
  | cons d ds=>
   rw [DenL] at l;obtain ⟨v,rs,rfl,hd,l⟩:=l;simp only [gfCons] at e;obtain ⟨ρ1,e1,e⟩:=obs e;obtain ⟨P',r1,k1⟩:=holdL r l;refine ⟨v,rs,rfl,k P' O L d v ρ ρ1 σ H _ r1 hd e1 fun σ' H' r2=>?_⟩;obtain ⟨r3,l3⟩:=k1 _ _ _ r2;exact kk P O L ds rs ρ1 ρ' σ' H' Q r3 l3 e q
 ·cases ds with
  | nil=>cases e
  | cons d ds=>
   simp only [gfCons] at e;cases e1:gf d ρ with
   | none=>rw [e1] at e;cases e
   | some ρ1=>rw [e1] at e;rw [qI,t.len ds ρ1 ρ' e]
theorem E1 {tgs:List Expr}{n k:Nat}{gs:FGs}(hc:X.calm=true)(h:QGs X tgs n gs)(hn:(assignEach tgs X.env).length=n:=by rfl)(hst:(assignEach tgs X.env).findIdx? (·.1)=none:=by rfl):QG X (.Tuple tgs k pos) (gfTup gs):=by
 obtain ⟨gg,pp,kk⟩:=h.to;refine ⟨gTup X.K n gg,b30 hc pp hn hst,fun P O L d v ρ ρ' σ H Q r hd e q=>?_⟩;cases d with
 | tup ds=>
  rw [Den] at hd;obtain ⟨a,vs,ev,hq,l⟩:=hd;exact ⟨a,vs,ev,hq,by rw [<-b6 l];exact h.len ds ρ ρ' e,kk P O L ds vs ρ ρ' σ H Q r l e q⟩
 | _=>cases e
def gfSub (f g:FX):FG:=fun d ρ=>(f ρ).bind fun p=>match p.1 with
 | .r j=>(g p.2).bind fun q=>(dr q.2 q.1.fz).bind fun k=>match k,ownAt q.2 j with
  | .int k,some (.lst xs)=>(ixN xs.length k).map fun n=>setOwn q.2 j (.lst (xs.set n d))
  | _,_=>none
 | _=>none
theorem G8 (ha:QX X a f)(hb:QX X b g)(hs:∀v,assign (.Subscript a b pos) X.env v=(do
   let ov <-holding [v] (eval a X.env)
   let iv <-holding [v,ov] (eval b X.env)
   standAt pos
   holding [v,ov,iv] (setItem ov iv v)
   release [v,ov,iv] []):=by intro _;rfl):QG X (.Subscript a b pos) (gfSub f g):=by
 refine ⟨_,b3K ha.to hb.to b0E hs,fun P O L d v ρ ρ' σ H Q r hd e q=>?_⟩;unfold gfSub at e;obtain ⟨⟨w1,ρ1⟩,e1,e⟩:=obs e;dsimp only at e;split at e
 ·rename_i w1 j;obtain ⟨⟨w2,ρ2⟩,e2,e⟩:=obs e;dsimp only at e;cases e3:dr ρ2 w2.fz with
  | none=>rw [e3] at e;cases e
  | some k=>
   rw [e3] at e;simp only [bind_some] at e;split at e
   ·rename_i _ _ i xs e4;obtain ⟨n,e5,e⟩:=oms e;cases e;have r0:Rep X ((d,v) :: P) O L ρ σ H:=r.more hd;refine ⟨(d,v) :: P,O,L,ρ,_,ρ1,r0,e1,fun o H1 H1' r1 s1 d1=>?_⟩;have d1:σ[j]? =some (some o):=d1;refine ⟨(d,v) :: P,O,L,ρ1,w2,ρ2,r1.grow s1,e2,fun u H2 H2' r2 s2 d2=>?_⟩;have r3:=r2.grow s2;have ki:=j4 (G6 r3 e3 (d2.fz r2 s2));obtain ⟨w0,q0,ow⟩:=q8 e4;obtain ⟨pa,h1,vs,h2,l⟩:=r3.obj q0 ow;rw [d1] at h1;cases h1;have av:∀b,AvO O (setOwn ρ2 j (.lst (xs.set n d))) σ b->AvO O ρ2 σ b:=fun b z=>z.imp id fun z=>(T7 e4 b).mp z;refine ⟨pa,vs,i,n,rfl,ki,h2,by rw [<-b6 l];exact e5,q σ _ ((r3.less).mut e4 d1 (fun b o eb nb=>by rw [c7 nb];exact eb) ⟨_,m7,?_⟩)⟩
    have g0:Go (AvO O ρ2 σ) (AvO O ρ2 σ) (fun b=>b=pa) H2' (upd H2' pa (.lst (vs.set n v))):=⟨fun b o eb nb=>by rw [c7 nb];exact eb,fun b z=>by rw [z];exact ⟨.inr ⟨j,w0,_,q0,ow,d1⟩,_,h2,trivial⟩,fun b z=>.inl z⟩
    exact t5 g0 _ _ (a4s r3.head n l)
   ·cases e
 ·cases e
def fAsgG (f:FX) (gf:FG):FS:=fun ρ=>(f ρ).bind fun p=>(takeAll p.2 [p.1.fz]).bind fun q=>match q.1 with
 | [d]=>(gf d q.2).map .nx
 | _=>none
theorem A8 {tg:Expr}{gf:FG}(ha:QX X e f)(hg:QG X tg gf)(hs:swapsWithSole [tg] e pos.line X.env=pure false:=by rfl)(hw:swappedStores [tg] e X.env=pure none:=by rfl)(h1:(assignEach [tg] X.env).map (·.2)=[assign tg X.env]:=by rfl):QS X (.Assign [tg] e pos) (fAsgG f gf):=by
 obtain ⟨g,p,k⟩:=hg.to;refine ⟨PS.weak (b34 ha.to p hs hw h1) fun E σ H h0=>tSe h0 fun P O L ρ r rp e q=>?_⟩;unfold fAsgG at e;obtain ⟨⟨w,ρ1⟩,e1,e⟩:=obs e;dsimp only at e;obtain ⟨⟨ds,ρ2⟩,e2,e⟩:=obs e;dsimp only at e;split at e
 ·rename_i d;obtain ⟨ρ3,e3,e⟩:=oms e;cases e;refine ⟨P,O,L,ρ,w,ρ1,rp,e1,fun v H1 H' r1 s1 d1=>?_⟩;obtain ⟨r2,l2,_⟩:=k8 (vs:=[v]) (r1.grow s1) e2 ⟨v,[],rfl,d1.fz r1 s1,rfl⟩;obtain ⟨v',ev,h'⟩:=denL1 l2;cases ev;exact k P O L d v ρ2 ρ3 σ H' _ r2 h' e3 fun σ' H' r'=>q σ' H' r'
 ·cases e
def fDrop (f:FX):FS:=fun ρ=>(f ρ).map fun p=>.nx p.2
theorem T8 (ha:QX X e f)(hs:swapsWith e none pos.line X.env=pure false:=by rfl):QS X (.Expr e pos) (fDrop f):=⟨PS.weak (b1w ha.to hs) fun E σ H h0=>tSe h0 fun P O L ρ r rp e q=>by
 unfold fDrop at e;obtain ⟨p,e1,e⟩:=oms e;cases e
 exact ⟨P,O,L,ρ,p.1,p.2,rp,e1,fun v H1 H' r1 s1 d1=>q σ H' (r1.grow s1)⟩⟩
def fPar (i j:Nat) (fa:FA):FS:=fun ρ=>(fa ρ).bind fun p=>(takeAll p.2 p.1).bind fun q=>match q.1 with
 | [d,d']=>if freeSlot q.2 i=true/\freeSlot (q.2.set i (some (.v d))) j=true then some (.nx ((q.2.set i (some (.v d))).set j (some (.v d')))) else none
 | _=>none
theorem a4b (i j:Nat){x y:Str}{px py pt:Pos}{kt k2 pt2}(hc:X.calm=true)(hN:X.N.Nodup)(ha:QA X [a,b] fa)(hw:swappedStores [.Tuple [.Name x px,.Name y py] kt pt] (.Tuple [a,b] k2 pt2) X.env=pure (some [x,y]))(hi:X.N[i]? =some x:=by rfl)(hj:X.N[j]? =some y:=by rfl)(hij:i≠j:=by decide)
  (hx:X.env.scope.names.lookup x=some .local:=by rfl) (hy:X.env.scope.names.lookup y=some .local:=by rfl)
  (hs:swapsWithSole [.Tuple [.Name x px,.Name y py] kt pt] (.Tuple [a,b] k2 pt2) pos.line X.env=pure false:=by rfl):
  QS X (.Assign [.Tuple [.Name x px,.Name y py] kt pt] (.Tuple [a,b] k2 pt2) pos) (fPar i j fa):=⟨PS.weak (b4e hc hN hi hj hij hx hy ha.to hw hs) fun E σ H h0=>tSe h0 fun P O L ρ r rp e q=>by
 unfold fPar at e;obtain ⟨⟨ws,ρ1⟩,e1,e⟩:=obs e;dsimp only at e;obtain ⟨⟨ds,ρ2⟩,e2,e⟩:=obs e;dsimp only at e;split at e
 ·rename_i d d';split at e
  ·rename_i hf;cases e;refine ⟨P,O,L,ρ,ws,ρ1,rp,e1,fun vs H1 r1 l1=>?_⟩;obtain ⟨r2,l2,_⟩:=k8 r1 e2 l1;obtain ⟨v,v',rfl,h,h'⟩:=denL2 l2;have r3:=(r2.more (p:=(d',v')) h').put (i:=i) hf.1 h;exact ⟨v,v',rfl,q _ H1 (r3.less.put (i:=j) hf.2 r3.head)⟩
  ·cases e
 ·cases e⟩
end
def whileF (c:FT) (b:FS):Nat->Ev->Option R
 | 0,_=>none
 | n + 1,ρ=>(c ρ).bind fun k=>if k.1=true then (b k.2).bind (fun r=>match r with
   | .nx ρ'=>whileF c b n ρ'
   | .ct ρ'=>whileF c b n ρ'
   | .bk ρ'=>some (.nx ρ')
   | .rt d ρ'=>some (.rt d ρ')) else some (.nx k.2)
theorem S6 {c:FT}{b:FS}:∀{n:Nat} {ρ:Ev} {r:R},whileF c b n ρ=some r->whileF c b (n + 1) ρ=some r
 | 0,ρ,r,h=>by cases h
 | n + 1,ρ,r,h=>by
  rw [whileF] at h ⊢;cases e:c ρ with
  | none=>rw [e] at h;cases h
  | some k=>
   rw [e] at h;obtain ⟨k,ρ1⟩:=k;cases k with
   | false=>exact h
   | true=>
    simp only [bind_some,qQ] at h ⊢;cases e2:b ρ1 with
    | none=>rw [e2] at h;cases h
    | some r2=>
     rw [e2] at h;cases r2 with
     | nx ρ'=>exact S6 (n:=n) h
     | ct ρ'=>exact S6 (n:=n) h
     | bk ρ'=>exact h
     | rt d ρ'=>exact h
theorem a2O {c:FT}{b:FS}{n m:Nat}{ρ:Ev}{r:R}(h:whileF c b n ρ=some r)(hm:n<=m):whileF c b m ρ=some r:=by
 induction hm with
 | refl=>exact h
 | step _ ih=>exact S6 ih
open Classical in
def whileV (c:FT) (b:FS):FS:=fun ρ=>if h:∃r,∃n,whileF c b n ρ=some r then some h.choose else none
theorem a2x {c:FT}{b:FS}{n:Nat}{ρ:Ev}{r:R}(h:whileF c b n ρ=some r):whileV c b ρ=some r:=by
 have z:∃r,∃n,whileF c b n ρ=some r:=⟨r,n,h⟩;unfold whileV;rw [dif_pos z];obtain ⟨m,hm⟩:=z.choose_spec;have h1:=a2O h (Nat.le_max_left n m);have h2:=a2O hm (Nat.le_max_right n m);rw [h1] at h2;exact h2.symm
theorem a7Y {c:FT}{b:FS}{ρ:Ev}{r:R}(h:whileV c b ρ=some r):∃n,whileF c b n ρ=some r:=by
 unfold whileV at h;split at h
 ·rename_i z;cases h;exact z.choose_spec
 ·cases h
section
variable {X:Cx}{a b c e:Expr}{body:List Stmt}{pos:Pos}{f g:FX}{t:FT}{fa:FA}{F:FS}
theorem Z3 (hp:PassesOwn (model X.prog X.w) X.A X.env X.xe)(hc:QT X c t)(hb:QSs X body F):QS X (.While c body [] pos) (whileV t F):=⟨PS.weak (a9c hp hc.to hb.to) fun E σ H h0=>tSe h0 fun P O L ρ r rp e q=>by
 obtain ⟨n,e⟩:=a7Y e;refine ⟨fun m σ H=>∃ρ,Rep X P O L ρ σ H/\whileF t F m ρ=some r,⟨n,ρ,rp,e⟩,fun m σ H ⟨ρ,rp,e⟩=>?_⟩;cases m with
 | zero=>cases e
 | succ m=>
  rw [whileF] at e;obtain ⟨⟨k,ρ1⟩,e1,e⟩:=obs e;refine ⟨P,O,L,ρ,k,ρ1,rp,e1,fun H1 r1=>?_⟩;cases k with
  | false=>
   rw [if_neg zQ];cases e;exact q σ H1 r1
  | true=>
   rw [if_pos rfl];simp only [bind_some,qQ] at e;obtain ⟨r2,e2,e⟩:=obs e;refine ⟨fun σ' H'=>∃ρ,Rep X P O L ρ σ' H'/\whileF t F m ρ=some r,fun σ' H' h=>⟨m,xU m,h⟩,P,O,L,ρ1,r2,r1,e2,?_⟩;cases r2 with
   | nx ρ'=>exact fun σ' H' rp'=>⟨ρ',rp',e⟩
   | ct ρ'=>exact fun σ' H' rp'=>⟨ρ',rp',e⟩
   | bk ρ'=>cases e;exact fun σ' H' rp'=>q σ' H' rp'
   | rt d ρ'=>cases e;exact q⟩
abbrev FI:=Ev->Option (List D×Ev)
def Wks (K:PySem.W.Frag) (P:List (D×V)) (xs:List D) (J:It):Prop:=∀(Y:Cx) (O:Av) (L:List (Option Nat×Addr)) (ρ:Ev) (σ:L2.St) (H:Hp),Y.K=K->Rep Y P O L ρ σ H->
 (∀(i:Nat) (x:D),xs[i]? =some x->J.go i H/\∀v H',J.yld i H v H'->Same H H'/\Den K (AvO O ρ σ) H' x v)/\J.stop xs.length H
def Holds (P P':List (D×V)):Prop:=∀p∈P',p∈P
theorem Rep.holds {P P':List (D×V)}{O:Av}{L:List (Option Nat×Addr)}{ρ:Ev}{σ:L2.St}{H:Hp}(r:Rep X P O L ρ σ H)(h:Holds P P'):Rep X P' O L ρ σ H:=⟨r.same,r.amb,r.len,r.slot,r.inj,r.new,r.lnt,r.lnd,fun p hp=>r.prot p (h p hp),r.gvl⟩
def tI (X:Cx) (fi:FI):TI:=fun σ H R=>∃P O L ρ xs ρ',Rep X P O L ρ σ H/\fi ρ=some (xs,ρ')/\∀J H1 P',Rep X P' O L ρ' σ H1->Holds P' P->Wks X.K P' xs J->R J H1
theorem tIe {X:Cx}{fi:FI}{σ:L2.St}{H:Hp}{R:It->Hp->Prop}{C:Prop}(h:tI X fi σ H R)(k:∀P O L ρ xs ρ',Rep X P O L ρ σ H->fi ρ=some (xs,ρ')->(∀J H1 P',Rep X P' O L ρ' σ H1->Holds P' P->Wks X.K P' xs J->R J H1)->C):C:=by
 obtain ⟨P,O,L,ρ,w,ρ',r,e,q⟩:=h;exact k P O L ρ w ρ' r e q
structure QI (X:Cx) (tg iter:Expr) (fi:FI):Prop where
 to:PI X tg iter (tI X fi)
theorem PI.weak {tg e:Expr}{t u:TI}(h:PI X tg e t)(w:∀σ H Q,u σ H Q->t σ H Q):PI X tg e u:=fun pins s σ H Q I q=>h pins s σ H Q I (w σ H Q q)
def iSeq (K:PySem.W.Frag) (tl:TE):TI:=fun σ H R=>tl σ H fun x H1=>(∃a,x= .ref a/\(∃xs,SqL K H1 a xs)/\R (Itl K a) H1)\/∃a,x= .ref a/\(∃xs,SqT K H1 a xs)/\R (Itt K a) H1
theorem b0O {tg l:Expr}{tl:TE}(hl:PE X l tl):PI X tg l (iSeq X.K tl):=by
 intro pins s σ H R I h;refine thn (hl pins s σ H _ I h) fun v s1 ⟨x,H1,I1,r1,q1⟩=>?_;rcases q1 with ⟨a,e,⟨xs,hq⟩,q⟩ | ⟨a,e,⟨xs,hq⟩,q⟩
 ·subst e;cases r1;obtain ⟨its,rv,p,hz⟩:=I1.list hq;refine wpAny_pyIter_list p.isList ?_;refine ⟨s1.heap.objs.size,[s1.heap.objs.size],_,_,H1,rfl,I1.kept (t':=s1.toks) fun b o e=>zF _ e,a8e a _,⟨_,qB _ rfl,rfl,rfl⟩,fun b hb=>?_,q⟩;have e:b=s1.heap.objs.size:=by simpa using hb
  subst e;exact I1.fpOk (zE _) (I1.hok.fresh (zE _))
 ·subst e;cases r1;obtain ⟨its,rv,p,hz⟩:=I1.tuple hq;refine wpAny_pyIter_tuple (show s1.heap.IsTuple a its.toArray from p) ?_;refine ⟨s1.heap.objs.size,[s1.heap.objs.size],_,_,H1,rfl,I1.kept (t':=s1.toks) fun b o e=>zF _ e,a5t a _,⟨_,qB _ rfl,rfl,rfl⟩,fun b hb=>?_,q⟩;have e:b=s1.heap.objs.size:=by simpa using hb
  subst e;exact I1.fpOk (zE _) (I1.hok.fresh (zE _))
def fiSeq (f:FX):FI:=fun ρ=>(f ρ).bind fun p=>(takeAll p.2 [p.1.fz]).bind fun q=>match q.1 with
 | [d]=>(items d).map fun xs=>(xs,q.2)
 | _=>none
theorem K2 {tg l:Expr}(hl:QX X l f):QI X tg l (fiSeq f):=⟨PI.weak (b0O hl.to) fun σ H R h0=>tIe h0 fun P O L ρ xs ρ' r e q=>by
 unfold fiSeq at e;obtain ⟨⟨w,ρ1⟩,e1,e⟩:=obs e;dsimp only at e;obtain ⟨⟨ds,ρ2⟩,e2,e⟩:=obs e;dsimp only at e;split at e
 ·rename_i d;obtain ⟨ys,e3,e⟩:=oms e;cases e;refine ⟨P,O,L,ρ,w,ρ1,r,e1,fun v H1 H' r1 s1 d1=>?_⟩;obtain ⟨r2,l2,_⟩:=k8 (vs:=[v]) (r1.grow s1) e2 ⟨v,[],rfl,d1.fz r1 s1,rfl⟩;obtain ⟨v',ev,h'⟩:=denL1 l2;cases ev;have r3:=r2.more (p:=(d,v)) h';have hh:Holds ((d,v) :: P) P:=fun p hp=>zI _ hp;cases d with
  | tup zs=>
   cases e3;have z:=h';rw [Den] at z;obtain ⟨a,vs,rfl,hq,l⟩:=z;refine .inr ⟨a,rfl,⟨vs,hq⟩,q _ H' _ r3 hh fun Y O' L' ρ' σ' Hh hY rr=>?_⟩;have z:=rr.head;rw [hY] at z;rw [Den] at z;obtain ⟨a',vs,ea,hq,l⟩:=z;cases ea;refine ⟨fun i x ex=>?_,vs,hq,by rw [<-b6 l];exact zE _⟩
   obtain ⟨v0,hv,dv⟩:=z6 l ex;exact ⟨⟨vs,v0,hq,hv⟩,fun w H' ⟨y1,y2⟩=>by subst y1;have:=y2 vs hq;rw [hv] at this;cases this;exact ⟨Same.refl _,dv⟩⟩
  | lst zs=>
   cases e3;obtain ⟨a,vs,rfl,hq,l⟩:=E7 h';refine .inl ⟨a,rfl,⟨vs,hq⟩,q _ H' _ r3 hh fun Y O' L' ρ' σ' Hh hY rr=>?_⟩;have z:=rr.head;rw [hY] at z;obtain ⟨a',vs,ea,hq,l⟩:=E7 z;cases ea;refine ⟨fun i x ex=>?_,vs,hq,by rw [<-b6 l];exact zE _⟩
   obtain ⟨v0,hv,dv⟩:=z6 l ex;exact ⟨⟨vs,v0,hq,hv⟩,fun w H' ⟨y1,y2⟩=>by subst y1;have:=y2 vs hq;rw [hv] at this;cases this;exact ⟨Same.refl _,dv⟩⟩
  | _=>cases e3
 ·cases e⟩
def rngD (lo:Int) (n:Nat):List D:=(List.range n).map fun (i:Nat)=>D.int (lo + i)
theorem a21 {K:PySem.W.Frag}{P:List (D×V)}(lo:Int)(n:Nat):Wks K P (rngD lo n) (Itr lo n):=fun Y O L ρ σ H _ _=>by
 unfold rngD;refine ⟨fun i x ex=>?_,by show (List.length _)≥n;simp⟩
 rw [qA] at ex
 by_cases hi:i < n
 ·rw [xR hi] at ex;cases ex;exact ⟨hi,fun v H' ⟨y1,y2⟩=>by subst y1;exact ⟨Same.refl _,u7.mpr y2⟩⟩
 ·rw [jI (by simpa using hi)] at ex;cases ex
def fiR1 (fa:FA):FI:=fun ρ=>(fa ρ).bind fun p=>match p.1 with
 | [.v (.int n)]=>if -(2 ^ 62)<=n/\n < 2 ^ 62 then some (rngD 0 n.toNat,p.2) else none
 | _=>none
theorem a05 {tg:Expr}{p:Pos}(hm:X.mg "range"=none)(ha:QA X [a] fa)(hg:Gl X "range":=by rfl)(hs:starEach [a] X.env=[(false,eval a X.env)]:=by rfl):QI X tg (.Call (.Name "range" p) [a] [] pos) (fiR1 fa):=⟨PI.weak (a70 hg hm ha.to hs) fun σ H R h0=>tIe h0 fun P O L ρ xs ρ' r e q=>by
 unfold fiR1 at e;obtain ⟨⟨ws,ρ1⟩,e1,e⟩:=obs e;dsimp only at e;split at e
 ·rename_i n;split at e
  ·rename_i hn;cases e;refine ⟨P,O,L,ρ,_,_,r,e1,fun vs H1 r1 l1=>?_⟩;obtain ⟨v,rs,rfl,h1,l1⟩:=l1;have l1:rs=[]:=l1;have h1:Den X.K (AvO O ρ' σ) H1 (.int n) v:=h1;subst l1;exact ⟨n,by rw [u7.mp h1],hn.1,hn.2,q _ H1 P r1 (fun p hp=>hp) (a21 0 _)⟩
  ·cases e
 ·cases e⟩
def fiR2 (fa:FA):FI:=fun ρ=>(fa ρ).bind fun p=>match p.1 with
 | [.v (.int m),.v (.int n)]=>if (-(2 ^ 62)<=m/\m < 2 ^ 62)/\-(2 ^ 62)<=n/\n < 2 ^ 62 then some (rngD m (n - m).toNat,p.2) else none
 | _=>none
theorem b3s {tg:Expr}{p:Pos}(hm:X.mg "range"=none)(ha:QA X [a,b] fa)(hg:Gl X "range":=by rfl)(hs:starEach [a,b] X.env=[(false,eval a X.env),(false,eval b X.env)]:=by rfl)(hs2:starEach [b] X.env=[(false,eval b X.env)]:=by rfl):QI X tg (.Call (.Name "range" p) [a,b] [] pos) (fiR2 fa):=⟨PI.weak (a7T hg hm ha.to hs hs2) fun σ H R h0=>tIe h0 fun P O L ρ xs ρ' r e q=>by
 unfold fiR2 at e;obtain ⟨⟨ws,ρ1⟩,e1,e⟩:=obs e;dsimp only at e;split at e
 ·rename_i m n;split at e
  ·rename_i hn;cases e;refine ⟨P,O,L,ρ,_,_,r,e1,fun vs H1 r1 l1=>?_⟩;obtain ⟨v,rs,rfl,h1,u,rs',rfl,h2,l1⟩:=l1;have l1:rs'=[]:=l1;have h1:Den X.K (AvO O ρ' σ) H1 (.int m) v:=h1;have h2:Den X.K (AvO O ρ' σ) H1 (.int n) u:=h2;subst l1;exact ⟨m,n,by rw [u7.mp h1,u7.mp h2],⟨hn.1.1,hn.1.2,hn.2.1,hn.2.2⟩,q _ H1 P r1 (fun p hp=>hp) (a21 m _)⟩
  ·cases e
 ·cases e⟩
def loopF (b:D->FS):List D->Ev->Option R
 | [],ρ=>some (.nx ρ)
 | x :: xs,ρ=>(b x ρ).bind fun r=>match r with
  | .nx ρ'=>loopF b xs ρ'
  | .ct ρ'=>loopF b xs ρ'
  | .bk ρ'=>some (.nx ρ')
  | .rt d ρ'=>some (.rt d ρ')
def turnF (gf:FG) (b:FS):D->FS:=fun x ρ=>(gf x ρ).bind b
def fFor (fi:FI) (gf:FG) (b:FS):FS:=fun ρ=>(fi ρ).bind fun p=>loopF (turnF gf b) p.1 p.2
theorem D1 {tg iter:Expr}{fi:FI}{gf:FG}(hp:PassesOwn (model X.prog X.w) X.A X.env X.xe)(hc:X.calm=true)(hi:QI X tg iter fi)(hg:QG X tg gf)(hb:QSs X body F)(hs:∀x,foldedSetIterable iter X.env x=pure x:=by intro _;rfl):
  QS X (.For tg iter body [] pos) (fFor fi gf F):=by
 obtain ⟨g,pg,kg⟩:=hg.to;refine ⟨PS.weak (b3M hp hc hi.to pg hb.to hs) fun E σ H h0=>tSe h0 fun P O L ρ r rp e q=>?_⟩;unfold fFor at e;obtain ⟨⟨xs,ρ1⟩,e1,e⟩:=obs e;dsimp only at e;refine ⟨P,O,L,ρ,xs,ρ1,rp,e1,fun J H1 P' r1 hh wk=>?_⟩;refine ⟨fun i m σ H=>m=xs.length - i/\i<=xs.length/\∃ρ,Rep X P' O L ρ σ H/\loopF (turnF gf F) (xs.drop i) ρ=some r,⟨xs.length,by simp,jK _,ρ1,r1,by simpa using e⟩,?_⟩
 rintro i m σ H ⟨rfl,hi,ρ,rp,e⟩;obtain ⟨wi,ws⟩:=wk X O L ρ σ H rfl rp
 by_cases hlt:i < xs.length
 ·obtain ⟨go,yl⟩:=wi i xs[i] (by simp [hlt])
  refine .inr ⟨go,fun σ' H'=>∃ρ,Rep X P' O L ρ σ' H'/\loopF (turnF gf F) (xs.drop (i + 1)) ρ=some r,fun σ' H' h=>⟨xs.length - (i + 1),by omega,rfl,hlt,h⟩,fun v H' y=>?_⟩
  obtain ⟨sm,dv⟩:=yl v H' y;rw [jY hlt,loopF] at e;cases e1:turnF gf F xs[i] ρ with
  | none=>rw [e1] at e;cases e
  | some r1=>
   rw [e1] at e;simp only [bind_some] at e;unfold turnF at e1;obtain ⟨ρ1,e2,e1⟩:=obs e1;refine kg P' O L xs[i] v ρ ρ1 σ _ _ (rp.grow sm) dv e2 fun σ' H2 rp'=>⟨P',O,L,ρ1,r1,rp',e1,?_⟩;cases r1 with
   | nx ρ2=>exact fun σ2 H2 rp2=>⟨ρ2,rp2,e⟩
   | ct ρ2=>exact fun σ2 H2 rp2=>⟨ρ2,rp2,e⟩
   | bk ρ2=>cases e;exact fun σ2 H2 rp2=>q σ2 H2 (rp2.holds hh)
   | rt d ρ2=>cases e;exact q
 ·have ei:i=xs.length:=by omega
  subst ei;rw [List.drop_length,loopF] at e;cases e;exact .inl ⟨ws,q σ H (rp.holds hh)⟩
end
def spF (K:PySem.W.Frag) (g:List D->Option W):Sp:=fun vs H Q _=>∃(A:Av) (ds:List D) (w:W),(∀b,A b->∃o,H b=some o)/\DenL K A H ds vs/\g ds=some w/\∀v H',Same H H'->DenW K A [] H H' w v->Q v H'
def spL (K:PySem.W.Frag) (g:D->List D->Option (W×D)):Sp:=fun vs H Q _=>∃(A:Av) (a:Addr) (c:D) (ds:List D) (us:List V) (w:W) (c':D),vs= .ref a :: us/\(∀b,A b->∃o,H b=some o)/\¬A a/\Obj K (fun b=>A b\/b=a) H a c/\DenL K (fun b=>A b\/b=a) H ds us/\g c ds=some (w,c')/\
 ∀v H',(∀b o,H b=some o->b≠a->H' b=some o)->Obj K (fun b=>A b\/b=a) H' a c'->DenW K (fun b=>A b\/b=a) [] H H' w v->Q v H'
structure FnS (P:Program) (w:World) (K:PySem.W.Frag) (mg:Str->Option Value) (base:Heap) (x:Str) (k:Nat) (sp:Sp):Prop where
 ex:∃(f:Addr) (fd:FuncData) (ps:List Str),FnOk P w K mg base CX0 k f fd ps sp/\Binds K fd ps []/\PySem.W.keepIn K (.ref f)=true/\mg x=some (.ref f)
abbrev Fn (P:Program) (w:World) (K:PySem.W.Frag) (mg:Str->Option Value) (base:Heap) (x:Str) (k:Nat) (g:List D->Option W):Prop:=FnS P w K mg base x k (spF K g)
abbrev FnL (P:Program) (w:World) (K:PySem.W.Frag) (mg:Str->Option Value) (base:Heap) (x:Str) (k:Nat) (g:D->List D->Option (W×D)):Prop:=FnS P w K mg base x k (spL K g)
section
variable {P:Program}{w:World}{K:PySem.W.Frag}{mg:Str->Option Value}{base:Heap}{x:Str}{j k:Nat}
theorem FnS.mono {sp:Sp}(F:FnS P w K mg base x j sp)(h:j<=k):FnS P w K mg base x k sp:=by
 obtain ⟨f,fd,ps,a,b,c,d⟩:=F.ex;exact ⟨f,fd,ps,a.mono h,b,c,d⟩
end
def lfC:D->Bool
 | .lst xs=>lfL xs
 | .dT _ xs=>lfL xs
 | .dK _ xs=>lfL xs
 | _=>false
def lfW:W->Bool
 | .v d=>lf d
 | .o d=>lfC d
 | _=>false
def frzL:List W->Ev->Option Ev
 | [],ρ=>some ρ
 | .r i :: ws,ρ=>(frzAt ρ i).bind (frzL ws)
 | _ :: ws,ρ=>frzL ws ρ
def fDef (g:List D->Option W) (fa:FA):FX:=fun ρ=>(fa ρ).bind fun p=>(drs p.2 p.1).bind fun ds=>(g ds).bind fun w=>if lfW w=true then some (w,p.2) else (frzL p.1 p.2).map fun ρ2=>(w,ρ2)
def noR (i:Nat):List W->Bool
 | []=>true
 | .r j :: ws=>i != j && noR i ws
 | _ :: ws=>noR i ws
def fDefL (g:D->List D->Option (W×D)) (fa:FA):FX:=fun ρ=>(fa ρ).bind fun p=>match p.1 with
 | .r i :: ws=>(ownAt p.2 i).bind fun c=>(drs p.2 ws).bind fun ds=>(g c ds).bind fun z=>if noR i ws=true/\lfC z.2=true then (if lfW z.1=true then some (z.1,setOwn p.2 i z.2) else (frzL ws (setOwn p.2 i z.2)).map fun ρ2=>(z.1,ρ2)) else none
 | _=>none
section
variable {K:PySem.W.Frag}{A A':Av}{H H':Hp}
theorem G0 (g:∀b o,H b=some o->¬Mu o->H' b=some o){a:Addr}{d:D}(f:lfC d=true)(hk:H' a=H a)(h:Obj K A H a d):Obj K A' H' a d:=by
 cases d with
 | lst xs=>obtain ⟨vs,e,l⟩:=h;exact ⟨vs,hk.trans e,a0k g _ _ f l⟩
 | dT ks xs=>obtain ⟨vs,e,hl,l⟩:=h;exact ⟨vs,hk.trans e,hl,a0k g _ _ f l⟩
 | dK ks xs=>obtain ⟨vs,e,hl,l⟩:=h;exact ⟨vs,hk.trans e,hl,a0k g _ _ f l⟩
 | _=>exact h.elim
end
section
variable {X:Cx}{P:List (D×V)}{O:Av}{L:List (Option Nat×Addr)}{ρ ρ':Ev}{σ:L2.St}{H:Hp}
theorem N7:∀{ws:List W} {ρ ρ':Ev},Rep X P O L ρ σ H->frzL ws ρ=some ρ'->Rep X P O L ρ' σ H/\∀(j:Nat) (w:W) (d:D),ρ'[j]? =some (some w)->w.own=some d->ρ[j]? =some (some w)/\W.r j∉ws
 | [],ρ,ρ',r,e=>by cases e;exact ⟨r,fun j w d e1 _=>⟨e1,by simp⟩⟩
 | .r i :: ws,ρ,ρ',r,e=>by
  rw [frzL] at e;obtain ⟨ρ1,e1,e⟩:=obs e;obtain ⟨r1,k1⟩:=r.frz e1;obtain ⟨r2,k2⟩:=N7 r1 e;refine ⟨r2,fun j w d e1 e2=>?_⟩;obtain ⟨a1,a2⟩:=k2 j w d e1 e2;obtain ⟨b1,b2⟩:=k1 j w d a1 e2;exact ⟨b1,fun z=>(zS.mp z).elim (fun z=>by cases z;exact b2 rfl) a2⟩
 | .v _ :: ws,ρ,ρ',r,e=>by
  obtain ⟨r2,k2⟩:=N7 (ws:=ws) r e;exact ⟨r2,fun j w d e1 e2=>⟨(k2 j w d e1 e2).1,fun z=>(zS.mp z).elim (fun z=>by cases z) (k2 j w d e1 e2).2⟩⟩
 | .o _ :: ws,ρ,ρ',r,e=>by
  obtain ⟨r2,k2⟩:=N7 (ws:=ws) r e;exact ⟨r2,fun j w d e1 e2=>⟨(k2 j w d e1 e2).1,fun z=>(zS.mp z).elim (fun z=>by cases z) (k2 j w d e1 e2).2⟩⟩
 | .l _ :: ws,ρ,ρ',r,e=>by
  obtain ⟨r2,k2⟩:=N7 (ws:=ws) r e;exact ⟨r2,fun j w d e1 e2=>⟨(k2 j w d e1 e2).1,fun z=>(zS.mp z).elim (fun z=>by cases z) (k2 j w d e1 e2).2⟩⟩
def Handed (ρ:Ev) (σ:L2.St) (ws:List W) (b:Addr):Prop:=∃(i:Nat) (w:W) (d:D),W.r i∈ws/\ρ[i]? =some (some w)/\w.own=some d/\σ[i]? =some (some (V.ref b))
theorem a0W {B:Av}(r:Rep X P O L ρ σ H)(hB:∀b,B b->AvO O ρ σ b):∀{ws:List W} {ds:List D} {vs:List V},(∀b,B b->¬Handed ρ σ ws b)->drs ρ ws=some ds->DenA X.K (AvO O ρ σ) σ H ws vs->DenL X.K B H ds vs
 | [],ds,vs,n,e,h=>by cases e;have h:vs=[]:=h;subst h;exact i0
 | w :: ws,ds,vs,n,e,h=>by
  obtain ⟨v,rs,rfl,h1,h2⟩:=h;rw [drs] at e;cases e1:dr ρ w with
  | none=>rw [e1] at e;cases e
  | some d=>
   cases e2:drs ρ ws with
   | none=>rw [e1,e2] at e;cases e
   | some dd=>
    rw [e1,e2] at e;cases e;refine g9 ?_ (a0W r hB (fun b z y=>n b z (let ⟨i,w,d,m,q⟩:=y;⟨i,w,d,zI _ m,q⟩)) e2 h2);cases w with
    | v c=>cases e1;exact p0 (u5 hB) _ _ h1
    | r i=>
     have h1:σ[i]? =some (some v):=h1;rw [dr] at e1;cases q:ρ[i]? with
     | none=>rw [q] at e1;cases e1
     | some o=>
      rw [q] at e1;cases o with
      | none=>cases e1
      | some w'=>
       cases w' with
       | v c=>
        cases e1;obtain ⟨u,q1,q2⟩:=r.slot i _ q;rw [h1] at q1;cases q1;exact p0 (u5 hB) _ _ q2
       | _=>
        obtain ⟨a,q1,q2⟩:=r.obj q e1;rw [h1] at q1;cases q1;exact Y6 (q5 (u5 hB) rfl q2) fun z=>n a z ⟨i,_,d,zH,q,e1,h1⟩
    | _=>cases e1
theorem X3 {ws:List W}(r:Rep X P O L ρ σ H)(k:∀(j:Nat) (w:W) (d:D),ρ'[j]? =some (some w)->w.own=some d->ρ[j]? =some (some w)/\W.r j∉ws){b:Addr}(z:AvO O ρ' σ b):AvO O ρ σ b/\¬Handed ρ σ ws b:=by
 refine ⟨z.imp id fun ⟨j,w,d,e1,e2,e3⟩=>⟨j,w,d,(k j w d e1 e2).1,e2,e3⟩,fun ⟨i,w,d,m,q1,q2,q3⟩=>?_⟩;rcases z with z | ⟨j,w',d',e1,e2,e3⟩
 ·exact r.ambN z ⟨i,w,d,q1,q2,q3⟩
 ·obtain ⟨a1,a2⟩:=k j w' d' e1 e2
  have:=r.inj i j w w' d d' b q1 q2 q3 a1 e2 e3
  subst this;exact a2 m
end
section
variable {X:Cx}{e:Expr}{es:List Expr}{pos p:Pos}{fa:FA}{x:Str}{k:Nat}
theorem g5 {g:List D->Option W}(F:Fn X.prog X.w X.K X.mg X.base x k g)(hr:Room k X.A)(ha:QA X (e :: es) fa)(hg:Gl X x:=by rfl)(hdb:(x == ("__debug__":Str))=false:=by decide)
  (he:starEach (e :: es) X.env=(false,eval e X.env) :: starEach es X.env:=by rfl) (hpl:(backTo pos (starEach es X.env)).any (·.1)=false:=by rfl):QX X (.Call (.Name x p) (e :: es) [] pos) (fDef g fa):=by
 obtain ⟨f,fd,ps,F,b,kp,hm⟩:=F.ex;refine ⟨PE.weak (a4k F hr hg hm kp b .nil pass0 ha.to hdb he hpl) fun σ H Q h0=>tXe h0 fun P O L ρ w ρ' r e q=>?_⟩;unfold fDef at e;obtain ⟨⟨ws,ρ1⟩,e1,e⟩:=obs e;dsimp only at e;cases e2:drs ρ1 ws with
 | none=>rw [e2] at e;cases e
 | some ds=>
  rw [e2] at e;simp only [bind_some] at e;cases e3:g ds with
  | none=>rw [e3] at e;cases e
  | some w1=>
   rw [e3] at e;simp only [bind_some] at e;refine ⟨P,O,L,ρ,ws,ρ1,r,e1,fun vs H1 r1 l1=>?_⟩;refine ⟨fun b=>AvO O ρ1 σ b/\¬Handed ρ1 σ ws b,ds,w1,fun b z=>r1.there z.1,by rw [yE];exact a0W r1 (fun b z=>z.1) (fun b z=>z.2) e2 l1,e3,fun v H2 s2 d2=>?_⟩
   split at e
   ·rename_i hl;cases e;refine q v H1 H2 r1 s2 ?_;cases w with
    | v d=>exact a2c (fun _ _ e _=>e) _ _ hl d2
    | o d=>obtain ⟨a,ev,hn,ob⟩:=d2;exact ⟨a,ev,hn,G0 (fun _ _ e _=>e) hl rfl ob⟩
    | _=>cases hl
   ·obtain ⟨ρ2,e4,e⟩:=oms e;cases e;obtain ⟨r2,k2⟩:=N7 r1 e4;refine q v H1 H2 r2 s2 ?_;have sub:=fun b (z:AvO O ρ' σ b)=>X3 r1 k2 z;cases w with
    | v d=>exact p0 (u5 sub) _ _ d2
    | o d=>obtain ⟨a,ev,hn,ob⟩:=d2;exact ⟨a,ev,hn,q5 (u5 fun b z=>z.imp (sub b) id) rfl ob⟩
    | r i=>exact absurd d2 (by simp [DenW])
    | l d=>exact d2.elim
theorem T9 {i:Nat}:∀{ws:List W},noR i ws=true->W.r i∉ws
 | [],_=>by simp
 | .r j :: ws,h=>by
  rw [noR,jH] at h;exact fun z=>(zS.mp z).elim (fun z=>by cases z;simp at h) (T9 h.2)
 | .v _ :: ws,h=>fun z=>(zS.mp z).elim (fun z=>by cases z) (T9 (ws:=ws) h)
 | .o _ :: ws,h=>fun z=>(zS.mp z).elim (fun z=>by cases z) (T9 (ws:=ws) h)
 | .l _ :: ws,h=>fun z=>(zS.mp z).elim (fun z=>by cases z) (T9 (ws:=ws) h)
theorem j5 {g:D->List D->Option (W×D)}(F:FnL X.prog X.w X.K X.mg X.base x k g)(hr:Room k X.A)(ha:QA X (e :: es) fa)(hg:Gl X x:=by rfl)(hdb:(x == ("__debug__":Str))=false:=by decide)
  (he:starEach (e :: es) X.env=(false,eval e X.env) :: starEach es X.env:=by rfl) (hpl:(backTo pos (starEach es X.env)).any (·.1)=false:=by rfl):QX X (.Call (.Name x p) (e :: es) [] pos) (fDefL g fa):=by
 obtain ⟨f,fd,ps,F,b,kp,hm⟩:=F.ex;refine ⟨PE.weak (a4k F hr hg hm kp b .nil pass0 ha.to hdb he hpl) fun σ H Q h0=>tXe h0 fun P O L ρ w ρ' r e q=>?_⟩;unfold fDefL at e;obtain ⟨⟨ws0,ρ1⟩,e1,e⟩:=obs e;dsimp only at e;split at e
 ·rename_i i ws;cases e0:ownAt ρ1 i with
  | none=>rw [e0] at e;cases e
  | some c=>
   rw [e0] at e;simp only [bind_some] at e;cases e2:drs ρ1 ws with
   | none=>rw [e2] at e;cases e
   | some ds=>
    rw [e2] at e;simp only [bind_some] at e;obtain ⟨⟨w1,c'⟩,e3,e⟩:=obs e;dsimp only at e;split at e
    ·rename_i hc;refine ⟨P,O,L,ρ,_,ρ1,r,e1,fun vs H1 r1 l1=>?_⟩;obtain ⟨v0,us,rfl,h0,l1⟩:=l1;have h0:σ[i]? =some (some v0):=h0;obtain ⟨w0,q0,ow⟩:=q8 e0;obtain ⟨a,h1,ob⟩:=r1.obj q0 ow;rw [h0] at h1;cases h1;have ia:Ow ρ1 σ a:=⟨i,w0,c,q0,ow,h0⟩;have nh:¬Handed ρ1 σ ws a:=fun ⟨j,w',d',m,q1,q2,q3⟩=>by
      have:=r1.inj i j w0 w' c d' a q0 ow h0 q1 q2 q3
      subst this;exact T9 hc.1 m
     have sub:∀b,((AvO O ρ1 σ b/\b≠a/\¬Handed ρ1 σ ws b)\/b=a)->AvO O ρ1 σ b:=fun b z=>z.elim (·.1) fun z=>by rw [z];exact .inr ia
     refine ⟨fun b=>AvO O ρ1 σ b/\b≠a/\¬Handed ρ1 σ ws b,a,c,ds,us,w1,c',by rw [yE],fun b z=>r1.there z.1,fun z=>z.2.1 rfl,q5 (u5 sub) rfl ob,
      a0W r1 sub (fun b z=>z.elim (·.2.2) fun z=>by rw [z];exact nh) e2 l1,e3,fun v H2 k2 o2 d2=>?_⟩
     have main:∃Hx,Same Hx H2/\Rep X P O L (setOwn ρ1 i c') σ Hx/\∀A':Av,((∀b,A' b->((AvO O ρ1 σ b/\b≠a/\¬Handed ρ1 σ ws b)\/b=a))\/lfW w1=true)->DenW X.K A' σ Hx H2 w1 v:=by
      cases w1 with
      | v d=>
       refine ⟨H2,Same.refl _,r1.mut e0 h0 k2 (G0 (fun _ _ e _=>e) hc.2 rfl o2),fun A' h=>?_⟩;rcases h with h | h
       ·exact p0 (u5 h) _ _ d2
       ·exact a2c (fun _ _ e _=>e) _ _ h d2
      | o d=>
       obtain ⟨ar,ev,hn,obr⟩:=d2;obtain ⟨u0,eu0,_⟩:=C2 ob;obtain ⟨ur,eur,mur⟩:=C2 obr;have na:a≠ar:=fun z=>by rw [z,hn] at eu0;cases eu0
       refine ⟨fun b=>if b=ar then none else H2 b,fun b o eb=>?_,r1.mut e0 h0 (fun b o eb nb=>?_) (G0 (fun b o eb nm=>?_) hc.2 (if_neg na) o2),fun A' h=>⟨ar,ev,if_pos rfl,?_⟩⟩
       ·dsimp only at eb;split at eb
        ·cases eb
        ·exact eb
       ·have:b≠ar:=fun z=>by rw [z,hn] at eb;cases eb
        show (if b=ar then none else H2 b)=some o;rw [if_neg this];exact k2 b o eb nb
       ·have:b≠ar:=fun z=>by rw [z,eur] at eb;cases eb;exact nm mur
        show (if b=ar then none else H2 b)=some o;rw [if_neg this];exact eb
       ·rcases h with h | h
        ·exact q5 (u5 fun b z=>z.imp (h b) id) rfl obr
        ·exact G0 (fun _ _ e _=>e) h rfl obr
      | r i=>exact absurd d2 (by simp [DenW])
      | l d=>exact d2.elim
     obtain ⟨Hx,sx,rx,dx⟩:=main;split at e
     ·rename_i hl;cases e;exact q v Hx H2 rx sx (dx _ (.inr hl))
     ·obtain ⟨ρ2,e4,e⟩:=oms e;cases e;obtain ⟨r2,k3⟩:=N7 rx e4;refine q v Hx H2 r2 sx (dx _ (.inl fun b z=>?_));obtain ⟨z1,z2⟩:=X3 rx k3 z
      by_cases hb:b=a
      ·exact .inr hb
      ·refine .inl ⟨z1.imp id fun z=>(T7 e0 b).mp z,hb,fun ⟨j,w',d',m,q1,q2,q3⟩=>z2 ?_⟩;have hj:i≠j:=fun z=>by subst z;exact T9 hc.1 m
       obtain ⟨w2,_,es,_⟩:=V2 (d:=c') e0;exact ⟨j,w',d',m,by rw [es,zO hj];exact q1,q2,q3⟩
    ·cases e
 ·cases e
end
def start0 (n:Nat) (ds:List D):Ev:=ds.map (fun d=>some (.v d)) ++ List.replicate (n - ds.length) none
def runD (np n:Nat) (G:FS):List D->Option W:=fun ds=>if ds.length=np then match G (start0 n ds) with
 | some (.rt w _)=>some w
 | some (.nx _)=>some (.v .non)
 | _=>none else none
def runL (np n:Nat) (G:FS):D->List D->Option (W×D):=fun c ds=>if ds.length + 1=np then match G (some (.l c) :: start0 (n - 1) ds) with
 | some (.rt w ρ)=>(ownAt ρ 0).map fun c'=>(w,c')
 | some (.nx ρ)=>(ownAt ρ 0).map fun c'=>(.v .non,c')
 | _=>none else none
section
variable {P:Program}{w:World}{K:PySem.W.Frag}{mg:Str->Option Value}{base:Heap}
theorem y0 {n i:Nat}{ds:List D}{w:W}(e:(start0 n ds)[i]? =some (some w)):∃d,ds[i]? =some d/\w= .v d:=by
 unfold start0 at e
 by_cases hi:i < ds.length
 ·rw [qC (by simpa using hi),qA] at e
  cases q:ds[i]? with
  | none=>rw [q] at e;cases e
  | some d0=>rw [q] at e;cases e;exact ⟨d0,rfl,rfl⟩
 ·rw [qJ (by simpa using hi),yG] at e
  split at e <;> cases e
theorem a3j {X:Cx}{ds:List D}{vs:List V}{n:Nat}{N:List Str}{H:Hp}{A:Av}(hH:X.H₀=H)(hN:N.length=n)(hA:∀b,A b->∃o,H b=some o)(l:DenL X.K A H ds vs):Rep X [] A [] (start0 n ds) (start N vs) H where
 same:=fun b o e _=>by rw [<-hH];exact e
 amb:=fun b z=>by rw [hH];exact ⟨hA b z,fun i=>by simp⟩
 len:=by unfold start0 L2.start;simp [b6 l,hN]
 slot:=fun i w e=>by
  obtain ⟨d,q,rfl⟩:=y0 e;obtain ⟨v,h1,h2⟩:=z6 l q;refine ⟨v,?_,p0 (u5 fun b z=>?_) _ _ h2⟩
  ·unfold L2.start;rw [qC (by have:=(zJ.mp h1).1;simpa using this),qA,h1];rfl
  ·rcases z with z | ⟨j,w,c,e1,e2,e3⟩
   ·exact z
   ·obtain ⟨d',q',rfl⟩:=y0 e1;cases e2
 inj:=fun i j w w' d d' b e1 e2=>by obtain ⟨_,_,rfl⟩:=y0 e1;cases e2
 new:=fun i d b e=>by obtain ⟨_,_,z⟩:=y0 e;cases z
 lnt:=fun i d e=>by obtain ⟨_,_,z⟩:=y0 e;cases z
 lnd:=fun i b e=>by simp at e
 prot:=fun p hp=>by cases hp
 gvl:=fun b e=>by simp at e
theorem a50 {X:Cx}{c:D}{a:Addr}{ds:List D}{vs:List V}{n:Nat}{N:List Str}{H:Hp}{A:Av}(hH:X.H₀=H)(hN:N.length=n + 1)(hA:∀b,A b->∃o,H b=some o)(hn:¬A a)(ob:Obj X.K (fun b=>A b\/b=a) H a c)(l:DenL X.K (fun b=>A b\/b=a) H ds vs):
  Rep X [] A [(some 0,a)] (some (.l c) :: start0 n ds) (start N (.ref a :: vs)) H:=by
 have es:start N (.ref a :: vs)=some (.ref a) :: (vs.map some ++ List.replicate (n - vs.length) none):=by unfold L2.start;simp [hN]
 have own:∀{i:Nat} {w:W} {d:D},(some (.l c) :: start0 n ds)[i]? =some (some w)->w.own=some d->i=0:=fun {i w d} e1 e2=>by
  cases i with
  | zero=>rfl
  | succ i=>rw [qP] at e1;obtain ⟨_,_,rfl⟩:=y0 e1;cases e2
 have av:∀b,AvO A (some (.l c) :: start0 n ds) (start N (.ref a :: vs)) b->A b\/b=a:=fun b z=>z.imp id fun ⟨i,w,d,e1,e2,e3⟩=>by
  have:=own e1 e2
  subst this;rw [es] at e3;cases e3;rfl
 refine ⟨fun b o e _=>by rw [<-hH];exact e,fun b z=>⟨by rw [hH];exact hA b z,fun i m=>?_⟩,by rw [es];unfold start0;simp [b6 l],fun i w e=>?_,fun i j w w' d d' b e1 e2 _ e3 e4 _=>(own e1 e2).trans (own e3 e4).symm,fun i d b e=>?_,fun i d e=>?_,fun i b e=>?_,(fun p hp=>by cases hp),fun b _=>⟨0,a,zU.mpr rfl⟩⟩
 ·rw [zU] at m;cases m;exact hn z
 ·cases i with
  | zero=>cases e;exact ⟨.ref a,by rw [es];rfl,a,rfl,q5 (u5 av) rfl ob⟩
  | succ i=>
   rw [qP] at e;obtain ⟨d,q,rfl⟩:=y0 e;obtain ⟨v,h1,h2⟩:=z6 l q;refine ⟨v,?_,p0 (u5 av) _ _ h2⟩;rw [es,qP,qC (by have:=(zJ.mp h1).1;simpa using this),qA,h1];rfl
 ·cases i with
  | zero=>cases e
  | succ i=>rw [qP] at e;obtain ⟨_,_,z⟩:=y0 e;cases z
 ·have:=own e rfl
  subst this;exact ⟨a,by rw [es];rfl,by simp⟩
 ·rw [zU] at e;cases e;exact ⟨c,rfl,by rw [es];rfl⟩
theorem n4 {x:Str}{st:Stmt}{f:Addr}{fd:FuncData}{N ps:List Str}{k np n:Nat}{G:FS}(F:Fun K x x st f fd)(S:FnScope N ps (defScope st))(B:Binds K fd ps [])(hm:mg x=some (.ref f))(hp:ps.length=np)(hn:N.length=n)
  (body:∀(cdv:Value) (A:Around) (outer:List Env) (s:Shared) (H:Hp) (E:XK),Room k (A.deeper (envOfC x (defScope st) s.heap.objs.size f cdv))->
   QSs (cxOf CX0 P w K mg base N x (defScope st) f cdv A outer s H E).nox (defBody st) G):Fn P w K mg base x (k + 1) (runD np n G):=by
 refine ⟨f,fd,ps,F.ok S (fun vs H Q E h0=>?_) (fun cdv A outer s H vs Q E hr h0=>⟨_,(body cdv A outer s H E hr).to,?_⟩),B,F.kp,hm⟩
 ·obtain ⟨A,ds,d,hA,l,e,q⟩:=h0;unfold runD at e;split at e
  ·rename_i hl;rw [<-b6 l,hl,hp]
  ·cases e
 ·obtain ⟨A',ds,d,hA,l,e,q⟩:=h0;unfold runD at e;split at e
  ·rename_i hl;cases e1:G (start0 n ds) with
   | none=>rw [e1] at e;cases e
   | some r=>
    rw [e1] at e;refine ⟨[],A',[],_,r,a3j rfl hn hA l,e1,?_⟩;have hz:∀{w:W} {v:V} {H':Hp},DenW K (A0 A' []) [] H H' w v->DenW K A' [] H H' w v:=fun {w v H'} h=>by
     have e0:A0 A' []=A':=funext fun b=>propext ⟨fun z=>z.elim id fun ⟨i,z⟩=>by simp at z,.inl⟩
     rw [e0] at h;exact h
    cases r with
    | rt w ρ'=>cases e;exact fun v H' s' _ d1=>q v H' (fun b o eb=>s' b o eb fun i=>by simp) (hz d1)
    | nx ρ'=>cases e;exact fun σ' H' rp'=>q .non H' (fun b o eb=>rp'.same b o eb fun i=>by simp) F5
    | bk ρ'=>cases e
    | ct ρ'=>cases e
  ·cases e
theorem a3v {x:Str}{st:Stmt}{f:Addr}{fd:FuncData}{N ps:List Str}{k np n:Nat}{G:FS}(F:Fun K x x st f fd)(S:FnScope N ps (defScope st))(B:Binds K fd ps [])(hm:mg x=some (.ref f))(hp:ps.length=np)(hn:N.length=n + 1)
  (body:∀(cdv:Value) (A:Around) (outer:List Env) (s:Shared) (H:Hp) (E:XK),Room k (A.deeper (envOfC x (defScope st) s.heap.objs.size f cdv))->
   QSs (cxOf CX0 P w K mg base N x (defScope st) f cdv A outer s H E).nox (defBody st) G):FnL P w K mg base x (k + 1) (runL np (n + 1) G):=by
 refine ⟨f,fd,ps,F.ok S (fun vs H Q E h0=>?_) (fun cdv A outer s H vs Q E hr h0=>⟨_,(body cdv A outer s H E hr).to,?_⟩),B,F.kp,hm⟩
 ·obtain ⟨A,a,c,ds,us,w,c',e0,hA,hna,ob,l,e,q⟩:=h0;unfold runL at e;split at e
  ·rename_i hl;rw [e0,qI,<-b6 l,hl,hp]
  ·cases e
 ·obtain ⟨A',a,c,ds,us,w,c',e0,hA,hna,ob,l,e,q⟩:=h0;subst e0;unfold runL at e;split at e
  ·rename_i hl;rw [Nat.add_sub_cancel] at e;cases e1:G (some (.l c) :: start0 n ds) with
   | none=>rw [e1] at e;cases e
   | some r=>
    rw [e1] at e;refine ⟨[],A',[(some 0,a)],_,r,a50 rfl hn hA hna ob l,e1,?_⟩;have ea:A0 A' [(some 0,a)]=fun b=>A' b\/b=a:=funext fun b=>propext (or_congr Iff.rfl ⟨fun ⟨i,z⟩=>by rw [zU] at z;cases z;rfl,fun z=>⟨0,by rw [z];exact zU.mpr rfl⟩⟩)
    have nl:∀{b:Addr},b≠a->∀i,(i,b)∉[(some 0,a)]:=fun n i z=>by rw [zU] at z;cases z;exact n rfl
    cases r with
    | rt w0 ρ'=>
     refine fun v H' s' ln d1=>?_;obtain ⟨c0,h1,h2⟩:=ln 0 a (zU.mpr rfl);simp only [h1,qZ] at e;cases e;rw [ea] at h2 d1;exact q v H' (fun b o eb n=>s' b o eb (nl n)) h2 d1
    | nx ρ'=>
     refine fun σ' H' rp'=>?_;obtain ⟨c0,h1,h2⟩:=rp'.lents 0 a (zU.mpr rfl);simp only [h1,qZ] at e;cases e;rw [ea] at h2;exact q .non H' (fun b o eb n=>rp'.same b o eb (nl n)) h2 F5
    | bk ρ'=>cases e
    | ct ρ'=>cases e
  ·cases e
end
@[elab_as_elim] theorem us1 {α:Type} {C:List α->Prop} {us:List α} (h:us.length=1) (k:∀a,C [a]):C us:=by
 match us,h with
 | [a],_=>exact k a
@[elab_as_elim] theorem us2 {α:Type} {C:List α->Prop} {us:List α} (h:us.length=2) (k:∀a b,C [a,b]):C us:=by
 match us,h with
 | [a,b],_=>exact k a b
@[elab_as_elim] theorem us3 {α:Type} {C:List α->Prop} {us:List α} (h:us.length=3) (k:∀a b c,C [a,b,c]):C us:=by
 match us,h with
 | [a,b,c],_=>exact k a b c
@[elab_as_elim] theorem us5 {α:Type} {C:List α->Prop} {us:List α} (h:us.length=5) (k:∀a b c d e,C [a,b,c,d,e]):C us:=by
 match us,h with
 | [a,b,c,d,e],_=>exact k a b c d e
section
variable {X:Cx}{a b e:Expr}{es:List Expr}{pos:Pos}{f g h:FX}{t u:FT}
theorem a1s {K:PySem.W.Frag}{A:Av}{H:Hp}{i:Bool}{v:V}(h:DenR K A H (.bl i) v):v= .bl i:=by
 have h:Den K A H (.bl i) v:=h;exact a1F.mp h
theorem a1y {K:PySem.W.Frag}{A:Av}{H:Hp}{i:Str}{v:V}(h:DenR K A H (.str i) v):v= .str i:=by
 have h:Den K A H (.str i) v:=h;exact a37.mp h
theorem a2p {K:PySem.W.Frag}{A:Av}{H:Hp}{v:V}(h:DenR K A H .non v):v= .non:=by
 have h:Den K A H .non v:=h;exact a6R.mp h
def tyD:D->String
 | .non=>"NoneType"
 | .bl _=>"bool"
 | .int _=>"int"
 | .str _=>"str"
 | .tup _=>"tuple"
 | .dT _ _=>"dict"
 | .dK _ _=>"dict"
 | _=>"list"
def isX:D->Bool
 | .exn _=>true
 | _=>false
def isiB (T:String) (d:D):Bool:=tyD d == T || (tyD d == "bool" && T == "int")
def Kit (K:PySem.W.Frag) (T:String):Prop:=∀d:D,PySem.W.kitOne K (.type (tyD d)) (.type T)=some (isiB T d)
theorem N2 {K:PySem.W.Frag}{T:String}(h:T="int"\/T="bool"\/T="str"\/T="tuple"\/T="list"):Kit K T:=by
 rcases h with h | h | h | h | h <;> subst h <;> intro d <;> cases d <;> rfl
theorem a9Z {T:String}(hk:Kit X.K T):CallR X (.builtin "isinstance") (fun xs H Q=>∃x A d,xs=[x,.ty T]/\isX d=false/\DenR X.K A H d x/\Q (.bl (isiB T d)) H):=by
 intro pins s σ H xs us Q I r h;obtain ⟨x,A,d,rfl,nx,hd,q⟩:=h;obtain ⟨u,w,rfl,ru,rw'⟩:=vals2 r;cases (show w=Value.type T from rw');have e:=hk d;have fin:∀tk,EP X pins σ Q (.bool (isiB T d)) {s with toks:=tk}:=fun tk=>⟨.bl _,H,I.tok _,rfl,q⟩
 cases d with
 | non=>have hd:=a2p hd;subst hd;cases (show u=Value.none from ru);exact jZ PySem.W.kitx_none I.kIn True.intro e (fun z=>nomatch z) fin
 | bl y=>have hd:=a1s hd;subst hd;cases (show u=Value.bool y from ru);exact jZ PySem.W.kitx_bool I.kIn True.intro e (fun z=>nomatch z) fin
 | int i=>have hd:=j4 hd;subst hd;obtain ⟨t,z⟩:=(show ∃t,u=Value.int i t from ru);cases z;exact jZ PySem.W.kitx_int I.kIn True.intro e (fun z=>nomatch z) fin
 | str y=>have hd:=a1y hd;subst hd;obtain ⟨t,z⟩:=(show ∃t,u=Value.str y t from ru);cases z;exact jZ PySem.W.kitx_str I.kIn True.intro e (fun z=>nomatch z) fin
 | tup ys=>
  have hd:Den X.K A H (.tup ys) x:=hd;rw [Den] at hd;obtain ⟨a,vs,rfl,hq,_⟩:=hd;cases (show u=Value.ref a from ru);obtain ⟨its,_,p,_⟩:=I.tuple hq;obtain ⟨o,h1,h2,_⟩:=p;exact jZ PySem.W.kitx_tuple I.kIn ⟨o,h1,h2⟩ e (fun z=>nomatch z) fin
 | lst ys=>
  obtain ⟨a,vs,rfl,hq,_⟩:=hd;cases (show u=Value.ref a from ru);obtain ⟨its,_,p,_⟩:=I.list hq;obtain ⟨o,n,h1,h2,_⟩:=p;exact jZ PySem.W.kitx_list I.kIn ⟨o,h1,h2⟩ e (fun z=>nomatch z) fin
 | dK ks ys=>
  obtain ⟨a,vs,rfl,hq,_⟩:=hd;cases (show u=Value.ref a from ru);obtain ⟨_,_,vs,_,p⟩:=(show ObjOk X.prog X.w H s.heap a (.dK _) from I.hok a _ hq);obtain ⟨o,es,ep,h1,h2,_⟩:=p;exact jZ PySem.W.kitx_dict I.kIn ⟨o,h1,h2.1⟩ e (fun z=>nomatch z) fin
 | dT ks ys=>
  obtain ⟨a,vs,rfl,hq,_⟩:=hd;cases (show u=Value.ref a from ru);obtain ⟨_,_,xs,_,o,es,ep,h1,h2,_⟩:=(show ObjOk X.prog X.w H s.heap a (.dT _) from I.hok a _ hq);exact jZ PySem.W.kitx_dict I.kIn ⟨o,h1,h2.1⟩ e (fun z=>nomatch z) fin
 | exn C=>cases nx
def oIsi (T:String) (d:D):Option W:=if isX d=true then none else some (.v (.bl (isiB T d)))
theorem O1 {T:String}{x:Str}{p p2:Pos}(hk:Kit X.K T)(hm:X.mg "isinstance"=none)(hmT:X.mg x=none)(ha:QX X e f)(hT:bootBuiltins x=some (.type T):=by rfl)(hb:bootBuiltins "isinstance"=some (.builtin "isinstance"):=by rfl)(hg:Gl X "isinstance":=by rfl)(hgT:Gl X x:=by rfl)(hn:x≠"__name__":=by decide)(hdb:(x == ("__debug__":Str))=false:=by decide)
  (he:starEach [e,.Name x p2] X.env=(false,eval e X.env) :: starEach [.Name x p2] X.env:=by rfl) (hpl:(backTo pos (starEach [.Name x p2] X.env)).any (·.1)=false:=by rfl) (hs:starEach [.Name x p2] X.env=(false,eval (.Name x p2) X.env) :: starEach [] X.env:=by rfl):QX X (.Call (.Name "isinstance" p) [e,.Name x p2] [] pos) (fUn (oIsi T) f):=
 ⟨PE.weak (a2l (a9Z hk) hg hm hb (D6 ha.to (D6 (b1M (v:=.ty T) hgT hmT hT rfl hn hdb) a0P hs) he) (by decide) (by decide) he hpl) fun σ H Q h=>
  a7z (r:=fun v H Q=>∃x A d,[v,V.ty T]=[x,.ty T]/\isX d=false/\DenR X.K A H d x/\Q (.bl (isiB T d)) H) (fun A x w v H Q _ e hx q=>by
   unfold oIsi at e;split at e
   ·cases e
   ·rename_i nx;cases e;exact ⟨v,A,x,rfl,by simpa using nx,hx,q _ H (Same.refl H) A4⟩) σ H Q h⟩
def isD:D->D->Option Bool
 | .non,.non=>some true
 | d,.non=>some false
 | .bl a,.bl b=>some (a == b)
 | _,.bl _=>some false
 | _,_=>none
theorem is_of {M:Model}{A:Around}{E:Value->Shared->Prop}{s:Shared}{x y:Value}{k:Bool}{Q:Value->Shared->Prop}(h:isSame x y=pure k)(q:Q (.bool k) s):wpAny M A (compareOp .Is x y) Q E s:=by
 show wpAny M A (isSame x y >>=fun b=>pure (Value.bool b)) Q E s;rw [h];exact zC q
theorem b0S {M:Model}{A:Around}{E:Value->Shared->Prop}{s:Shared}{x y:Value}{k:Bool}{Q:Value->Shared->Prop}(h:isSame x y=pure k)(q:Q (.bool (!k)) s):wpAny M A (compareOp .IsNot x y) Q E s:=by
 show wpAny M A (isSame x y >>=fun b=>pure (Value.bool (!b))) Q E s;rw [h];exact zC q
theorem b0F {K:PySem.W.Frag}{A:Av}{H:Hp}{x:D}{v:V}{vv:Value}(hx:DenR K A H x v)(rx:RelV v vv):(x= .non/\vv= .none)\/(∃b,x= .bl b/\vv= .bool b)\/(∃i t,x= .int i/\vv= .int i t)\/(∃y t,x= .str y/\vv= .str y t)\/((∀b,x≠.bl b)/\x≠.non/\∃a,v= .ref a/\vv= .ref a):=by
 cases x with
 | non=>have h:=a2p hx;subst h;exact .inl ⟨rfl,rx⟩
 | bl b=>have h:=a1s hx;subst h;exact .inr (.inl ⟨b,rfl,rx⟩)
 | int i=>have h:=j4 hx;subst h;obtain ⟨t,e⟩:=(show ∃t,vv=Value.int i t from rx);exact .inr (.inr (.inl ⟨i,t,rfl,e⟩))
 | str i=>have h:=a1y hx;subst h;obtain ⟨t,e⟩:=(show ∃t,vv=Value.str i t from rx);exact .inr (.inr (.inr (.inl ⟨i,t,rfl,e⟩)))
 | tup xs=>
  have hx:Den K A H (.tup xs) v:=hx;rw [Den] at hx;obtain ⟨a,vs,rfl,_⟩:=hx;exact .inr (.inr (.inr (.inr ⟨nofun,nofun,a,rfl,rx⟩)))
 | lst xs=>obtain ⟨a,vs,rfl,_⟩:=hx;exact .inr (.inr (.inr (.inr ⟨nofun,nofun,a,rfl,rx⟩)))
 | dT ks xs=>obtain ⟨a,vs,rfl,_⟩:=hx;exact .inr (.inr (.inr (.inr ⟨nofun,nofun,a,rfl,rx⟩)))
 | dK ks xs=>obtain ⟨a,vs,rfl,_⟩:=hx;exact .inr (.inr (.inr (.inr ⟨nofun,nofun,a,rfl,rx⟩)))
 | exn C=>
  have hx:Den K A H (.exn C) v:=hx;rw [Den] at hx;obtain ⟨a,rfl,_⟩:=hx;exact .inr (.inr (.inr (.inr ⟨nofun,nofun,a,rfl,rx⟩)))
theorem a6i {K:PySem.W.Frag}{A:Av}{H:Hp}{x y:D}{v u:V}{vv uu:Value}{k:Bool}(e:isD x y=some k)(hx:DenR K A H x v)(hy:DenR K A H y u)(rx:RelV v vv)(ry:RelV u uu):isSame vv uu=pure k:=by
 cases y with
 | non=>
  have hy:=a2p hy;subst hy;cases (show uu=Value.none from ry);rw [PySem.isSame_none];rcases b0F hx rx with ⟨rfl,rfl⟩ | ⟨b,rfl,rfl⟩ | ⟨i,t,rfl,rfl⟩ | ⟨i,t,rfl,rfl⟩ | ⟨n1,n2,a,rfl,rfl⟩
  ·cases e;rfl
  ·cases e;rfl
  ·cases e;rfl
  ·cases e;rfl
  ·cases x <;> simp only [isD] at e <;> first | (cases e;rfl) | exact absurd rfl n2
 | bl q=>
  have hy:=a1s hy;subst hy;cases (show uu=Value.bool q from ry);rcases b0F hx rx with ⟨rfl,rfl⟩ | ⟨b,rfl,rfl⟩ | ⟨i,t,rfl,rfl⟩ | ⟨i,t,rfl,rfl⟩ | ⟨n1,n2,a,rfl,rfl⟩
  ·cases e;rfl
  ·cases e;cases b <;> cases q <;> rfl
  ·cases e;rfl
  ·cases e;rfl
  ·cases x <;> simp only [isD] at e <;> first | (cases e;rfl) | exact absurd rfl (n1 _)
 | _=>cases x <;> simp only [isD] at e <;> cases e
def rD2 (K:PySem.W.Frag) (t:D->D->Option Bool) (neg:Bool):R2:=fun v u H Q=>∃A x y k,t x y=some k/\DenR K A H x v/\DenR K A H y u/\Q (.bl (if neg then !k else k)) H
def oD2 (t:D->D->Option Bool) (neg:Bool) (x y:D):Option W:=(t x y).map fun k=>.v (.bl (if neg then !k else k))
theorem kD2 {t:D->D->Option Bool}{neg:Bool}:Pr2 X (oD2 t neg) (rD2 X.K t neg):=by
 intro A x y w v u H Q _ e hx hy q;unfold oD2 at e;cases e1:t x y with
 | none=>rw [e1] at e;cases e
 | some k=>rw [e1] at e;cases e;exact ⟨A,x,y,k,e1,hx,hy,q _ H (Same.refl H) A4⟩
theorem b3G:OpR X (compareOp .Is) (rD2 X.K isD false):=by
 intro pins s σ H x y v u Q I rx ry ⟨A,dx,dy,k,e,hx,hy,q⟩;exact is_of (a6i e hx hy rx ry) ⟨.bl k,H,I,rfl,q⟩
theorem a7R:OpR X (compareOp .IsNot) (rD2 X.K isD true):=by
 intro pins s σ H x y v u Q I rx ry ⟨A,dx,dy,k,e,hx,hy,q⟩;exact b0S (a6i e hx hy rx ry) ⟨.bl (!k),H,I,rfl,q⟩
theorem a9a (ha:QX X a f)(hb:QX X b g):QT X (.Compare a [.Is] [b] pos) (fTest (fBin (oD2 isD false) f g)):=S5 b3G kD2 ha hb
theorem a8O (ha:QX X a f)(hb:QX X b g):QT X (.Compare a [.IsNot] [b] pos) (fTest (fBin (oD2 isD true) f g)):=S5 a7R kD2 ha hb
def flatE:D->D->Option Bool
 | .non,.non=>some true
 | .non,.int _=>some false
 | .int _,.non=>some false
 | .bl a,.bl b=>some (a == b)
 | .bl a,.int b=>some ((if a then 1 else 0) == b)
 | .int a,.bl b=>some (a == (if b then 1 else 0))
 | .int a,.int b=>some (a == b)
 | .str a,.str b=>some (a == b)
 | _,_=>none
def deqL (eq:D->D->Option Bool):List D->List D->Option Bool
 | [],[]=>some true
 | [],_ :: _=>some false
 | _ :: _,[]=>some false
 | x :: xs,y :: ys=>(eq x y).bind fun p=>(deqL eq xs ys).map fun q=>p && q
def deq:Nat->D->D->Option Bool
 | 0,x,y=>flatE x y
 | n + 1,.tup xs,.tup ys=>deqL (deq n) xs ys
 | n + 1,.lst xs,.lst ys=>deqL (deq n) xs ys
 | _ + 1,x,y=>flatE x y
theorem a6N {K:PySem.W.Frag}{A:Av}{H:Hp}{x y:D}{v u:V}{k:Bool}(e:flatE x y=some k)(hx:DenR K A H x v)(hy:DenR K A H y u):Den K A H x v/\Den K A H y u:=by
 cases x <;> cases y <;> simp only [flatE] at e <;> cases e <;> exact ⟨hx,hy⟩
theorem a2z {K:PySem.W.Frag}{O:Av}{H:Hp}{A:Around}{s:Shared}{x y:D}{v u:V}{vv uu:Value}{k:Bool}(e:flatE x y=some k)(hx:DenR K O H x v)(hy:DenR K O H y u)(rx:RelV v vv)(ry:RelV u uu):SeqAt.EqAt A s vv uu k/\SeqAt.RcAt A s vv uu k/\SeqAt.RcNeAt A s vv uu (!k):=by
 obtain ⟨hx,hy⟩:=a6N e hx hy;cases x <;> cases y <;> simp only [flatE] at e <;> cases e <;> rw [Den] at hx <;> rw [Den] at hy <;> subst hx <;> subst hy
 ·cases (show vv=Value.none from rx);cases (show uu=Value.none from ry);exact ⟨.same _,.none_none,.none_none⟩
 ·cases (show vv=Value.none from rx);obtain ⟨t,z⟩:=(show ∃t,uu=Value.int _ t from ry);cases z;exact ⟨.none_int _ _,.none_int _ _,.none_int _ _⟩
 ·cases (show vv=Value.bool _ from rx);cases (show uu=Value.bool _ from ry);exact ⟨.bool_bool _ _,.bool_bool _ _,.bool_bool _ _⟩
 ·cases (show vv=Value.bool _ from rx);obtain ⟨t,z⟩:=(show ∃t,uu=Value.int _ t from ry);cases z;exact ⟨.bool_int _ _ _,.bool_int _ _ _,.bool_int _ _ _⟩
 ·cases (show uu=Value.none from ry);obtain ⟨t,z⟩:=(show ∃t,vv=Value.int _ t from rx);cases z;exact ⟨.int_none _ _,.int_none _ _,.int_none _ _⟩
 ·cases (show uu=Value.bool _ from ry);obtain ⟨t,z⟩:=(show ∃t,vv=Value.int _ t from rx);cases z;exact ⟨.int_bool _ _ _,.int_bool _ _ _,.int_bool _ _ _⟩
 ·obtain ⟨t,z⟩:=(show ∃t,vv=Value.int _ t from rx);cases z;obtain ⟨t,z⟩:=(show ∃t,uu=Value.int _ t from ry);cases z;exact ⟨.int_int _ _ _ _,.int_int _ _ _ _,.int_int _ _ _ _⟩
 ·obtain ⟨t,z⟩:=(show ∃t,vv=Value.str _ t from rx);cases z;obtain ⟨t,z⟩:=(show ∃t,uu=Value.str _ t from ry);cases z;exact ⟨.str_str _ _ _ _,.str_str _ _ _ _,.str_str _ _ _ _⟩
theorem a2Y {K:PySem.W.Frag}{O:Av}{H:Hp}{x y:D}{v:V}{k:Bool}(e:flatE x y=some k)(hx:DenR K O H x v)(hy:DenR K O H y v):k=true:=by
 obtain ⟨hx,hy⟩:=a6N e hx hy;cases x <;> cases y <;> simp only [flatE] at e <;> cases e <;> rw [Den] at hx <;> rw [Den] at hy
 all_goals first
  | rfl
  | (rw [hx] at hy;cases hy;simp)
  | (rw [hx] at hy;cases hy)
theorem a3y {K:PySem.W.Frag}{O:Av}{H:Hp}{A:Around}{s:Shared}{eq:D->D->Option Bool}(hq:∀x y v u vv uu k,eq x y=some k->Den K O H x v->Den K O H y u->RelV v vv->RelV u uu->SeqAt.EqAt A s vv uu k):
  ∀{xs ys:List D} {vs us:List V} {its jts:List Value} {k:Bool},deqL eq xs ys=some k->DenL K O H xs vs->DenL K O H ys us->Vals vs its->Vals us jts->
   ∃e:Nat->Bool,(∀j (h1:j < its.toArray.size) (h2:j < jts.toArray.size),SeqAt.EqAt A s its.toArray[j] jts.toArray[j] (e j))/\k=((List.range (min its.toArray.size jts.toArray.size)).all e && its.toArray.size == jts.toArray.size)
 | [],[],vs,us,its,jts,k,e,hx,hy,rx,ry=>by
  rw [DenL] at hx hy;subst hx;subst hy;cases rx;cases ry;cases e;exact ⟨fun _=>true,fun j h1 h2=>absurd h1 (by simp),rfl⟩
 | [],y :: ys,vs,us,its,jts,k,e,hx,hy,rx,ry=>by
  rw [DenL] at hx;rw [DenL] at hy;subst hx;obtain ⟨u,r,rfl,_,_⟩:=hy;cases rx;cases ry;cases e;exact ⟨fun _=>true,fun j h1 h2=>absurd h1 (by simp),by simp⟩
 | x :: xs,[],vs,us,its,jts,k,e,hx,hy,rx,ry=>by
  rw [DenL] at hx;rw [DenL] at hy;subst hy;obtain ⟨u,r,rfl,_,_⟩:=hx;cases rx;cases ry;cases e;exact ⟨fun _=>true,fun j h1 h2=>absurd h2 (by simp),by simp⟩
 | x :: xs,y :: ys,vs,us,its,jts,k,e,hx,hy,rx,ry=>by
  rw [DenL] at hx hy;obtain ⟨v,r,rfl,dx,lx⟩:=hx;obtain ⟨u,q,rfl,dy,ly⟩:=hy;cases rx with
  | cons r1 rs1=>
   cases ry with
   | cons r2 rs2=>
    rw [deqL] at e;cases e1:eq x y with
    | none=>rw [e1] at e;cases e
    | some p=>
     cases e2:deqL eq xs ys with
     | none=>rw [e1,e2] at e;cases e
     | some q2=>
      rw [e1,e2] at e;cases e;obtain ⟨w,h1,h2⟩:=a3y hq e2 lx ly rs1 rs2;refine ⟨fun j=>if j=0 then p else w (j - 1),fun j g1 g2=>?_,?_⟩
      ·cases j with
       | zero=>simpa using hq x y v u _ _ p e1 dx dy r1 r2
       | succ j=>
        have z:=h1 j (by simpa using g1) (by simpa using g2)
        simp only [List.getElem_toArray] at z ⊢;simpa using z
      ·rw [h2];simp only [zR,qI];rw [show min (_ + 1) (_ + 1)=min _ _ + 1 from Nat.succ_min_succ _ _,List.range_succ_eq_map,all_cons,all_map];simp [Function.comp_def,Bool.and_assoc]
theorem a00 {K:PySem.W.Frag}{O:Av}{H:Hp}{eq:D->D->Option Bool}(hq:∀x y v k,eq x y=some k->Den K O H x v->Den K O H y v->k=true):
  ∀{xs ys:List D} {vs:List V} {k:Bool},deqL eq xs ys=some k->DenL K O H xs vs->DenL K O H ys vs->k=true
 | [],[],vs,k,e,hx,hy=>by cases e;rfl
 | [],y :: ys,vs,k,e,hx,hy=>by have:=b6 hx;have:=b6 hy;simp at *;walk_at "o"
 | x :: xs,[],vs,k,e,hx,hy=>by have:=b6 hx;have:=b6 hy;simp at *;walk_at "o"
 | x :: xs,y :: ys,vs,k,e,hx,hy=>by
  rw [DenL] at hx hy;obtain ⟨v,r,rfl,dx,lx⟩:=hx;obtain ⟨u,q,e0,dy,ly⟩:=hy;cases e0;rw [deqL] at e;cases e1:eq x y with
  | none=>rw [e1] at e;cases e
  | some p=>
   cases e2:deqL eq xs ys with
   | none=>rw [e1,e2] at e;cases e
   | some q2=>
    rw [e1,e2] at e;cases e;rw [hq x y v p e1 dx dy,a00 hq e2 lx ly];rfl
theorem a2J {n:Nat}{x y:D}{k:Bool}(e:deq (n + 1) x y=some k):flatE x y=some k\/(∃xs ys,x= .tup xs/\y= .tup ys/\deqL (deq n) xs ys=some k)\/∃xs ys,x= .lst xs/\y= .lst ys/\deqL (deq n) xs ys=some k:=by
 cases x <;> cases y <;> first
  | exact .inl e
  | exact .inr (.inl ⟨_,_,rfl,rfl,e⟩)
  | exact .inr (.inr ⟨_,_,rfl,rfl,e⟩)
theorem B8 {K:PySem.W.Frag}{O:Av}{H:Hp}{xs:List D}{v:V}(h:DenR K O H (.tup xs) v):∃a vs,v= .ref a/\SqT K H a vs/\DenL K O H xs vs:=by
 have h:Den K O H (.tup xs) v:=h;rw [Den] at h;exact h
theorem a4v {O:Av}{pins:List (Addr×PySem.Obj)}{σ:L2.St}{H:Hp}{s:Shared}(I:Inv X pins σ H s):∀(n:Nat) (x y:D) (v:V) (k:Bool),deq n x y=some k->DenR X.K O H x v->DenR X.K O H y v->k=true
 | 0,x,y,v,k,e,hx,hy=>a2Y e hx hy
 | n + 1,x,y,v,k,e,hx,hy=>by
  have hs:∀x y v k,deq n x y=some k->Den X.K O H x v->Den X.K O H y v->k=true:=fun x y v k e hx hy=>a4v I n x y v k e (E7 hx) (E7 hy);rcases a2J e with e | ⟨xs,ys,rfl,rfl,e⟩ | ⟨xs,ys,rfl,rfl,e⟩
  ·exact a2Y e hx hy
  ·obtain ⟨a,vs,rfl,q1,l1⟩:=B8 hx;obtain ⟨b,us,z,q2,l2⟩:=B8 hy;cases z;rw [I.tuple_inj q2 q1] at l2;exact a00 hs e l1 l2
  ·obtain ⟨a,vs,rfl,q1,l1⟩:=hx;obtain ⟨b,us,z,q2,l2⟩:=hy;cases z;rw [I.list_inj q2 q1] at l2;exact a00 hs e l1 l2
theorem a34 {O:Av}{pins:List (Addr×PySem.Obj)}{σ:L2.St}{H:Hp}{s:Shared}(I:Inv X pins σ H s):∀(n:Nat) (A:Around),A.units + n + 1 < cLine->∀(x y:D) (v u:V) (vv uu:Value) (k:Bool),deq n x y=some k->DenR X.K O H x v->DenR X.K O H y u->RelV v vv->RelV u uu->
  SeqAt.EqAt A s vv uu k/\SeqAt.RcAt A s vv uu k/\SeqAt.RcNeAt A s vv uu (!k)
 | 0,A,hA,x,y,v,u,vv,uu,k,e,hx,hy,rx,ry=>a2z e hx hy rx ry
 | n + 1,A,hA,x,y,v,u,vv,uu,k,e,hx,hy,rx,ry=>by
  have hin:∀x y v u vv uu k,deq n x y=some k->Den X.K O H x v->Den X.K O H y u->RelV v vv->RelV u uu->SeqAt.EqAt A.in1 s vv uu k:=fun x y v u vv uu k e hx hy rx ry=>(a34 I n A.in1 (by show A.units + 1 + n + 1 < _;walk_at "o") x y v u vv uu k e (E7 hx) (E7 hy) rx ry).1
  have hu:A.units < cLine:=by walk_at "o"
  have done:∀(p q:Addr),v= .ref p->u= .ref q->SeqAt.RcAt A s (.ref p) (.ref q) k->SeqAt.RcNeAt A s (.ref p) (.ref q) (!k)->SeqAt.EqAt A s vv uu k/\SeqAt.RcAt A s vv uu k/\SeqAt.RcNeAt A s vv uu (!k):=fun p q ev eu rc rn=>by
   subst ev;subst eu;cases (show vv=Value.ref p from rx);cases (show uu=Value.ref q from ry);refine ⟨?_,rc,rn⟩
   by_cases pq:p=q
   ·subst pq;rw [a4v I (n + 1) x y _ k e hx hy];exact .same _
   ·exact .of_refs pq rc
  rcases a2J e with e | ⟨xs,ys,rfl,rfl,e⟩ | ⟨xs,ys,rfl,rfl,e⟩
  ·exact a2z e hx hy rx ry
  ·obtain ⟨p,vs,ev,q1,l1⟩:=B8 hx;obtain ⟨q,us,eu,q2,l2⟩:=B8 hy;obtain ⟨its,r1,t1,_⟩:=I.tuple q1;obtain ⟨jts,r2,t2,_⟩:=I.tuple q2;obtain ⟨w,h1,h2⟩:=a3y hin e l1 l2 r1 r2;refine done p q ev eu ?_ ?_
   ·rw [h2];exact SeqAt.RcAt.tuples t1 t2 hu h1
   ·rw [h2];exact SeqAt.RcNeAt.tuples t1 t2 hu h1
  ·obtain ⟨p,vs,ev,q1,l1⟩:=id hx;obtain ⟨q,us,eu,q2,l2⟩:=id hy;obtain ⟨its,r1,t1,_⟩:=I.list q1;obtain ⟨jts,r2,t2,_⟩:=I.list q2;obtain ⟨w,h1,h2⟩:=a3y hin e l1 l2 r1 r2
   by_cases sz:its.toArray.size=jts.toArray.size
   ·have r1:=SeqAt.RcAt.lists t1.isList t2.isList sz hu h1;have r2:=SeqAt.RcNeAt.lists t1.isList t2.isList sz hu h1;rw [sz,Nat.min_self,show (jts.toArray.size == jts.toArray.size)=true by simp,Bool.and_true] at h2
    rw [sz,<-h2] at r1 r2;exact done p q ev eu r1 r2
   ·have r1:=SeqAt.RcAt.lists_lengths (A:=A) t1.isList t2.isList (by simpa using sz) hu
    have r2:=SeqAt.RcNeAt.lists_lengths (A:=A) t1.isList t2.isList (by simpa using sz) hu
    rw [show (its.toArray.size == jts.toArray.size)=false by simpa using sz,Bool.and_false] at h2
    subst h2;exact done p q ev eu r1 r2
theorem b0c {k:Nat}(hr:Room k X.A):OpR X (compareOp .Eq) (rD2 X.K (deq 20) false):=by
 intro pins s σ H x y v u Q I rx ry ⟨A,dx,dy,k,e,hx,hy,q⟩
 have:=(a34 I 20 X.A (by have:=hr.units;walk_at "o") dx dy x y v u k e hx hy rx ry).2.1
 exact this X.prog X.w X.xe _ ⟨.bl k,H,I,rfl,q⟩
theorem b3C {k:Nat}(hr:Room k X.A):OpR X (compareOp .NotEq) (rD2 X.K (deq 20) true):=by
 intro pins s σ H x y v u Q I rx ry ⟨A,dx,dy,k,e,hx,hy,q⟩
 have:=(a34 I 20 X.A (by have:=hr.units;walk_at "o") dx dy x y v u k e hx hy rx ry).2.2
 exact this X.prog X.w X.xe _ ⟨.bl (!k),H,I,rfl,q⟩
theorem F6 {k:Nat}(hr:Room k X.A)(ha:QX X a f)(hb:QX X b g):QX X (.Compare a [.Eq] [b] pos) (fBin (oD2 (deq 20) false) f g):=a1S (b0c hr) kD2 ha hb
theorem E6 {k:Nat}(hr:Room k X.A)(ha:QX X a f)(hb:QX X b g):QT X (.Compare a [.Eq] [b] pos) (fTest (fBin (oD2 (deq 20) false) f g)):=S5 (b0c hr) kD2 ha hb
theorem a5l {k:Nat}(hr:Room k X.A)(ha:QX X a f)(hb:QX X b g):QT X (.Compare a [.NotEq] [b] pos) (fTest (fBin (oD2 (deq 20) true) f g)):=S5 (b3C hr) kD2 ha hb
end
section
variable {prog:Program}{w:World}{A:Around}{R:Result->Shared->Prop}{s:Shared}
abbrev Fa:Value->Shared->Prop:=fun _ _=>False
theorem a2Z {elt tg iter:Expr}{ifs:List Expr}{scope:Scope}{pos:Pos}{it acc:Value}{env:Env}(I:Nat->Shared->Prop)
  (turn:∀n s,I n s->wpAny (model prog w) A (pyNext it) (fun r s1=>match r with
   | none=>R (.ok .next) s1
   | some v=>wpAny (model prog w) A (letOwnedTupleGo tg it v) (fun _ s2=>wpAny (model prog w) A (assign tg env v) (fun _ s3=>
     wpAny (model prog w) A (forIn ifs true fun c r=>if r=true then do let ok <-isTrue c env (eval c env);pure (ForInStep.yield ok) else pure (ForInStep.yield r)) (fun ok s4=>
      if ok=true then wpAny (model prog w) A (eval elt env) (fun x s5=>wpAny (model prog w) A (call (.builtin "list.append") [acc,x]) (fun _ s6=>∃m,m < n/\I m s6) Fa s5) Fa s4
      else ∃m,m < n/\I m s4) Fa s3) Fa s2) Fa s1) Fa s)
  (n:Nat) (h:I n s):codeAny (model prog w) A (.compLoop (.ListComp elt [⟨tg,iter,ifs,0⟩] scope pos) 0 it acc env) R s:=by
 refine codeAny_loop rfl I (fun n s hI=>?_) n h;show wpAny _ A ((compTurn (.ListComp elt [⟨tg,iter,ifs,0⟩] scope pos) 0 it acc env).onRaise (fun x=>do noteFrame x env;theTreesLotGoes x)) _ _ s
 refine wpAny_noted ?_;rw [compTurn_list];refine zA (jG (zA (zG (turn n s hI) (fun r s1 h1=>?_) fun _ _ z=>z.elim)));cases r with
 | none=>exact zC h1
 | some v=>
  refine zA (zG h1 (fun _ s2 h2=>zA (zG h2 (fun _ s3 h3=>zA (zG h3 (fun ok s4 h4=>?_) fun _ _ z=>z.elim)) fun _ _ z=>z.elim)) fun _ _ z=>z.elim);cases ok with
  | true=>
   rw [if_pos rfl] at h4 ⊢;exact zA (zA (zG h4 (fun x s5 h5=>zA (zG h5 (fun _ s6 h6=>zC (zC ⟨rfl,h6⟩)) fun _ _ z=>z.elim)) fun _ _ z=>z.elim))
  | false=>
   rw [if_neg zQ] at h4 ⊢;exact zA (zC (zC ⟨rfl,h4⟩))
end
def blk (X:Cx) (scope:Scope) (cl:List (Str×Addr)) (s2:Shared) (H2:Hp) (fp:List Addr) (C:Addr) (N:List Str):Cx where
 prog:=X.prog
 w:=X.w
 K:=X.K
 mg:=X.mg
 base:=X.base
 A:=X.A
 N:=N
 s₀:=s2
 H₀:=H2
 env:=compEnvC scope cl C X.env
 outer:=X.stack
 stack:=X.stack
 ex:=fp
 fn:=fun _=>false
 calm:=X.calm
 pn:=[]
 xe:=fun _ _=>False
abbrev accN:Str:=" acc"
inductive Cap (X:Cx) (sc:Scope) (cl:List (Str×Addr)):List Str->List (Option Nat)->Prop where
 | nil:Cap X sc cl [] []
 | own {n:Str} {N:List Str} {js:List (Option Nat)} (t:Cap X sc cl N js):Cap X sc cl (n :: N) (none :: js)
 | cap {n:Str} {N:List Str} {j:Nat} {js:List (Option Nat)} (hj:X.N[j]? =some n) (hk:X.env.scope.names.lookup n=some .cell) (hl:sc.names.lookup n=some .cell) (hc:cl.lookup n=X.env.cells.lookup n) (t:Cap X sc cl N js):Cap X sc cl (n :: N) (some j :: js)
theorem Cap.len {X:Cx}{sc:Scope}{cl:List (Str×Addr)}{N:List Str}{js:List (Option Nat)}(h:Cap X sc cl N js):js.length=N.length:=by
 induction h with
 | nil=>rfl
 | own t ih=>simp [ih]
 | cap _ _ _ _ t ih=>simp [ih]
theorem Cap.get {X:Cx}{sc:Scope}{cl:List (Str×Addr)}{N:List Str}{js:List (Option Nat)}(h:Cap X sc cl N js):∀{i j:Nat} {n:Str},N[i]? =some n->js[i]? =some (some j)->X.N[j]? =some n/\X.env.scope.names.lookup n=some .cell/\sc.names.lookup n=some .cell/\cl.lookup n=X.env.cells.lookup n:=by
 induction h with
 | nil=>intro i j n e1 _;simp at e1
 | own t ih=>
  intro i j n e1 e2;cases i with
  | zero=>simp at e2
  | succ i=>exact ih (by simpa using e1) (by simpa using e2)
 | cap hj hk hl hc t ih=>
  intro i j n e1 e2;cases i with
  | zero=>simp at e1 e2;subst e1;subst e2;exact ⟨hj,hk,hl,hc⟩
  | succ i=>exact ih (by simpa using e1) (by simpa using e2)
def capS (js:List (Option Nat)) (σ:L2.St):L2.St:=js.map fun o=>o.bind fun j=>(σ[j]?).join
structure Blk (X:Cx) (scope:Scope) (cl:List (Str×Addr)) (N:List Str) (js:List (Option Nat)):Prop where
 clos:closureFor scope X.env=pure cl
 kind:scope.kind= .function
 cell:∀y∈scope.names,y.2≠.cell
 nms:∀y∈scope.names,y.2= .local->scope.names.lookup y.1=some .local
 cap:Cap X (relabel scope X.env) cl N js
 sub:∀y c,cl.lookup y=some c->X.env.cells.lookup y=some c
 has:∀y,((relabel scope X.env).names.lookup y=some .cell\/(relabel scope X.env).names.lookup y=some .free)->∃c,cl.lookup y=some c
 acc:∀k,(relabel scope X.env).names.lookup accN≠some k
section
variable {X:Cx}{pins:List (Addr×PySem.Obj)}{σ:L2.St}{H2:Hp}{s2 s4:Shared}{scope:Scope}{cl:List (Str×Addr)}{N:List Str}{js:List (Option Nat)}{fp:List Addr}{Dd C:Addr}{m:Str->Option Value}
theorem b4p (I:Inv X pins σ H2 s2)(b:Blk X scope cl N js)(f2:∀y∈fp,FpOk X pins H2 y)(fl:∀y∈fp,y < s2.heap.objs.size)(hC:s2.heap.objs.size<=C):(blk X scope cl s2 H2 fp C (N ++ [accN])).Ok where
 mod:=I.ok.mod
 kind:=b.kind
 glob:=I.ok.glob
 blt:=I.ok.blt
 above:=hC
 inj:=fun x y c e1 e2=>I.ok.inj x y c (b.sub x c e1) (b.sub y c e2)
 has:=fun x h=>b.has x h
 cab:=fun x c h=>nomatch h
 hd:=I.ok.hd
 frames:=I.ok.frames
 stk:=.inl rfl
 exf:=fun y hy=>⟨zN (zB (fl y hy) hC),fun x c e=>(f2 y hy).2.2.2.2.1 x c (b.sub x c e)⟩
 bs:=I.bs
 bsz:=zY I.ok.bsz I.sz
 noex:=fun y o e hy=>by
  rcases (f2 y hy).2.2.2.1 with z | z
  ·exact I.ok.noex y o e z
  ·exact absurd (zB (zV e) (zY I.ok.bsz z)) (qS _)
 exfs:=fun y hy z=>(zS.mp (I.stkSub y z)).elim (f2 y hy).2.1 (f2 y hy).2.2.1
 funs:=I.stack
 frf:=I.stkFree
theorem a6I {o0:HO}(I:Inv X pins σ H2 s2)(b:Blk X scope cl N js)(f2:∀y∈fp,FpOk X pins H2 y)(fl:∀y∈fp,y < s2.heap.objs.size)(hC:s2.heap.objs.size<=C)(hD:s2.heap.objs.size<=Dd)(ne:Dd≠C)
  (ho:s4.os=s2.os) (hg:AllBare s4.gens) (kp:∀y o,s2.heap.get? y=some o->s4.heap.get? y=some o) (hn:s4.heap.Ns C m) (hk:HOk X.prog X.w (upd H2 Dd o0) s4.heap):
  Inv (blk X scope cl s2 H2 fp C (N ++ [accN])) [] (capS js σ ++ [some (.ref Dd)]) (upd H2 Dd o0) s4:=by
 have nD:∀y o,s2.heap.get? y=some o->y≠Dd:=fun y o e=>zN (zB (zV e) hD);have nH:∀y u,H2 y=some u->y≠Dd:=fun y u e=>zN (zB (I.hok.lt e) hD);have cD:∀x c,X.env.cells.lookup x=some c->c≠Dd:=fun x c e=>by
  obtain ⟨v,o,e1,_⟩:=I.cell x c e;exact nD c o e1
 refine ⟨b4p I b f2 fl hC,ho,hg,⟨fun y o e _ _ _=>kp y o e,fun y o e _ _ _=>⟨o.slots,kp y o e⟩,fun y o e n _=>?_,fun y o e _=>⟨o,kp y o e⟩,fun y xs e=>?_,fun y o u e=>?_,fun y ps e=>?_⟩,⟨m,hn,fun i x v e1 e2 e3=>?_⟩,fun x c e=>?_,?_,fun x c e=>?_,fun p hp=>absurd (show p∈([]:List (Addr×PySem.Obj)) from hp) (by simp),hk,?_⟩
 ·rw [c7 (nD y o e)];exact n
 ·rw [c7 (nH _ _ e)];exact e
 ·rw [c7 (nH _ _ e)];exact e
 ·have e':H2 y=some (.tbl ps):=e;exact ⟨#[],by rw [c7 (nH _ _ e'),e'];simp⟩
 ·have hl:js.length=N.length:=b.cap.len
  by_cases hi:i < N.length
  ·have e1':N[i]? =some x:=by
    have z:(N ++ [accN])[i]? =some x:=e1;rw [qC hi] at z;exact z
   rw [qC (by unfold capS;simp;walk_at "o")] at e2
   unfold capS at e2;rw [qA] at e2;cases ej:js[i]? with
   | none=>rw [ej] at e2;cases e2
   | some o=>
    rw [ej] at e2;cases o with
    | none=>cases e2
    | some j=>
     obtain ⟨c1,c2,c3,c4⟩:=b.cap.get e1' ej;simp only [qZ,bind_some] at e2;have e2':σ[j]? =some (some v):=by
      cases q:σ[j]? with
      | none=>rw [q] at e2;cases e2
      | some o=>rw [q] at e2;simp at e2;rw [e2]
     obtain ⟨m2,_,hl2⟩:=I.loc;obtain ⟨u,r,lk⟩:=hl2 j x v c1 e2' (.inr (.inl c2));refine ⟨u,r,.inr ⟨.inl c3,?_⟩⟩;rcases lk with ⟨k,_⟩ | ⟨_,c,e,z⟩
     ·have k':X.env.scope.names.lookup x=some .local:=k;rw [c2] at k';cases k'
     ·exact ⟨c,c4.trans e,z.keeps kp⟩
  ·have hx:x=accN:=by
    have z:(N ++ [accN])[i]? =some x:=e1;rw [qJ (by walk_at "o")] at z
    cases q:i - N.length with
    | zero=>rw [q] at z;simp at z;exact z.symm
    | succ k=>rw [q] at z;simp at z
   subst hx;rcases e3 with z | z | z
   ·exact absurd z (b.acc _)
   ·exact absurd z (b.acc _)
   ·exact absurd z (b.acc _)
 ·obtain ⟨v,z⟩:=I.cell x c (b.sub x c e);exact ⟨v,z.keeps kp⟩
 ·show upd H2 Dd o0 C=none;rw [c7 (qO ne)];exact I.hok.fresh hC
 ·rw [c7 (cD x c (b.sub x c e))];exact I.freeC x c (b.sub x c e)
 ·show (capS js σ ++ [some (V.ref Dd)]).length=(N ++ [accN]).length;unfold capS;simp [b.cap.len]
end
def AllC (X:Cx):List (Str×Addr)->Prop
 | []=>True
 | p :: r=>X.env.cells.lookup p.1=some p.2/\AllC X r
theorem AllC.sub {X:Cx}:∀{cl:List (Str×Addr)},AllC X cl->∀y c,cl.lookup y=some c->X.env.cells.lookup y=some c
 | [],_,y,c,e=>by simp at e
 | (n,c0) :: r,h,y,c,e=>by
  rw [yK] at e;cases q:y == n with
  | true=>
   rw [q] at e;cases e
   have:y=n:=by simpa using q
   rw [this];exact h.1
  | false=>rw [q] at e;exact AllC.sub h.2 y c e
theorem N1 {α:Type}:∀{l:List (Str×α)} {y:Str} {k:α},l.lookup y=some k->(y,k)∈l
 | [],y,k,e=>by simp at e
 | (n,a) :: r,y,k,e=>by
  rw [yK] at e;cases q:y == n with
  | true=>
   rw [q] at e;cases e
   have:y=n:=by simpa using q
   rw [this];exact zH
  | false=>rw [q] at e;exact zI _ (N1 e)
section
variable {X:Cx}{scope:Scope}{cl:List (Str×Addr)}{N:List Str}{js:List (Option Nat)}
theorem A2 (cap:Cap X (relabel scope X.env) cl N js)(clos:closureFor scope X.env=pure cl)(sub:AllC X cl)(has:(relabel scope X.env).names.all (fun p=>(p.2 != .cell && p.2 != .free) || (cl.lookup p.1).isSome)=true)(kind:scope.kind= .function:=by rfl)(cell:scope.names.all (fun y=>y.2 != .cell)=true:=by decide +kernel)
  (nms:scope.names.all (fun y=>y.2 != .local || scope.names.lookup y.1 == some .local)=true:=by decide +kernel) (acc:(relabel scope X.env).names.lookup accN=none:=by rfl):Blk X scope cl N js where
 clos:=clos
 kind:=kind
 cell:=fun y hy=>by have:=jN.mp cell y hy;simpa using this
 nms:=fun y hy hl=>by have:=jN.mp nms y hy;rw [hl] at this;simpa using this
 cap:=cap
 sub:=sub.sub
 has:=fun y h=>by
  have key:∀k,(relabel scope X.env).names.lookup y=some k->k= .cell\/k= .free->∃c,cl.lookup y=some c:=fun k e hk=>by
   have:=jN.mp has (y,k) (N1 e)
   rcases hk with rfl | rfl <;> simpa [isSome_iff_exists] using this
  rcases h with h | h
  ·exact key _ h (.inl rfl)
  ·exact key _ h (.inr rfl)
 acc:=fun k e=>by rw [acc] at e;cases e
end
def capW (k:Bool):W->Option W
 | .v d=>some (.v d)
 | .o d=>some (if k then .l d else .v d)
 | .l d=>some (if k then .l d else .v d)
 | .r _=>none
def capE (lj:Option Nat) (js:List (Option Nat)) (ρ:Ev):Ev:=js.map fun o=>o.bind fun j=>((ρ[j]?).join).bind (capW (lj == some j))
def Capd (ρ:Ev) (σ:L2.St) (js:List (Option Nat)) (b:Addr):Prop:=∃(j:Nat) (w:W) (d:D),some j∈js/\ρ[j]? =some (some w)/\w.own=some d/\σ[j]? =some (some (V.ref b))
def lentL (li:Option (Nat×Nat)) (σ:L2.St):List (Option Nat×Addr):=match li with
 | some (i,j)=>match σ[j]? with
  | some (some (.ref a))=>[(some i,a)]
  | _=>[]
 | none=>[]
structure LiOk (li:Option (Nat×Nat)) (js:List (Option Nat)) (ρ:Ev):Prop where
 own:∀i j,li=some (i,j)->∃c,ownAt ρ j=some c
 at':∀i j,li=some (i,j)->js[i]? =some (some j)
 one:∀i j k,li=some (i,j)->js[k]? =some (some j)->k=i
section
variable {X:Cx}{P:List (D×V)}{O:Av}{L:List (Option Nat×Addr)}{ρ:Ev}{σ:L2.St}{H2:Hp}{s2:Shared}{scope:Scope}{cl:List (Str×Addr)}{N:List Str}{js:List (Option Nat)}{fp:List Addr}{Dd C:Addr}{li:Option (Nat×Nat)}
theorem Z6 {lj:Option Nat}{i:Nat}{w:W}(e:(capE lj js ρ)[i]? =some (some w)):∃j w0,js[i]? =some (some j)/\ρ[j]? =some (some w0)/\capW (lj == some j) w0=some w:=by
 unfold capE at e;rw [qA] at e;cases ej:js[i]? with
 | none=>rw [ej] at e;cases e
 | some o=>
  rw [ej] at e;cases o with
  | none=>cases e
  | some j=>
   simp only [qZ,bind_some] at e;cases q:ρ[j]? with
   | none=>rw [q] at e;cases e
   | some o=>
    rw [q] at e;cases o with
    | none=>cases e
    | some w0=>exact ⟨j,w0,rfl,q,qR e⟩
theorem Z0 {i j:Nat}{v:V}(ej:js[i]? =some (some j))(e:σ[j]? =some (some v)):(capS js σ)[i]? =some (some v):=by
 unfold capS;rw [qA,ej];simp only [qZ,bind_some];rw [e];rfl
theorem a10 {b:Addr}:(none,b)∉lentL li σ:=by
 unfold lentL
 split
 ·split
  ·simp
  ·simp
 ·simp
theorem M0 {i:Nat}{b:Addr}:(some i,b)∈lentL li σ↔∃j,li=some (i,j)/\σ[j]? =some (some (.ref b)):=by
 unfold lentL;cases li with
 | none=>simp
 | some p=>
  obtain ⟨i',j'⟩:=p;dsimp only;constructor
  ·intro h;split at h
   ·rename_i a q;rw [zU] at h;cases h;exact ⟨j',rfl,q⟩
   ·cases h
  ·rintro ⟨j,e,q⟩;cases e;rw [q];exact zU.mpr rfl
theorem N0 {d0:D}(r:Rep X P O L ρ σ H2)(hl:LiOk li js ρ){i:Nat}{w:W}{d:D}{v:V}(e1:(capE (li.map (·.2)) js ρ ++ [some (.l d0)])[i]? =some (some w))(e2:w.own=some d)(e3:(capS js σ ++ [some (.ref Dd)])[i]? =some (some v)):
  (i=js.length/\w= .l d0/\v= .ref Dd)\/∃j a w0,li=some (i,j)/\i < js.length/\w= .l d/\js[i]? =some (some j)/\ρ[j]? =some (some w0)/\w0.own=some d/\σ[j]? =some (some (.ref a))/\v= .ref a:=by
 have hcl:(capE (li.map (·.2)) js ρ).length=js.length:=by unfold capE;simp
 have hsl:(capS js σ).length=js.length:=by unfold capS;simp
 by_cases hi:i < js.length
 ·rw [qC (by walk_at "o")] at e1 e3
  obtain ⟨j,w0,ej,q,ew⟩:=Z6 e1;have own0:w0.own≠none/\li.map (·.2)=some j/\w= .l d/\w0.own=some d:=by
   cases w0 with
   | v c=>cases ew;cases e2
   | r c=>cases ew
   | o c=>
    simp only [capW] at ew;split at ew
    ·rename_i hk;cases ew;cases e2;exact ⟨nofun,by simpa using hk,rfl,rfl⟩
    ·cases ew;cases e2
   | l c=>
    simp only [capW] at ew;split at ew
    ·rename_i hk;cases ew;cases e2;exact ⟨nofun,by simpa using hk,rfl,rfl⟩
    ·cases ew;cases e2
  obtain ⟨_,hlj,rfl,ow⟩:=own0;obtain ⟨a,h1,h2⟩:=r.obj q ow;rw [Z0 ej h1] at e3;cases e3;cases li with
  | none=>cases hlj
  | some p=>
   obtain ⟨i',j'⟩:=p;cases hlj
   have:=hl.one i' _ i rfl ej
   subst this;exact .inr ⟨_,a,w0,rfl,hi,rfl,ej,q,ow,h1,rfl⟩
 ·have hi':i=js.length:=by
   have:=(zJ.mp e1).1
   rw [zT,hcl] at this;simp at this;walk_at "o"
  subst hi';rw [qJ (by walk_at "o"),hcl,xB] at e1
  rw [qJ (by walk_at "o"),hsl,xB] at e3
  simp only [yB,Option.some.injEq] at e1 e3;exact .inl ⟨rfl,e1.symm,e3.symm⟩
theorem a3A {d0:D}{o0:HO}(hob:∀A H,H Dd=some o0->Obj X.K A H Dd d0)(r:Rep X P O L ρ σ H2)(hl:LiOk li js ρ)(hn:H2 Dd=none):
  Rep (blk X scope cl s2 H2 fp C (N ++ [accN])) P (fun b=>AvO O ρ σ b/\¬Capd ρ σ js b) ((some js.length,Dd) :: lentL li σ) (capE (li.map (·.2)) js ρ ++ [some (.l d0)]) (capS js σ ++ [some (.ref Dd)]) (upd H2 Dd o0):=by
 have hcl:(capE (li.map (·.2)) js ρ).length=js.length:=by unfold capE;simp
 have hsl:(capS js σ).length=js.length:=by unfold capS;simp
 have acc1:(capE (li.map (·.2)) js ρ ++ [some (.l d0)])[js.length]? =some (some (.l d0)):=by rw [qJ (by walk_at "o"),hcl,xB];rfl
 have acc2:(capS js σ ++ [some (V.ref Dd)])[js.length]? =some (some (.ref Dd)):=by rw [qJ (by walk_at "o"),hsl,xB];rfl
 have lnt2:∀{i j:Nat} {a:Addr},li=some (i,j)->σ[j]? =some (some (.ref a))->∃w0 d,ρ[j]? =some (some w0)/\w0.own=some d/\(capE (li.map (·.2)) js ρ ++ [some (.l d0)])[i]? =some (some (.l d))/\(capS js σ ++ [some (V.ref Dd)])[i]? =some (some (.ref a)):=fun {i j a} e1 e2=>by
  obtain ⟨c,ec⟩:=hl.own i j e1;obtain ⟨w0,q,ow⟩:=q8 ec;have ej:=hl.at' i j e1;have hi:i < js.length:=(zJ.mp ej).1;refine ⟨w0,c,q,ow,?_,by rw [qC (by walk_at "o")];exact Z0 ej e2⟩
  rw [qC (by walk_at "o")]
  unfold capE;rw [qA,ej];simp only [qZ,bind_some,q,Option.join_some,e1,beq_self_eq_true];cases w0 with
  | o x=>cases ow;rfl
  | l x=>cases ow;rfl
  | _=>cases ow
 have av:∀b,AvO (fun b=>AvO O ρ σ b/\¬Capd ρ σ js b) (capE (li.map (·.2)) js ρ ++ [some (.l d0)]) (capS js σ ++ [some (V.ref Dd)]) b->AvO O ρ σ b\/H2 b=none:=fun b z=>by
  rcases z with z | ⟨i,w,d,e1,e2,e3⟩
  ·exact .inl z.1
  ·rcases N0 r hl e1 e2 e3 with ⟨_,_,e⟩ | ⟨j,a,w0,_,_,_,_,q,ow,qs,e⟩
   ·cases e;exact .inr hn
   ·cases e;exact .inl (.inr ⟨j,w0,d,q,ow,qs⟩)
 have g:Go (AvO O ρ σ) (AvO (fun b=>AvO O ρ σ b/\¬Capd ρ σ js b) (capE (li.map (·.2)) js ρ ++ [some (.l d0)]) (capS js σ ++ [some (V.ref Dd)])) (fun _=>False) H2 (upd H2 Dd o0):=⟨fun b o e _=>j6 hn _ b o e,fun _ z=>z.elim,av⟩;refine ⟨fun b o e _=>j6 hn _ b o e,fun b z=>⟨r.there z.1,fun i m=>?_⟩,by simp [hcl,hsl],fun i w e=>?_,fun i i' w w' d d' b e1 e2 e3 e4 e5 e6=>?_,fun i d b e=>?_,fun i d e=>?_,fun i b e=>?_,fun p hp=>p0 g _ _ (r.prot p hp),fun b m=>⟨js.length,Dd,zH⟩⟩
 ·rcases zS.mp m with m | m
  ·cases m;exact r.fresh hn z.1
  ·cases i with
   | none=>exact a10 m
   | some i=>
    obtain ⟨j,e1,e2⟩:=M0.mp m;obtain ⟨w0,d,q,ow,_⟩:=lnt2 e1 e2;exact z.2 ⟨j,w0,d,jV (hl.at' i j e1),q,ow,e2⟩
 ·by_cases hi:i < js.length
  ·have e':=e;rw [qC (by walk_at "o")] at e'
   obtain ⟨j,w0,ej,q,ew⟩:=Z6 e';obtain ⟨v,h1,h2⟩:=r.slot j w0 q;refine ⟨v,by rw [qC (by walk_at "o")];exact Z0 ej h1,?_⟩
   cases w0 with
   | v c=>cases ew;exact p0 g _ _ h2
   | r c=>cases ew
   | o c=>
    simp only [capW] at ew;obtain ⟨a,rfl,ob⟩:=h2;have hk:upd H2 Dd o0 a=H2 a:=c7 fun z=>by obtain ⟨u,eu,_⟩:=C2 ob;rw [z,hn] at eu;cases eu
    split at ew
    ·cases ew;exact ⟨a,rfl,q5 g hk ob⟩
    ·rename_i nk;cases ew;refine Y6 (q5 g hk ob) fun z=>?_;rcases z with z | ⟨i2,w2,d2,e1,e2,e3⟩
     ·exact z.2 ⟨j,_,c,jV ej,q,rfl,h1⟩
     ·rcases N0 r hl e1 e2 e3 with ⟨_,_,e⟩ | ⟨j2,a2,w0,l2,_,_,ej2,q2,ow2,qs2,e⟩
      ·cases e;obtain ⟨u,eu,_⟩:=C2 ob;rw [hn] at eu;cases eu
      ·cases e
       have:=r.inj j j2 _ w0 c d2 a q rfl h1 q2 ow2 qs2
       subst this;rw [l2] at nk;simp at nk
   | l c=>
    simp only [capW] at ew;obtain ⟨a,rfl,ob⟩:=h2;have hk:upd H2 Dd o0 a=H2 a:=c7 fun z=>by obtain ⟨u,eu,_⟩:=C2 ob;rw [z,hn] at eu;cases eu
    split at ew
    ·cases ew;exact ⟨a,rfl,q5 g hk ob⟩
    ·rename_i nk;cases ew;refine Y6 (q5 g hk ob) fun z=>?_;rcases z with z | ⟨i2,w2,d2,e1,e2,e3⟩
     ·exact z.2 ⟨j,_,c,jV ej,q,rfl,h1⟩
     ·rcases N0 r hl e1 e2 e3 with ⟨_,_,e⟩ | ⟨j2,a2,w0,l2,_,_,ej2,q2,ow2,qs2,e⟩
      ·cases e;obtain ⟨u,eu,_⟩:=C2 ob;rw [hn] at eu;cases eu
      ·cases e
       have:=r.inj j j2 _ w0 c d2 a q rfl h1 q2 ow2 qs2
       subst this;rw [l2] at nk;simp at nk
  ·have hi':i=js.length:=by
    have:=(zJ.mp e).1
    rw [zT,hcl] at this;simp at this;walk_at "o"
   subst hi';rw [acc1] at e;cases e;exact ⟨.ref Dd,acc2,Dd,rfl,hob _ _ m7⟩
 ·rcases N0 r hl e1 e2 e3 with ⟨rfl,_,e⟩ | ⟨j,a,w0,l1,_,_,_,q,ow,qs,e⟩
  ·cases e;rcases N0 r hl e4 e5 e6 with ⟨rfl,_,_⟩ | ⟨j,a,w0,l1,_,_,_,q,ow,qs,e⟩
   ·rfl
   ·cases e;obtain ⟨u,eu,_⟩:=r.owMu ⟨j,w0,d',q,ow,qs⟩;rw [hn] at eu;cases eu
  ·cases e;rcases N0 r hl e4 e5 e6 with ⟨rfl,_,e⟩ | ⟨j',a',w0',l1',_,_,_,q',ow',qs',e⟩
   ·cases e;obtain ⟨u,eu,_⟩:=r.owMu ⟨j,w0,d,q,ow,qs⟩;rw [hn] at eu;cases eu
   ·rw [l1] at l1';cases l1';rfl
 ·by_cases hi:i < js.length
  ·rw [qC (by walk_at "o")] at e
   obtain ⟨j,w0,ej,q,ew⟩:=Z6 e;cases w0 <;> simp only [capW] at ew <;> first | cases ew | (split at ew <;> cases ew)
  ·rw [qJ (by walk_at "o")] at e
   cases q:i - (capE (li.map (·.2)) js ρ).length with
   | zero=>rw [q] at e;cases e
   | succ n=>rw [q] at e;simp at e
 ·by_cases hi:i < js.length
  ·have e':=e;rw [qC (by walk_at "o")] at e'
   obtain ⟨j,w0,ej,q,ew⟩:=Z6 e';obtain ⟨v,h1,h2⟩:=r.slot j w0 q;have e3:(capS js σ ++ [some (V.ref Dd)])[i]? =some (some v):=by rw [qC (by walk_at "o")];exact Z0 ej h1
   rcases N0 r hl e rfl e3 with ⟨rfl,_⟩ | ⟨j,a,w0,l1,_,_,_,q,ow,qs,rfl⟩
   ·walk_at "o"
   ·exact ⟨a,e3,zI _ (M0.mpr ⟨j,l1,qs⟩)⟩
  ·have hi':i=js.length:=by
    have:=(zJ.mp e).1
    rw [zT,hcl] at this;simp at this;walk_at "o"
   subst hi';exact ⟨Dd,acc2,zH⟩
 ·rcases zS.mp e with e | e
  ·cases e;exact ⟨_,acc1,acc2⟩
  ·obtain ⟨j,e1,e2⟩:=M0.mp e;obtain ⟨w0,d,_,_,q1,q2⟩:=lnt2 e1 e2;exact ⟨d,q1,q2⟩
end
structure Tst (Y:Cx) (ifs:List Expr) (t:FT):Prop where
 to:∀(pins:List (Addr×PySem.Obj)) (s:Shared) (σ:L2.St) (H:Hp) (P:List (D×V)) (O:Av) (L:List (Option Nat×Addr)) (ρ ρ':Ev) (k:Bool) (Q:Bool->Hp->Prop),Inv Y pins σ H s->Rep Y P O L ρ σ H->t ρ=some (k,ρ')->(∀H',Rep Y P O L ρ' σ H'->Q k H')->
  wpAny (model Y.prog Y.w) Y.A (forIn ifs true fun c r=>if r=true then do let ok <-isTrue c Y.env (eval c Y.env);pure (ForInStep.yield ok) else pure (ForInStep.yield r)) (TP Y pins σ Q) Fa s
theorem w5 {Y:Cx}:Tst Y [] (fun ρ=>some (true,ρ)):=⟨fun pins s σ H P O L ρ ρ' k Q I r e q=>by cases e;exact wpAny_tests_nil ⟨H,I,q H r⟩⟩
theorem a7i {Y:Cx}{c:Expr}{t:FT}(hx:Y.xe=Fa)(h:QT Y c t):Tst Y [c] t:=⟨fun pins s σ H P O L ρ ρ' k Q I r e q=>by
 have z:=h.to pins s σ H Q I ⟨P,O,L,ρ,k,ρ',r,e,q⟩;rw [hx] at z
 exact wpAny_tests_one z⟩
def WksB (li:Option (Nat×Nat)) (K:PySem.W.Frag) (P:List (D×V)) (O:Av) (ρ:Ev) (σ:L2.St) (H:Hp) (xs:List D) (J:It):Prop:=∀(Y:Cx) (O':Av) (L:List (Option Nat×Addr)) (ρ':Ev) (σ':L2.St) (H':Hp),Y.K=K->Y.H₀=H->Rep Y P O' L ρ' σ' H'->(∀b,O' b->AvO O ρ σ b)->(li=none->∀i b,(i,b)∈L->H b=none)->
 (∀(i:Nat) (x:D),xs[i]? =some x->J.go i H'/\∀v H'',J.yld i H' v H''->Same H' H''/\Den K (AvO O' ρ' σ') H'' x v)/\J.stop xs.length H'
def tIB (X:Cx) (li:Option (Nat×Nat)) (fi:FI):TI:=fun σ H R=>∃P O L ρ xs ρ',Rep X P O L ρ σ H/\fi ρ=some (xs,ρ')/\∀J H1 P',Rep X P' O L ρ' σ H1->Holds P' P->WksB li X.K P' O ρ' σ H1 xs J->R J H1
theorem tIBe {X:Cx}{li:Option (Nat×Nat)}{fi:FI}{σ:L2.St}{H:Hp}{R:It->Hp->Prop}{C:Prop}(h:tIB X li fi σ H R)(k:∀P O L ρ xs ρ',Rep X P O L ρ σ H->fi ρ=some (xs,ρ')->(∀J H1 P',Rep X P' O L ρ' σ H1->Holds P' P->WksB li X.K P' O ρ' σ H1 xs J->R J H1)->C):C:=by
 obtain ⟨P,O,L,ρ,w,ρ',r,e,q⟩:=h;exact k P O L ρ w ρ' r e q
structure QIB (X:Cx) (li:Option (Nat×Nat)) (tg iter:Expr) (fi:FI):Prop where
 to:PI X tg iter (tIB X li fi)
theorem Wks.b {li:Option (Nat×Nat)}{K:PySem.W.Frag}{P:List (D×V)}{O:Av}{ρ:Ev}{σ:L2.St}{H:Hp}{xs:List D}{J:It}(w:Wks K P xs J):WksB li K P O ρ σ H xs J:=fun Y O' L ρ' σ' H' hY _ r _ _=>w Y O' L ρ' σ' H' hY r
theorem X0 {X:Cx}{li:Option (Nat×Nat)}{tg iter:Expr}{fi:FI}(h:QI X tg iter fi):QIB X li tg iter fi:=⟨PI.weak h.to fun σ H R h0=>tIBe h0 fun P O L ρ xs ρ' r e q=>⟨P,O,L,ρ,xs,ρ',r,e,fun J H1 P' r1 hh w=>q J H1 P' r1 hh w.b⟩⟩
def fiName (i:Nat):FI:=fun ρ=>match ρ[i]? with
 | some (some (.v d))=>(items d).map fun xs=>(xs,ρ)
 | some (some (.r _))=>none
 | some (some w)=>match w.own with
  | some (.lst xs)=>some (xs,ρ)
  | _=>none
 | _=>none
theorem b4z {Y:Cx}{P:List (D×V)}{O O':Av}{L:List (Option Nat×Addr)}{ρ ρ':Ev}{σ σ':L2.St}{H H':Hp}(hH:Y.H₀=H)(r:Rep Y P O' L ρ' σ' H')(ho:∀b,O' b->AvO O ρ σ b)(hn:∀i b,(i,b)∈L->H b=none):Go (AvO O ρ σ) (AvO O' ρ' σ') (fun _=>False) H H' where
 k:=fun b o e _=>r.same b o (by rw [hH];exact e) fun i m=>by rw [hn i b m] at e;cases e
 m:=fun _ z=>z.elim
 n:=fun b z=>by
  rcases z with z | ⟨i,w,d,e1,e2,e3⟩
  ·exact .inl (ho b z)
  ·cases w with
   | o c=>
    have z:=r.new i c b e1 e3;unfold hz at z;split at z
    ·rename_i m;exact .inr (hn none b m)
    ·exact .inr (by rw [<-hH];exact z)
   | l c=>obtain ⟨b',q1,q2⟩:=r.lnt i c e1;rw [e3] at q1;cases q1;exact .inr (hn (some i) b q2)
   | _=>cases e2
theorem B9 {X:Cx}{tg:Expr}{pos:Pos}(i:Nat){x:Str}(hN:X.N[i]? =some x:=by rfl)(hv:Vis X.env.scope x:=by first | exact Or.inl rfl | exact Or.inr (Or.inl rfl) | exact Or.inr (Or.inr rfl))(hd:(x == ("__debug__":Str))=false:=by decide)(hcd:(x == ("__classdict__":Str))=false:=by decide):QIB X none tg (.Name x pos) (fiName i):=⟨PI.weak (b0O (a3s hN hv hd hcd)) fun σ H R h0=>tIBe h0 fun P O L ρ xs ρ' r e q=>by
 unfold fiName at e;split at e
 ·rename_i d0 e0;obtain ⟨v,h1,h2⟩:=r.slot i _ e0;have h2:Den X.K (AvO O ρ σ) H d0 v:=h2;obtain ⟨ys,e3,e⟩:=oms e;cases e;have r3:=r.more (p:=(d0,v)) h2;have hh:Holds ((d0,v) :: P) P:=fun p hp=>zI _ hp;refine ⟨v,h1,?_⟩;cases d0 with
  | tup zs=>
   cases e3;have z:=h2;rw [Den] at z;obtain ⟨a,vs,rfl,hq,l⟩:=z;refine .inr ⟨a,rfl,⟨vs,hq⟩,q _ H _ r3 hh (Wks.b fun Y O' L' ρ' σ' Hh hY rr=>?_)⟩;have z:=rr.head;rw [hY] at z;rw [Den] at z;obtain ⟨a',vs,ea,hq,l⟩:=z;cases ea;refine ⟨fun i x ex=>?_,vs,hq,by rw [<-b6 l];exact zE _⟩
   obtain ⟨v0,hv,dv⟩:=z6 l ex;exact ⟨⟨vs,v0,hq,hv⟩,fun w H' ⟨y1,y2⟩=>by subst y1;have:=y2 vs hq;rw [hv] at this;cases this;exact ⟨Same.refl _,dv⟩⟩
  | lst zs=>
   cases e3;obtain ⟨a,vs,rfl,hq,l⟩:=E7 h2;refine .inl ⟨a,rfl,⟨vs,hq⟩,q _ H _ r3 hh (Wks.b fun Y O' L' ρ' σ' Hh hY rr=>?_)⟩;have z:=rr.head;rw [hY] at z;obtain ⟨a',vs,ea,hq,l⟩:=E7 z;cases ea;refine ⟨fun i x ex=>?_,vs,hq,by rw [<-b6 l];exact zE _⟩
   obtain ⟨v0,hv,dv⟩:=z6 l ex;exact ⟨⟨vs,v0,hq,hv⟩,fun w H' ⟨y1,y2⟩=>by subst y1;have:=y2 vs hq;rw [hv] at this;cases this;exact ⟨Same.refl _,dv⟩⟩
  | _=>cases e3
 ·cases e
 ·rename_i w0 _ _ e0;cases ew:w0.own with
  | none=>rw [ew] at e;cases e
  | some c=>
   rw [ew] at e;cases c with
   | lst zs=>
    cases e;obtain ⟨a,h1,h2⟩:=r.obj e0 ew;refine ⟨.ref a,h1,?_⟩;obtain ⟨vs,h4,lz⟩:=h2;refine .inl ⟨a,rfl,⟨vs,.inl (.inl h4)⟩,q _ H P r (fun p hp=>hp) fun Y O' L' ρ2 σ2 Hh hY hH rr ho hn=>?_⟩;have g:=b4z hH rr ho (hn rfl);have l2:=t5 g _ _ lz;have h5:Hh a=some (.lst vs):=g.k a _ h4 id;have hq:SqL X.K Hh a vs:=.inl (.inl h5);refine ⟨fun i x ex=>?_,vs,hq,by rw [<-b6 lz];exact zE _⟩
    obtain ⟨v0,hv,dv⟩:=z6 l2 ex;exact ⟨⟨vs,v0,hq,hv⟩,fun w H' ⟨y1,y2⟩=>by subst y1;have:=y2 vs hq;rw [hv] at this;cases this;exact ⟨Same.refl _,dv⟩⟩
   | _=>cases e
 ·cases e⟩
def appTo (k:Nat) (p:W×Ev):Option Ev:=(takeAll p.2 [p.1.fz]).bind fun q=>match q.1,ownAt q.2 k with
 | [d],some (.lst zs)=>if zs.length < lim then some (setOwn q.2 k (.lst (zs ++ [d]))) else none
 | _,_=>none
def turnC (k:Nat) (gf:FG) (t:FT) (fe:FX):D->Ev->Option Ev:=fun x ρ=>(gf x ρ).bind fun ρ1=>(t ρ1).bind fun p=>if p.1=true then (fe p.2).bind (appTo k) else some p.2
def loopC (st:D->Ev->Option Ev):List D->Ev->Option Ev
 | [],ρ=>some ρ
 | x :: xs,ρ=>(st x ρ).bind (loopC st xs)
section
variable {X:Cx}{pins:List (Addr×PySem.Obj)}{σ:L2.St}{H2:Hp}{s2:Shared}{scope:Scope}{cl:List (Str×Addr)}{N:List Str}{js:List (Option Nat)}{fp:List Addr}{it:Addr}{tn:Nat->Heap->Prop}{J:It}{elt tg iter:Expr}{ifs:List Expr}{pos:Pos}{P:List (D×V)}{O:Av}{L:List (Option Nat×Addr)}{ρ ρe:Ev}{xs:List D}{gf:FG}{t:FT}{fe:FX}{Qq:Value->Shared->Prop}{use:Option (Value->Sem Unit)}{li:Option (Nat×Nat)}
def turnG (gf:FG) (t:FT) (stp:Ev->Option Ev):D->Ev->Option Ev:=fun x ρ=>(gf x ρ).bind fun ρ1=>(t ρ1).bind fun p=>if p.1=true then stp p.2 else some p.2
theorem a3c {new:Sem Value}{ce:Expr}{ob0:PySem.Obj}{o0:HO}{d0:D}{stp:Ev->Option Ev}{el:Env->Addr->Shared->(Shared->Prop)->Prop}
  (hnew:∀{Q:Value->Shared->Prop},Q (.ref s2.heap.objs.size) {s2 with heap:=s2.heap.push ob0}->wpAny (model X.prog X.w) X.A new Q X.xe s2) (hob:∀A H a,H a=some o0->Obj X.K A H a d0) (hok:HOk X.prog X.w (upd H2 s2.heap.objs.size o0) (s2.heap.push ob0))
  (hloop:∀{Dd:Addr} {env:Env} {R:Result->Shared->Prop} {s:Shared} (I:Nat->Shared->Prop),(∀n s,I n s->wpAny (model X.prog X.w) X.A (pyNext (.ref it)) (fun r s1=>match r with
   | none=>R (.ok .next) s1
   | some v=>wpAny (model X.prog X.w) X.A (letOwnedTupleGo tg (.ref it) v) (fun _ s2=>wpAny (model X.prog X.w) X.A (assign tg env v) (fun _ s3=>
     wpAny (model X.prog X.w) X.A (forIn ifs true fun c r=>if r=true then do let ok <-isTrue c env (eval c env);pure (ForInStep.yield ok) else pure (ForInStep.yield r)) (fun ok s4=>
      if ok=true then el env Dd s4 (fun s6=>∃m,m < n/\I m s6) else ∃m,m < n/\I m s4) Fa s3) Fa s2) Fa s1) Fa s)->∀n,I n s->codeAny (model X.prog X.w) X.A (.compLoop ce 0 (.ref it) (.ref Dd) env) R s)
  (hstart:∀{acc:Value} {env:Env} {R:Result->Shared->Prop} {s:Shared},codeAny (model X.prog X.w) X.A (.compLoop ce 0 (.ref it) acc env) R s->wpAny (model X.prog X.w) X.A (pyIter (.ref it)) (fun it' s'=>codeAny (model X.prog X.w) X.A (.compLoop ce 0 it' acc env) R s') (notedBy (model X.prog X.w) X.A env fun x s'=>R (.error x) s') s->codeAny (model X.prog X.w) X.A (.compStart ce 0 (.ref it) acc env) R s)
  (hE:∀{C Dd:Addr} {qs:List (Addr×PySem.Obj)} {σ6:L2.St} {H7:Hp} {s7:Shared} {O':Av} {L':List (Option Nat×Addr)} {ρ2 ρt:Ev} {K:Shared->Prop},(some js.length,Dd)∈L'->Inv (blk X scope cl s2 H2 fp C (N ++ [accN])) qs σ6 H7 s7->Rep (blk X scope cl s2 H2 fp C (N ++ [accN])) P O' L' ρ2 σ6 H7->stp ρ2=some ρt->(∀{s8 H8},Inv (blk X scope cl s2 H2 fp C (N ++ [accN])) qs σ6 H8 s8->Rep (blk X scope cl s2 H2 fp C (N ++ [accN])) P O' L' ρt σ6 H8->K s8)->el (compEnvC scope cl C X.env) Dd s7 K)
  (hcalm:X.calm=true) (I2:Inv X pins σ H2 s2) (T:Turn X.prog X.w X.K tg J fp it tn) (st2:tn 0 s2.heap) (f2:∀y∈fp,FpOk X pins H2 y) (b:Blk X scope cl N js) (r:Rep X P O L ρ σ H2) (hl:LiOk li js ρ) (wk:WksB li X.K P O ρ σ H2 xs J)
  (hg:∀C,QG (blk X scope cl s2 H2 fp C (N ++ [accN])) tg gf) (ht:∀C,Tst (blk X scope cl s2 H2 fp C (N ++ [accN])) ifs t)
  (e:loopC (turnG gf t stp) xs (capE (li.map (·.2)) js ρ ++ [some (.l d0)])=some ρe)
  (fin:∀(Dd C:Addr) (σe:L2.St) (He:Hp) (s1:Shared),H2 Dd=none->s2.heap.objs.size<=C->Inv (blk X scope cl s2 H2 fp C (N ++ [accN])) [] σe He s1->Rep (blk X scope cl s2 H2 fp C (N ++ [accN])) P (fun b=>AvO O ρ σ b/\¬Capd ρ σ js b) ((some js.length,Dd) :: lentL li σ) ρe σe He->
   compPost (model X.prog X.w) X.A X.xe use Qq (.ref Dd) C (.ok .next) s1):
  wpAny (model X.prog X.w) X.A new (fun acc s3=>wpAny (model X.prog X.w) X.A (newFunctionEnv scope X.env.globals cl [] X.env.qual none .none (some X.env)) (fun cenv s4=>
   codeAny (model X.prog X.w) X.A (.compStart ce 0 (.ref it) acc {cenv with scope:=relabel scope X.env}) (compPost (model X.prog X.w) X.A X.xe use Qq acc cenv.locals) s4) X.xe s3) X.xe s2:=by
 have fl:∀y∈fp,y < s2.heap.objs.size:=fun y hy=>by obtain ⟨o,eo,_⟩:=T.obj _ _ st2 y hy;exact zV eo
 refine hnew (wpAny_newFunctionEnv b.cell (by intro y hy;simp at hy) (fun h' hns hsb=>?_) b.kind)
 dsimp only at hns hsb ⊢;generalize hH:s2.heap.push ob0=H3 at hok hns hsb ⊢;have hC:H3.objs.size=s2.heap.objs.size + 1:=by rw [<-hH,size_push]
 have ne:s2.heap.objs.size≠H3.objs.size:=by rw [hC];exact zN (xU _)
 have leC:s2.heap.objs.size<=H3.objs.size:=by rw [hC];exact Nat.le_succ _
 have kp3:∀y o,s2.heap.get? y=some o->H3.get? y=some o:=fun y o e=>hH▸zF _ e;have kp4:∀y o,H3.get? y=some o->h'.get? y=some o:=fun y o e=>hsb.extBut y o (zN (zV e)) (zF _ e);have hDn:H2 s2.heap.objs.size=none:=I2.hok.fresh (zE _);have I4:=a6I (s4:={s2 with heap:=h',toks:=s2.toks + ([]:List (Str×Value)).length}) (Dd:=s2.heap.objs.size) (C:=H3.objs.size) I2 b f2 fl leC (zE _) ne rfl I2.bare (fun y o e=>kp4 y o (kp3 y o e)) hns (hok.kept kp4)
 have R4:=a3A (d0:=d0) (o0:=o0) (fun A H=>hob A H _) (scope:=scope) (cl:=cl) (N:=N) (s2:=s2) (fp:=fp) (C:=H3.objs.size) (Dd:=s2.heap.objs.size) r hl hDn;have hfree:∀{H':Hp},(∀y∈fp,H' y=none)->∀y∈fp,FpOk (blk X scope cl s2 H2 fp H3.objs.size (N ++ [accN])) [] H' y:=fun hn y hy=>
  ⟨hn y hy,zN (zB (fl y hy) leC),fun z=>(zS.mp (I2.stkSub y z)).elim (f2 y hy).2.1 (f2 y hy).2.2.1,.inl hy,fun x c ec=>(f2 y hy).2.2.2.2.1 x c (b.sub x c ec),fun p hp=>absurd (show p∈([]:List (Addr×PySem.Obj)) from hp) (by simp)⟩
 obtain ⟨gg,pg,kg⟩:=(hg H3.objs.size).to;have loop:∀s5:Shared,s5={s2 with heap:=h',toks:=s2.toks + ([]:List (Str×Value)).length}->
   codeAny (model X.prog X.w) X.A (.compLoop ce 0 (.ref it) (.ref s2.heap.objs.size) (compEnvC scope cl H3.objs.size X.env))
    (compPost (model X.prog X.w) X.A X.xe use Qq (.ref s2.heap.objs.size) H3.objs.size) s5:=by
  rintro s5 rfl
  let Y:=blk X scope cl s2 H2 fp H3.objs.size (N ++ [accN])
  let O':Av:=fun b=>AvO O ρ σ b/\¬Capd ρ σ js b
  let L':=(some js.length,s2.heap.objs.size) :: lentL li σ
  refine hloop (fun n s=>∃i σ' H' ρ',n=xs.length - i/\i<=xs.length/\Inv Y [] σ' H' s/\tn i s.heap/\(∀y∈fp,H' y=none)/\Rep Y P O' L' ρ' σ' H'/\loopC (turnG gf t stp) (xs.drop i) ρ'=some ρe) ?_ xs.length
   ⟨0,_,_,_,by simp,jK _,I4,T.keep 0 _ _ st2 fun y hy o eo=>kp4 y o (kp3 y o eo),fun y hy=>by rw [c7 (zN (fl y hy))];exact (f2 y hy).1,R4,by simpa using e⟩
  rintro n s ⟨i,σ',H',ρ',rfl,hi,I,st,fr,rp,el⟩;obtain ⟨wi,ws⟩:=wk Y O' L' ρ' σ' H' rfl rfl rp (fun b z=>z.1) (fun z i b m=>by subst z;exact (zS.mp m).elim (fun m=>by cases m;exact hDn) (fun m=>by cases m))
  by_cases hlt:i < xs.length
  ·obtain ⟨go,yl⟩:=wi i xs[i] (by simp [hlt])
   refine zG (T.item Y rfl rfl rfl hcalm i [] s σ' H' Fa I (hfree fr) st go) (fun r s1 ⟨u,hr,h1⟩=>?_) fun _ _ z=>z;subst hr;refine zG h1 (fun _ s3 ⟨x,H5,I5,r5,y5,st5,fr5⟩=>?_) fun _ _ z=>z;obtain ⟨sm5,dx⟩:=yl x H5 y5
   replace rp:=rp.grow sm5
   rw [jY hlt,loopC] at el;cases e1:turnG gf t stp xs[i] ρ' with
   | none=>rw [e1] at el;cases el
   | some ρt=>
    rw [e1] at el;simp only [bind_some] at el;unfold turnG at e1;cases e2:gf xs[i] ρ' with
    | none=>rw [e2] at e1;cases e1
    | some ρ1=>
     rw [e2] at e1;simp only [bind_some] at e1;obtain ⟨⟨k,ρ2⟩,e3,e1⟩:=obs e1;dsimp only at e1;have I5':=I5.pinned (hfree fr5) (T.obj _ _ st5);have gq:=kg P O' L' xs[i] x ρ' ρ1 σ' H5 (fun σ2 Hh=>Rep Y P O' L' ρ1 σ2 Hh) rp dx e2 (fun σ2 H2' rp2=>rp2);refine zG (pg _ s3 σ' H5 x u _ I5' r5 gq) (fun _ s6 ⟨σ6,H6,I6,rp6⟩=>?_) fun _ _ z=>z;have back:∀{s7:Shared} {H7:Hp} {ρ7:Ev},Inv Y ([] ++ pinsAt fp s3.heap) σ6 H7 s7->Rep Y P O' L' ρ7 σ6 H7->loopC (turnG gf t stp) (xs.drop (i + 1)) ρ7=some ρe->
       ∃m,m < xs.length - i/\∃i σ' H' ρ',m=xs.length - i/\i<=xs.length/\Inv Y [] σ' H' s7/\tn i s7.heap/\(∀y∈fp,H' y=none)/\Rep Y P O' L' ρ' σ' H'/\loopC (turnG gf t stp) (xs.drop i) ρ'=some ρe:=fun {s7 H7 ρ7} I7 rp7 e7=>by
      refine ⟨xs.length - (i + 1),by walk_at "o",i + 1,σ6,H7,ρ7,rfl,hlt,I7.unpinned,T.keep _ _ _ st5 fun y hy o eo=>(I7.pin (y,o) (zP _ (zP _ (t8 hy eo)))).1,fun y hy=>?_,rp7,e7⟩
      obtain ⟨o,eo,_⟩:=T.obj _ _ st5 y hy;exact (I7.pin (y,o) (zP _ (zP _ (t8 hy eo)))).2.1
     refine zG ((ht H3.objs.size).to _ s6 σ6 H6 P O' L' ρ1 ρ2 k (fun k' Hh=>k'=k/\Rep Y P O' L' ρ2 σ6 Hh) I6 rp6 e3 (fun H' rr=>⟨rfl,rr⟩)) (fun ok s7 ⟨H7,I7,hk,rp7⟩=>?_) fun _ _ z=>z;subst hk;cases ok with
     | false=>
      rw [if_neg zQ] at e1 ⊢;cases e1;exact back I7 rp7 el
     | true=>
      rw [if_pos rfl] at e1 ⊢;exact hE zH I7 rp7 e1 fun I8 rp8=>back I8 rp8 el
  ·have hie:i=xs.length:=by walk_at "o"
   subst hie;refine zG (T.done Y rfl rfl rfl hcalm _ [] s σ' H' Fa I (hfree fr) st ws) (fun r s1 ⟨hr,I1⟩=>?_) fun _ _ z=>z;subst hr;rw [yN (zE _),loopC] at el;cases el;exact fin _ _ σ' H' s1 hDn leC I1 rp
 exact hstart (loop _ rfl) (T.self _ 0 _ _ _ (T.keep 0 _ _ st2 fun y hy o eo=>kp4 y o (kp3 y o eo)) (loop _ rfl))
theorem a91 (hcalm:X.calm=true)(I2:Inv X pins σ H2 s2)(T:Turn X.prog X.w X.K tg J fp it tn)(st2:tn 0 s2.heap)(f2:∀y∈fp,FpOk X pins H2 y)(b:Blk X scope cl N js)(r:Rep X P O L ρ σ H2)(hl:LiOk li js ρ)(wk:WksB li X.K P O ρ σ H2 xs J)
  (hg:∀C,QG (blk X scope cl s2 H2 fp C (N ++ [accN])) tg gf) (ht:∀C,Tst (blk X scope cl s2 H2 fp C (N ++ [accN])) ifs t) (he:∀C,QX (blk X scope cl s2 H2 fp C (N ++ [accN])) elt fe)
  (e:loopC (turnC js.length gf t fe) xs (capE (li.map (·.2)) js ρ ++ [some (.l (.lst []))])=some ρe)
  (fin:∀(Dd C:Addr) (σe:L2.St) (He:Hp) (s1:Shared),H2 Dd=none->s2.heap.objs.size<=C->Inv (blk X scope cl s2 H2 fp C (N ++ [accN])) [] σe He s1->Rep (blk X scope cl s2 H2 fp C (N ++ [accN])) P (fun b=>AvO O ρ σ b/\¬Capd ρ σ js b) ((some js.length,Dd) :: lentL li σ) ρe σe He->
   compPost (model X.prog X.w) X.A X.xe use Qq (.ref Dd) C (.ok .next) s1):
  wpAny (model X.prog X.w) X.A (newList []) (fun acc s3=>wpAny (model X.prog X.w) X.A (newFunctionEnv scope X.env.globals cl [] X.env.qual none .none (some X.env)) (fun cenv s4=>
   codeAny (model X.prog X.w) X.A (.compStart (.ListComp elt [⟨tg,iter,ifs,0⟩] scope pos) 0 (.ref it) acc {cenv with scope:=relabel scope X.env}) (compPost (model X.prog X.w) X.A X.xe use Qq acc cenv.locals) s4) X.xe s3) X.xe s2:=
 a3c (new:=newList []) (ob0:={cls:=.type "list",dict:=none,data:=.seq ([]:List Value).toArray}) (o0:=.lst []) (d0:=.lst []) (stp:=fun ρ=>(fe ρ).bind (appTo js.length)) (el:=fun env a s K=>wpAny (model X.prog X.w) X.A (eval elt env) (fun x s5=>wpAny (model X.prog X.w) X.A (call (.builtin "list.append") [.ref a,x]) (fun _ s6=>K s6) Fa s5) Fa s)
  (fun h=>qH h) (fun _ _ _ e=>⟨[],e,i0⟩) (I2.hok.laid (fun y o e=>zF _ e) (zE _) ⟨jK _,[],0,.nil,qB _ rfl⟩) (fun I t n h=>a2Z I t n h) codeAny_compStart_list
  (fun {C Dd qs σ6 H7 s7 O' L' ρ2 ρt K} hL I7 rp7 e1 back=>by
   obtain ⟨⟨w,ρ3⟩,e4,e1⟩:=obs e1;simp only [appTo] at e1;obtain ⟨⟨ds,ρ4⟩,e5,e1⟩:=obs e1;dsimp only at e1;split at e1
   ·rename_i d zs e6;split at e1
    ·rename_i hl;cases e1;refine zG ((he C).to _ s7 σ6 H7 (fun v H8=>Rep (blk X scope cl s2 H2 fp C (N ++ [accN])) P O' L' ρ4 σ6 H8/\Den X.K (AvO O' ρ4 σ6) H8 d v) I7 ⟨P,O',L',ρ2,w,ρ3,rp7,e4,fun v H8 H8' r8 s8 d8=>?_⟩) (fun u8 s8 ⟨v8,H8,I8,r8,rp8,d8⟩=>?_) fun _ _ z=>z
     ·obtain ⟨r9,l9,_⟩:=k8 (vs:=[v]) (r8.grow s8) e5 ⟨v,[],rfl,d8.fz r8 s8,rfl⟩;obtain ⟨v',ev,h'⟩:=denL1 l9;cases ev;exact ⟨r9,h'⟩
     ·obtain ⟨d0,q1,q2⟩:=rp8.lnd js.length Dd hL;have e6':=e6;unfold ownAt at e6';rw [q1] at e6';cases e6';obtain ⟨a,h1,vs,h4,lz⟩:=rp8.obj q1 rfl;rw [q2] at h1;cases h1;have h9:=U1 _ s8 σ6 H8 (.ref Dd) [v8] (.ref Dd) [u8] (fun v H9=>H9=upd H8 Dd (.lst (vs ++ [v8]))) I8 rfl (.cons r8 .nil) ⟨_,vs,v8,rfl,rfl,h4,by rw [<-b6 lz];exact zB hl t3,rfl⟩
      refine zG h9 (fun _ s9 ⟨v9,H9,I9,_,e9⟩=>?_) fun _ _ z=>z;subst e9;have g0:Go (AvO O' ρ4 σ6) (AvO O' ρ4 σ6) (fun b=>b=Dd) H8 (upd H8 Dd (.lst (vs ++ [v8]))):=⟨fun b o eb nb=>by rw [c7 nb];exact eb,fun b z=>by rw [z];exact ⟨.inr ⟨js.length,_,_,q1,rfl,q2⟩,_,h4,trivial⟩,fun b z=>.inl z⟩
      exact back I9 (rp8.mut (d:=.lst (zs ++ [d])) e6 q2 (fun b o eb nb=>by rw [c7 nb];exact eb) ⟨_,m7,t5 g0 _ _ (l7 lz (g9 d8 i0))⟩)
    ·cases e1
   ·cases e1) hcalm I2 T st2 f2 b r hl wk hg ht e fin
theorem a2f {C:Addr}{σe:L2.St}{He:Hp}{s1:Shared}{h9:Heap}(I2:Inv X pins σ H2 s2)(f2:∀y∈fp,FpOk X pins H2 y)(leC:s2.heap.objs.size<=C)(I1:Inv (blk X scope cl s2 H2 fp C (N ++ [accN])) [] σe He s1)(hs9:∀y,y≠C->h9.get? y=s1.heap.get? y):
  Inv X pins σ He {s1 with heap:=h9}:=by
 have neC:∀y,He y≠none->y≠C:=fun y z w=>z (by rw [w];exact I1.free)
 have inS:∀y o,s2.heap.get? y=some o->y≠C:=fun y o e0=>zN (zB (zV e0) leC);have B:=I1.base
 have un:Un (frs X.stack) fp H2 He s2.heap h9:=⟨fun y o e0 n hb hx=>(hs9 y (inS y o e0)).trans (B.keep y o e0 n hb hx),fun y o e0 n hb hx=>by
   obtain ⟨sl',z⟩:=B.slot y o e0 n hb hx;exact ⟨sl',(hs9 y (inS y o e0)).trans z⟩,B.free,fun y o e0 hx=>by
   obtain ⟨o',z⟩:=B.there y o e0 hx
   exact ⟨o',(hs9 y (inS y o e0)).trans z⟩,B.tups,B.frzs,B.tbls⟩
 have hok:HOk X.prog X.w He h9:=fun y u0 q0=>(I1.hok y u0 q0).stay (fun c v hc z=>(hs9 c (neC c (by
   rcases hc with w | w
   ·rw [w,q0];exact fun z=>nomatch z
   ·rw [w];exact fun z=>nomatch z))).trans z) (fun _ z=>z) fun _ _ z=>z
 exact I2.call' (s':={s1 with heap:=h9}) (ch:=fp) I1.os un hok I1.bare (fun y hy=>⟨(f2 y hy).2.2.2.1,(f2 y hy).2.1,(f2 y hy).2.2.2.2.1,(f2 y hy).2.2.2.2.2⟩)
end
def capR (js:List (Option Nat)):List W:=js.filterMap fun o=>o.map W.r
def backG (li:Option (Nat×Nat)) (js:List (Option Nat)) (ρe ρ1:Ev) (d:D):Option (W×Ev):=match li with
 | none=>if lfC d=true then some (.o d,ρ1) else (frzL (capR js) ρ1).map fun ρ2=>(.o d,ρ2)
 | some (i,j)=>if lfC d=true then (ownAt ρe i).bind fun c=>if lfC c=true then some (.o d,setOwn ρ1 j c) else none else none
def liJ (li:Option (Nat×Nat)) (js:List (Option Nat)):Bool:=match li with
 | none=>true
 | some (i,j)=>js[i]? == some (some j) && (List.range js.length).all fun k=>js[k]? != some (some j) || k == i
def liB (li:Option (Nat×Nat)) (ρ:Ev):Bool:=match li with
 | none=>true
 | some (_,j)=>(ownAt ρ j).isSome
def fComp (fi:FI) (li:Option (Nat×Nat)) (js:List (Option Nat)) (gf:FG) (t:FT) (fe:FX):FX:=fun ρ=>(fi ρ).bind fun p=>if liB li p.2=true then
  (loopC (turnC js.length gf t fe) p.1 (capE (li.map (·.2)) js p.2 ++ [some (.l (.lst []))])).bind fun ρe=>match ownAt ρe js.length with
   | some (.lst ys)=>backG li js ρe p.2 (.lst ys)
   | _=>none
 else none
section
variable {X:Cx}{pins:List (Addr×PySem.Obj)}{σ σe:L2.St}{H2 He:Hp}{s2:Shared}{scope:Scope}{cl:List (Str×Addr)}{N:List Str}{js:List (Option Nat)}{fp:List Addr}{Dd C:Addr}{elt tg iter:Expr}{ifs:List Expr}{pos:Pos}{P:List (D×V)}{O:Av}{L:List (Option Nat×Addr)}{ρ ρ2 ρe:Ev}{w:W}{ys:List D}{fi:FI}{gf:FG}{t:FT}{fe:FX}{li:Option (Nat×Nat)}
theorem b0b (h:liJ li js=true)(hb:liB li ρ=true):LiOk li js ρ:=by
 cases li with
 | none=>exact ⟨nofun,nofun,nofun⟩
 | some p=>
  obtain ⟨i,j⟩:=p;simp only [liJ,jH,beq_iff_eq,jN,xE,Bool.or_eq_true,bne_iff_ne] at h;simp only [liB,isSome_iff_exists] at hb;refine ⟨fun i' j' e=>by cases e;exact hb,fun i' j' e=>by cases e;exact h.1,fun i' j' k e ek=>?_⟩
  cases e;rcases h.2 k (zJ.mp ek).1 with z | z
  ·exact absurd ek z
  ·exact z
theorem a9D {j:Nat}:W.r j∈capR js↔some j∈js:=by
 unfold capR;rw [mem_filterMap];constructor
 ·rintro ⟨o,h1,h2⟩;cases o with
  | none=>cases h2
  | some k=>cases h2;exact h1
 ·exact fun h=>⟨some j,h,rfl⟩
theorem a1p (r:Rep X P O L ρ σ H2)(hl:LiOk li js ρ)(hn:H2 Dd=none)(rp:Rep (blk X scope cl s2 H2 fp C (N ++ [accN])) P (fun b=>AvO O ρ σ b/\¬Capd ρ σ js b) ((some js.length,Dd) :: lentL li σ) ρe σe He)
  {d0:D} (ey:ownAt ρe js.length=some d0) (e:backG li js ρe ρ d0=some (w,ρ2)):∃Hx,Rep X P O L ρ2 σ Hx/\Same Hx He/\DenW X.K (AvO O ρ2 σ) σ Hx He w (.ref Dd):=by
 obtain ⟨c0,q0,ob⟩:=rp.lents js.length Dd zH;rw [ey] at q0;cases q0;cases li with
 | none=>
  have sm:Same H2 He:=fun b o eb=>rp.same b o eb fun i m=>by
   rcases zS.mp m with m | m
   ·cases m;rw [hn] at eb;cases eb
   ·cases m
  unfold backG at e;simp only at e;split at e
  ·rename_i hf;cases e;exact ⟨H2,r,sm,Dd,rfl,hn,G0 (d:=d0) (fun _ _ e _=>e) hf rfl ob⟩
  ·obtain ⟨ρ3,e4,e⟩:=oms e;cases e;obtain ⟨r2,k2⟩:=N7 r e4;refine ⟨H2,r2,sm,Dd,rfl,hn,q5 (u5 fun b z=>?_) rfl ob⟩;rcases z with z | z
   ·obtain ⟨z1,z2⟩:=X3 r k2 z;exact .inl ⟨z1,fun ⟨j,w,d,m,q⟩=>z2 ⟨j,w,d,a9D.mpr m,q⟩⟩
   ·exact .inr ⟨js.length,by rw [z];exact zH⟩
 | some p=>
  obtain ⟨i,j⟩:=p;unfold backG at e;simp only at e;split at e
  ·rename_i hf;cases e5:ownAt ρe i with
   | none=>rw [e5] at e;cases e
   | some c=>
    rw [e5] at e;simp only [bind_some] at e;split at e
    ·rename_i hc;cases e;obtain ⟨c1,ec1⟩:=hl.own i j rfl;obtain ⟨w0,q1,ow⟩:=q8 ec1;obtain ⟨a,h1,oba⟩:=r.obj q1 ow;obtain ⟨u0,eu0,_⟩:=C2 oba;have na:a≠Dd:=fun z=>by rw [z,hn] at eu0;cases eu0
     have mem:(some i,a)∈lentL (some (i,j)) σ:=M0.mpr ⟨j,rfl,h1⟩;obtain ⟨c2,ec2,ob2⟩:=rp.lents i a (zI _ mem);rw [e5] at ec2;cases ec2;obtain ⟨ur,eur,mur⟩:=C2 ob;have keep:∀b o,H2 b=some o->b≠a->He b=some o:=fun b o eb nb=>rp.same b o eb fun k m=>by
      rcases zS.mp m with m | m
      ·cases m;rw [hn] at eb;cases eb
      ·cases k with
       | none=>exact a10 m
       | some k=>
        obtain ⟨j',e1,e2⟩:=M0.mp m;cases e1;rw [h1] at e2;cases e2;exact nb rfl
     refine ⟨fun b=>if b=Dd then none else He b,r.mut ec1 h1 (fun b o eb nb=>?_) (G0 (fun b o eb nm=>?_) hc (if_neg na) ob2),fun b o eb=>?_,Dd,rfl,if_pos rfl,G0 (d:=d0) (fun _ _ e _=>e) hf rfl ob⟩
     ·have:b≠Dd:=fun z=>by rw [z,hn] at eb;cases eb
      show (if b=Dd then none else He b)=some o;rw [if_neg this];exact keep b o eb nb
     ·have:b≠Dd:=fun z=>by rw [z,eur] at eb;cases eb;exact nm mur
      show (if b=Dd then none else He b)=some o;rw [if_neg this];exact eb
     ·dsimp only at eb;split at eb
      ·cases eb
      ·exact eb
    ·cases e
  ·cases e
theorem a8Y {Q:VK}{Qq:Value->Shared->Prop}{use:Option (Value->Sem Unit)}{H:Hp}{s:Shared}{newPos:Pos}(hc:X.calm=true)(b:Blk X scope cl N js)(hj:liJ li js=true)(hi:QIB X li tg iter fi)
  (hg:∀s2 H2 fp C,QG (blk X scope cl s2 H2 fp C (N ++ [accN])) tg gf) (ht:∀s2 H2 fp C,Tst (blk X scope cl s2 H2 fp C (N ++ [accN])) ifs t) (he:∀s2 H2 fp C,QX (blk X scope cl s2 H2 fp C (N ++ [accN])) elt fe) (hs:∀x,foldedSetIterable iter X.env x=pure x)
  (I:Inv X pins σ H s) (h:tX X (fComp fi li js gf t fe) σ H Q)
  (fin:∀(C:Addr) (v:V) (He:Hp) (s1:Shared),Q v He->(∀h9:Heap,(∀y,y≠C->h9.get? y=s1.heap.get? y)->Inv X pins σ He {s1 with heap:=h9})->FpOk X pins He C->(∃m,s1.heap.Ns C m)->∀vv,RelV v vv->compPost (model X.prog X.w) X.A X.xe use Qq vv C (.ok .next) s1):
  wpAny (model X.prog X.w) X.A (comprehension (.ListComp elt [⟨tg,iter,ifs,0⟩] scope pos) scope X.env newPos (newList []) false (eval iter X.env) use) Qq X.xe s:=by
 obtain ⟨P,O,L,ρ,w,ρ',r,e,q⟩:=h;unfold fComp at e;obtain ⟨⟨xs,ρ1⟩,e1,e⟩:=obs e;dsimp only at e;split at e
 ·rename_i hb;cases e2:loopC (turnC js.length gf t fe) xs (capE (li.map (·.2)) js ρ1 ++ [some (.l (.lst []))]) with
  | none=>rw [e2] at e;cases e
  | some ρe=>
   rw [e2] at e;simp only [bind_some] at e;split at e
   ·rename_i ys ey;have hl:=b0b hj hb;refine xV rfl hs b.clos b.kind b.nms ?_;refine zG (hi.to pins s σ H _ I ⟨P,O,L,ρ,xs,ρ1,r,e1,fun J H1 P' r1 hh wk=>(⟨P',r1,hh,wk⟩:∃P',Rep X P' O L ρ1 σ H1/\Holds P' P/\WksB li X.K P' O ρ1 σ H1 xs J)⟩) (fun v s1 h1=>zG h1 (fun itv s2 h2=>?_) fun _ _ z=>z) fun _ _ z=>z;obtain ⟨it,fp,tn,J,H2,rfl,I2,T,st2,f2,P',r1,hh,wk⟩:=h2;refine a91 hc I2 T st2 f2 b r1 hl wk (hg s2 H2 fp) (ht s2 H2 fp) (he s2 H2 fp) e2 fun Dd C σe He s3 hn leC I1 rp=>?_;obtain ⟨Hx,rx,sx,dx⟩:=a1p r1 hl hn rp ey e;obtain ⟨m,hm,_⟩:=id I1.loc;refine fin C (.ref Dd) He s3 (q _ Hx He (rx.holds hh) sx dx) (fun h9 k9=>a2f I2 f2 leC I1 k9) ?_ ⟨m,hm⟩ (.ref Dd) rfl;exact I2.fpOk leC I1.free
   ·cases e
 ·cases e
theorem w6 (hc:X.calm=true)(b:Blk X scope cl N js)(hi:QIB X li tg iter fi)(hg:∀s2 H2 fp C,QG (blk X scope cl s2 H2 fp C (N ++ [accN])) tg gf)(ht:∀s2 H2 fp C,Tst (blk X scope cl s2 H2 fp C (N ++ [accN])) ifs t)(he:∀s2 H2 fp C,QX (blk X scope cl s2 H2 fp C (N ++ [accN])) elt fe)
  (hj:liJ li js=true:=by rfl) (hs:∀x,foldedSetIterable iter X.env x=pure x:=by intro _;rfl):QX X (.ListComp elt [⟨tg,iter,ifs,0⟩] scope pos) (fComp fi li js gf t fe):=⟨fun pins s σ H Q I h=>by
 rw [eval_ListComp];refine a8Y (use:=none) hc b hj hi hg ht he hs I h fun C v He s1 hq back fp ⟨m,hm⟩ vv rv=>?_
 exact ⟨m,hm,fun h9 k9=>⟨v,He,back h9 fun y ny=>k9.2 y ny,rv,hq⟩⟩⟩
def UseOk (X:Cx) (pins:List (Addr×PySem.Obj)) (σ:L2.St) (Q:VK) (u:Value->Sem Unit) (Rr:Shared->Prop):Prop:=
 ∀(C:Addr) (m:Str->Option Value) (s':Shared) (H':Hp) (v:V) (vv:Value),FpOk X pins H' C->s'.heap.Ns C m->Inv X pins σ H' s'->RelV v vv->Q v H'->
  wpAny (model X.prog X.w) X.A (u vv) (fun _ s2=>∃m,s2.heap.Ns C m/\∀h',Heap.SameBut C s2.heap h'->Rr {s2 with heap:=h'}) X.xe s'
structure QXU (X:Cx) (e:Expr) (f:FX):Prop where
 to:∀(pins:List (Addr×PySem.Obj)) (s:Shared) (σ:L2.St) (H:Hp) (Q:VK) (u:Value->Sem Unit) (Rr:Shared->Prop),Inv X pins σ H s->tX X f σ H Q->UseOk X pins σ Q u Rr->
  wpAny (model X.prog X.w) X.A (evalThenUse e X.env u) (fun _ s'=>Rr s') X.xe s
theorem a86 {M:Model}{A:Around}{E:Value->Shared->Prop}{s:Shared}{env:Env}{elt:Expr}{g:Comprehension}{gs:List Comprehension}{scope:Scope}{pos:Pos}{u:Value->Sem Unit}{Rr:Shared->Prop}
  (h:wpAny M A (comprehension (.ListComp elt (g :: gs) scope pos) scope env (firstIterPos (g :: gs) pos) (newList []) (firstAsync (g :: gs)) (firstIter (g :: gs) env) (some u)) (fun _ s'=>Rr s') E s):
  wpAny M A (evalThenUse (.ListComp elt (g :: gs) scope pos) env u) (fun _ s'=>Rr s') E s:=by
 show wpAny M A (do let _ <-comprehension (.ListComp elt (g :: gs) scope pos) scope env (firstIterPos (g :: gs) pos) (newList []) (firstAsync (g :: gs)) (firstIter (g :: gs) env) (some u)) _ _ s
 exact zA (zG h (fun _ s' hq=>zC hq) fun _ _ e=>e)
end
theorem a73 {prog:Program}{w:World}{A:Around}(hh:A.handled=none){l I:Addr}{its:Array Value}(ne:l≠I):
  Walks prog w A I [I,l] [I] its.size (fun i v=>its[i]? =some v) (fun i h=>h.IsListIter I l i/\h.IsList l its) where
 sub:=fun b hb=>by rw [zU.mp hb];exact zH
 frame:=fun i h h' ⟨⟨o,e,r⟩,⟨o2,e2,r2⟩⟩ k=>⟨⟨o,k I zH o e,r⟩,⟨o2,k l (zI _ zH) o2 e2,r2⟩⟩
 item:=fun i s Q E hi ⟨h1,h2⟩ q=>wpAny_pyNext_list_item h1 h2 (x:=its[i]) (by simp [hi]) fun h' hit hs=>q its[i] h' s.toks (by simp [hi]) ⟨hit,h2.extBut hs.extBut ne⟩ fun b o hb e=>hs.extBut b o (fun z=>hb (by rw [z];exact zU.mpr rfl)) e
 done:=fun s Q E ⟨h1,h2⟩ q=>wpAny_pyNext_list_end hh h1 h2 (by simp) fun h' hx=>q h' s.toks fun b o hb e=>hx b o (fun z=>hb (by rw [z];exact zU.mpr rfl)) e
 self:=fun i s Q E ⟨h1,_⟩ q=>wpAny_pyIter_listiter h1 q
theorem b0N {bs:List Bool}{its:List Value}(r:Vals (bs.map V.bl) its){i:Nat}{v:Value}(e:its.toArray[i]? =some v):v= .bool (bs.getD i false):=by
 rw [List.getElem?_toArray] at e
 induction bs generalizing its i with
 | nil=>cases r;simp at e
 | cons b bs ih=>
  cases r with
  | cons r1 r2=>
   cases i with
   | zero=>simp at e;subst e;exact r1
   | succ i=>exact ih r2 (by simpa using e)
theorem a74 (bs:List Bool)(n:Nat)(hn:n=bs.length):(List.range n).all (fun i=>bs.getD i false)=bs.all id:=by
 subst hn;apply yH.mpr;simp only [jN,xE,id];constructor
 ·intro h x hx;obtain ⟨i,hi,e⟩:=List.mem_iff_getElem.mp hx
  have:=h i hi
  rw [zL,zZ hi] at this;simpa [e] using this
 ·intro h i hi;rw [zL,zZ hi];exact h _ (getElem_mem hi)
section
variable {X:Cx}
theorem L9 (hc:X.calm=true):CallR X (.builtin "all") (fun xs H Q=>∃(p:Addr) (bs:List Bool),xs=[.ref p]/\SqL X.K H p (bs.map V.bl)/\Q (.bl (bs.all id)) H):=by
 intro pins s σ H xs us Q I r h;obtain ⟨p,bs,rfl,hq,q⟩:=h;obtain ⟨u,rfl,ru⟩:=vals1 r;cases ru;obtain ⟨its,rv,⟨o,m,h1,h2,_,h4⟩,hz⟩:=I.list hq;have hl:s.heap.IsList p its.toArray:=⟨o,h1,h2,m,h4⟩;have ne:p≠s.heap.objs.size:=zN (zV h1);refine call_all_walk (wpAny_pyIter_list hl ⟨s.heap.objs.size,_,_,_,_,_,fun i=>bs.getD i false,rfl,a73 (show X.A.in1.handled=none from I.ok.hd hc) ne,⟨⟨_,qB _ rfl,rfl,rfl⟩,hl.push _⟩,fun i v s' Q' E' hv hq'=>?_,fun h' tk hk=>?_⟩)
 ·rw [b0N rv hv];exact yM hq'
 ·have I1:Inv X pins σ H {s with heap:=h',toks:=tk}:=I.kept (t':=tk) fun b ob e=>hk b ob (fun z=>absurd (zV e) (by rw [zU.mp z];exact qS _)) (zF _ e)
  refine ⟨.bl _,H,I1,?_,q⟩;show Value.bool _=Value.bool _;rw [a74 bs _ (by rw [zR,<-rv.length,zD])]
end
section
variable {X:Cx}{b:Expr}{h:FX}{u:FT}
theorem a71:CallR X (.type "int") (fun xs H Q=>∃b,xs=[.bl b]/\Q (.int (if b then 1 else 0)) H):=by
 intro pins s σ H xs us Q I r h;obtain ⟨b,rfl,q⟩:=h;obtain ⟨u,rfl,rx⟩:=vals1 r;cases (show u=Value.bool b from rx);exact call_int_bool ⟨.int _,H,I.tok _,⟨_,rfl⟩,q⟩
theorem a4n (i:Int):∀ns:List Int,inV (.int i) (ns.map V.int)=decide (i∈ns)
 | []=>rfl
 | n :: ns=>by
  have ih:=a4n i ns;unfold inV at ih ⊢;rw [zK,any_cons,ih];show ((n == i) || _)=_
  by_cases h:n=i
  ·simp [h]
  ·have h':¬i=n:=fun z=>h z.symm;simp [h,h']
theorem a22:∀ns:List Int,(ns.map V.int).all flatV=true
 | []=>rfl
 | n :: ns=>by rw [zK,all_cons,a22 ns];rfl
end
def sortI (ns:List Int):List Int:=ns.mergeSort fun a b=>decide (a<=b)
theorem a1H (ns:List Int):(sortI ns).Perm ns:=List.mergeSort_perm ns _
theorem a4a (ns:List Int):(sortI ns).Pairwise (·<=·):=by
 have z:=List.pairwise_mergeSort (le:=fun a b:Int=>decide (a<=b)) (fun a b c h1 h2=>by
  simp only [jM] at *;walk_at "o") (fun a b=>by
  simp only [Bool.or_eq_true,jM];walk_at "o") ns
 exact z.imp fun h=>by simpa using h
theorem Z9:∀{its:List Value} {ns:List Int},IntsAre its ns->Vals (ns.map V.int) its
 | _,_,.nil=>.nil
 | _,_,.cons a t r=>.cons ⟨t,rfl⟩ (Z9 r)
section
variable {X:Cx}{e:Expr}{p:Pos}
theorem a31:CallR X (.builtin "sorted") (fun xs H Q=>∃(p:Addr) (ns:List Int),xs=[.ref p]/\SqL X.K H p (ns.map V.int)/\ns.length < 64/\∀l,H l=none->Q (.ref l) (upd H l (.lst ((sortI ns).map V.int)))):=by
 intro pins s σ H xs us Q I r h;obtain ⟨p,ns,rfl,hq,h64,q⟩:=h;obtain ⟨u,rfl,ru⟩:=vals1 r;cases ru;refine Calls.call_function_entry kind_sorted plain_sorted entry_sorted (args_sorted1 _) ?_;unfold Builtin.«sorted»;refine zA (m:=checkCount "sorted" 1 1 _) (zC ?_);obtain ⟨its,rv,⟨o,m,h1,h2,_,h4⟩,hz⟩:=I.list hq;have len:its.length=ns.length:=by rw [<-rv.length,zD]
 have hL:s.heap.IsList p its.toArray:=⟨o,h1,h2,m,h4⟩;have sz:its.length<=sizeLine:=by rw [len,jT];walk_at "o"
 refine zA (collect_list hL ?_ sz);refine zA (wpAny_newList ?_ sz);have I1:Inv X pins σ H {s with heap:=(s.heap.push (seqObj "list" #[] 0)).update s.heap.objs.size (PySem.Obj.mapSeq (· ++ its.toArray))}:=I.kept (t':=s.toks) fun b o e=>by
  rw [yQ _ _ _ _ (zN (zV e))];exact zF _ e
 generalize hG:(s.heap.push (seqObj "list" #[] 0)).update s.heap.objs.size (PySem.Obj.mapSeq (· ++ its.toArray))=G at I1 ⊢;have ho:(G.push (seqObj "list" its.toArray 0)).get? G.objs.size=some (seqObj "list" its.toArray 0):=qB _ rfl;refine zA (jD ?_);refine jA PyProof.Rows.slot_list_sort ⟨_,ho,rfl⟩ PyProof.Rows.entry_list_sort (list_sort_tree (n:=0) (vs:=its) ho (O3 rv) (by walk_at "o") fun out ns' hI hp hP=>⟨.none,rfl,?_⟩) (PyProof.Rows.args_list_sort _)
 have es:ns'=sortI ns:=PySem.W.lks_uniq (hp.trans (a1H ns).symm) hP (a4a ns);subst es;have g1:=get?_update_seq ho (fun _=> #[]);have g2:=get?_update_seq (zF (seqObj "list" #[] 0) (zF (seqObj "tuple" its.toArray 0) g1)) (fun _=>out);have kept:∀b o,G.get? b=some o->(sortedHeap (G.push (seqObj "list" its.toArray 0)) G.objs.size its out).get? b=some o:=fun b o e=>by
  have ne:b≠G.objs.size:=zN (zV e);unfold sortedHeap;rw [yQ _ _ _ _ ne];refine zF _ (zF _ ?_);rw [yQ _ _ _ _ ne];exact zF _ e
 refine zC ⟨_,rfl,.ref G.objs.size,_,I1.laid (t':=s.toks) (o:=.lst ((sortI ns).map V.int)) kept (zE _) ?_,rfl,q _ (I1.hok.fresh (zE _))⟩;obtain ⟨ep,g3⟩:∃ep,(sortedHeap (G.push (seqObj "list" its.toArray 0)) G.objs.size its out).get? G.objs.size=some (seqObj "list" out.toList.toArray ep):=⟨_,by rw [Array.toArray_toList];exact g2⟩
 exact ⟨by rw [zD,(a1H ns).length_eq,jT];walk_at "o",out.toList,_,Z9 hI,g3⟩
end
section
variable {prog:Program}{w:World}{A:Around}{E:Value->Shared->Prop}{s:Shared}
theorem a5q {t sl:Addr}{items:Array Value}{vl vu:Value}{lo hi:Option Int}{Q:Value->Shared->Prop}(ht:IsTup s.heap t items)(hs:s.heap.IsSliceOf sl vl vu .none)(pl:IsPart vl lo)(pu:IsPart vu hi)
  (hw:HT.sIx items.size 0 lo=0/\HT.sIx items.size items.size hi=items.size) (h:Q (.ref t) s):wpAny (model prog w) A (getItem (.ref t) (.ref sl)) Q E s:=by
 obtain ⟨os,hos,hcs,hds⟩:=id hs;have hTs:s.TypeIs (.ref sl) "slice":=⟨os,hos,hcs⟩;unfold getItem
 try with_reducible refine jD ?_
 first | refine zA (zC ?_) | skip
 refine zA (wpAny_sequenceKey ht.typeIs (by decide) ?_)
 refine zA (qU (name:=Str.ofString "__getitem__") ht.typeIs qT
  (jA qT ht.typeIs entry_tuple_getitem ?_ (args_tuple_getitem _ _)))
 show wpAny _ _ (Builtin.Tuple.tupleItemsOf (.ref t) >>=_) _ _ s;refine zA (tupleItemsOf_ ht ?_);refine zA (wpAny_typeOf hTs ?_);rw [if_pos (by decide)]
 refine zA (HT.sliceApplied_gen hs pl pu ?_);show wpAny _ _ (if (((HT.sIx items.size 0 lo:Nat):Int) == 0 && (1:Int) == 1 && (HT.sIx items.size items.size hi - HT.sIx items.size 0 lo) == items.size)=true then _ else _) _ _ s;rw [if_pos (by rw [hw.1,hw.2];simp)]
 unfold Builtin.Tuple.tupleIsExact;refine zA (zA (wpAny_typeOf ht.typeIs (zC ?_)));rw [if_pos (by decide)]
 first
  | exact zA (wpAny_rule (zC ⟨_,rfl,zC h⟩))
  | exact zA (wpAny_rule (zA (zC (zC ⟨_,rfl,zC h⟩))))
end
section
variable {X:Cx}{a b e:Expr}{es:List Expr}{pos p:Pos}{f g h:FX}{t u:FT}{fa:FA}{x:Str}
def rSlF (K:PySem.W.Frag):V->Option Int->Option Int->Hp->VK->Prop:=fun x lo hi H Q=>∃a xs,x= .ref a/\SqT K H a xs/\(HT.sIx xs.length 0 lo=0/\HT.sIx xs.length xs.length hi=xs.length)/\Q (.ref a) H
theorem b12:SlR X (rSlF X.K):=by
 intro pins s σ H x v vl vu lo hi sl Q I rx hs pl pu h;obtain ⟨a,xs,rfl,hx,hw,q⟩:=h;cases rx;obtain ⟨its,r,ht,hz⟩:=I.tuple hx;have hlen:its.toArray.size=xs.length:=by rw [zR];exact r.length.symm
 refine ⟨"tuple",_,PyProof.Rows.slot_tuple_getitem.lookup,ht.typeIs,?_⟩;exact a5q ht hs pl pu (by rw [hlen];exact hw) ⟨.ref a,H,I,rfl,q⟩
theorem qx_b {id:String}{r:List V->Hp->VK->Prop}{k:List D->Option W}(hc:CallR X (.builtin id) r)(hk:PrA X k r)(hm:X.mg x=none)(ha:QA X (e :: es) fa)(hv:bootBuiltins x=some (.builtin id):=by rfl)(hg:Gl X x:=by rfl)(hn:x≠"__name__":=by decide)(hdb:(x == ("__debug__":Str))=false:=by decide)
  (he:starEach (e :: es) X.env=(false,eval e X.env) :: starEach es X.env:=by rfl) (hpl:(backTo pos (starEach es X.env)).any (·.1)=false:=by rfl):QX X (.Call (.Name x p) (e :: es) [] pos) (fCall k fa):=a4H hc hk hv hm ha hg hn hdb he hpl
theorem qx_t {T:String}{r:List V->Hp->VK->Prop}{k:List D->Option W}(hc:CallR X (.type T) r)(hk:PrA X k r)(hm:X.mg x=none)(ha:QA X (e :: es) fa)(hv:bootBuiltins x=some (.type T):=by rfl)(hg:Gl X x:=by rfl)(hn:x≠"__name__":=by decide)(hdb:(x == ("__debug__":Str))=false:=by decide)
  (he:starEach (e :: es) X.env=(false,eval e X.env) :: starEach es X.env:=by rfl) (hpl:(backTo pos (starEach es X.env)).any (·.1)=false:=by rfl):QX X (.Call (.Name x p) (e :: es) [] pos) (fCall k fa):=a4G hc hk hv hm ha hg hn hdb he hpl
def k1 (g:D->Option W):List D->Option W
 | [d]=>g d
 | _=>none
theorem pr1 {g:D->Option W}{r:List V->Hp->VK->Prop}(h:∀(A:Av) (d:D) (w:W) (v:V) (H:Hp) (Q:VK),g d=some w->DenR X.K A H d v->(∀z H',Same H H'->DenW X.K A [] H H' w z->Q z H')->r [v] H Q):PrA X (k1 g) r:=fun A ds w vs H Q _ e l q=>by
 unfold k1 at e;split at e
 ·obtain ⟨v,rfl,h1⟩:=denRL1 l;exact h A _ w v H Q e h1 q
 ·cases e
def k2 (g:Int->Int->D):List D->Option W
 | [.int i,.int j]=>some (.v (g i j))
 | _=>none
theorem pr2 {g:Int->Int->Int}{r:List V->Hp->VK->Prop}(h:∀i j (H:Hp) (Q:VK),Q (.int (g i j)) H->r [.int i,.int j] H Q):PrA X (k2 fun i j=>.int (g i j)) r:=fun A ds w vs H Q _ e l q=>by
 unfold k2 at e;split at e
 ·rename_i i j;cases e;obtain ⟨v,v',rfl,h1,h2⟩:=denRL2 l;rw [j4 h1,j4 h2];exact h i j H Q (q _ H (Same.refl H) C4)
 ·cases e
def gLen (d:D):Option W:=(items d).map fun xs=>.v (.int xs.length)
theorem G7:PrA X (k1 gLen) (fun xs H Q=>∃p ys,xs=[.ref p]/\(SqL X.K H p ys\/SqT X.K H p ys)/\Q (.int ys.length) H):=pr1 fun A d w v H Q e h q=>by
 unfold gLen at e;obtain ⟨xs,e1,e⟩:=oms e;cases e;obtain ⟨a,ws,rfl,hq,lw⟩:=F2 e1 h;exact ⟨a,ws,rfl,hq,by rw [<-b6 lw];exact q _ H (Same.refl H) C4⟩
def gAbs:D->Option W
 | .int i=>some (.v (.int (if i < 0 then -i else i)))
 | _=>none
theorem a3B:PrA X (k1 gAbs) (fun xs H Q=>∃i,xs=[.int i]/\Q (.int (if i < 0 then -i else i)) H):=pr1 fun A d w v H Q e h q=>by
 cases d <;> simp only [gAbs] at e <;> cases e
 exact ⟨_,by rw [j4 h],q _ H (Same.refl H) C4⟩
abbrev gMax:=k2 fun i j=>.int (if j > i then j else i)
abbrev gMin:=k2 fun i j=>.int (if j < i then j else i)
theorem a52:PrA X gMax (fun xs H Q=>∃i j,xs=[.int i,.int j]/\Q (.int (if j > i then j else i)) H):=pr2 fun i j H Q q=>⟨i,j,rfl,q⟩
theorem a15:PrA X gMin (fun xs H Q=>∃i j,xs=[.int i,.int j]/\Q (.int (if j < i then j else i)) H):=pr2 fun i j H Q q=>⟨i,j,rfl,q⟩
def gInt:D->Option W
 | .bl b=>some (.v (.int (if b then 1 else 0)))
 | _=>none
theorem b4i:PrA X (k1 gInt) (fun xs H Q=>∃b,xs=[.bl b]/\Q (.int (if b then 1 else 0)) H):=pr1 fun A d w v H Q e h q=>by
 cases d <;> simp only [gInt] at e <;> cases e
 exact ⟨_,by rw [a1s h],q _ H (Same.refl H) C4⟩
def gTuple (d:D):Option W:=(items d).map fun xs=>.v (.tup xs)
theorem Z4:PrA X (k1 gTuple) (fun xs H Q=>∃p ys,xs=[.ref p]/\((SqL X.K H p ys/\∀l,H l=none->Q (.ref l) (upd H l (.tup ys)))\/(SqT X.K H p ys/\Q (.ref p) H))):=pr1 fun A d w v H Q e h q=>by
 cases d <;> simp only [gTuple,items,Option.map_none] at e <;> first | cases e | skip
 ·rename_i xs;obtain ⟨a,vs,rfl,hq,l⟩:=B8 h;exact ⟨a,vs,rfl,.inr ⟨hq,q _ H (Same.refl H) h⟩⟩
 ·rename_i xs;obtain ⟨a,vs,rfl,hq,l⟩:=h;exact ⟨a,vs,rfl,.inl ⟨hq,fun l' hl=>q _ _ (j6 hl _) (a0b hl l)⟩⟩
def gList (d:D):Option W:=(items d).map fun xs=>.o (.lst xs)
theorem b1b:PrA X (k1 gList) (fun xs H Q=>∃p ys,xs=[.ref p]/\(SqL X.K H p ys\/SqT X.K H p ys)/\∀l,H l=none->Q (.ref l) (upd H l (.lst ys))):=pr1 fun A d w v H Q e h q=>by
 unfold gList at e;obtain ⟨xs,e1,e⟩:=oms e;cases e;obtain ⟨a,ws,rfl,hq,lw⟩:=F2 e1 h;exact ⟨a,ws,rfl,hq,fun l hl=>q _ _ (j6 hl _) (w8 hl lw)⟩
def intsOf:List D->Option (List Int)
 | []=>some []
 | .int i :: ds=>(intsOf ds).map fun is=>i :: is
 | _=>none
theorem z8:∀{ds:List D} {is:List Int},intsOf ds=some is->ds=is.map D.int
 | [],is,e=>by cases e;rfl
 | .int i :: ds,is,e=>by
  rw [intsOf] at e;cases e1:intsOf ds with
  | none=>rw [e1] at e;cases e
  | some js=>rw [e1] at e;cases e;rw [zK,<-z8 e1]
 | .non :: ds,is,e=>by cases e
 | .bl _ :: ds,is,e=>by cases e
 | .str _ :: ds,is,e=>by cases e
 | .tup _ :: ds,is,e=>by cases e
 | .lst _ :: ds,is,e=>by cases e
 | .dT _ _ :: ds,is,e=>by cases e
 | .dK _ _ :: ds,is,e=>by cases e
 | .exn _ :: ds,is,e=>by cases e
theorem C7:∀is:List Int,intsOf (is.map D.int)=some is
 | []=>rfl
 | i :: is=>by rw [zK,intsOf,C7 is];rfl
theorem q9 {K:PySem.W.Frag}{A:Av}{H:Hp}:∀{is:List Int} {vs:List V},DenL K A H (is.map D.int) vs->vs=is.map V.int
 | [],vs,l=>by rw [map_nil,DenL] at l;exact l
 | i :: is,vs,l=>by
  rw [zK,DenL] at l;obtain ⟨v,r,rfl,h,l⟩:=l;rw [u7.mp h,q9 l];rfl
theorem F4 {K:PySem.W.Frag}{A:Av}{H:Hp}:∀ns:List Int,DenL K A H (ns.map D.int) (ns.map V.int)
 | []=>by rw [map_nil,map_nil];exact i0
 | n :: ns=>by rw [zK,zK];exact g9 (by rw [Den]) (F4 ns)
def boolsOf:List D->Option (List Bool)
 | []=>some []
 | .bl i :: ds=>(boolsOf ds).map fun is=>i :: is
 | _=>none
theorem a1x:∀{ds:List D} {is:List Bool},boolsOf ds=some is->ds=is.map D.bl
 | [],is,e=>by cases e;rfl
 | .bl i :: ds,is,e=>by
  rw [boolsOf] at e;cases e1:boolsOf ds with
  | none=>rw [e1] at e;cases e
  | some js=>rw [e1] at e;cases e;rw [zK,<-a1x e1]
 | .non :: ds,is,e=>by cases e
 | .int _ :: ds,is,e=>by cases e
 | .str _ :: ds,is,e=>by cases e
 | .tup _ :: ds,is,e=>by cases e
 | .lst _ :: ds,is,e=>by cases e
 | .dT _ _ :: ds,is,e=>by cases e
 | .dK _ _ :: ds,is,e=>by cases e
 | .exn _ :: ds,is,e=>by cases e
theorem a1e:∀is:List Bool,boolsOf (is.map D.bl)=some is
 | []=>rfl
 | i :: is=>by rw [zK,boolsOf,a1e is];rfl
theorem U7 {K:PySem.W.Frag}{A:Av}{H:Hp}:∀{is:List Bool} {vs:List V},DenL K A H (is.map D.bl) vs->vs=is.map V.bl
 | [],vs,l=>by rw [map_nil,DenL] at l;exact l
 | i :: is,vs,l=>by
  rw [zK,DenL] at l;obtain ⟨v,r,rfl,h,l⟩:=l;rw [a1F.mp h,U7 l];rfl
def gBools (r:List Bool->Bool):D->Option W
 | .lst xs=>(boolsOf xs).map fun bs=>.v (.bl (r bs))
 | _=>none
theorem R7 {r:List Bool->Bool}:PrA X (k1 (gBools r)) (fun xs H Q=>∃(p:Addr) (bs:List Bool),xs=[.ref p]/\SqL X.K H p (bs.map V.bl)/\Q (.bl (r bs)) H):=pr1 fun A d w v H Q e h q=>by
 cases d with
 | lst xs=>
  simp only [gBools] at e;obtain ⟨bs,e1,e⟩:=oms e;cases e;obtain ⟨a,vs,rfl,hq,l⟩:=h;rw [a1x e1] at l;rw [U7 l] at hq;exact ⟨a,bs,rfl,hq,q _ H (Same.refl H) A4⟩
 | _=>cases e
def gSortI:D->Option W
 | .lst xs=>(intsOf xs).bind fun ns=>if ns.length < 64 then some (.o (.lst ((sortI ns).map D.int))) else none
 | _=>none
theorem a8M:PrA X (k1 gSortI) (fun xs H Q=>∃(p:Addr) (ns:List Int),xs=[.ref p]/\SqL X.K H p (ns.map V.int)/\ns.length < 64/\∀l,H l=none->Q (.ref l) (upd H l (.lst ((sortI ns).map V.int)))):=pr1 fun A d w v H Q e h q=>by
 cases d with
 | lst xs=>
  simp only [gSortI] at e;cases e1:intsOf xs with
  | none=>rw [e1] at e;cases e
  | some bs=>
   rw [e1] at e;simp only [bind_some] at e;split at e
   ·rename_i hl;cases e;obtain ⟨a,vs,rfl,hq,l⟩:=h;rw [z8 e1] at l;rw [q9 l] at hq;exact ⟨a,bs,rfl,hq,hl,fun l hl=>q _ _ (j6 hl _) (w8 hl (F4 _))⟩
   ·cases e
 | _=>cases e
def oLtT:D->D->Option W
 | .int i,.int j=>some (.v (.bl (decide (i < j))))
 | .tup xs,.tup ys=>(intsOf xs).bind fun ns=>(intsOf ys).map fun ms=>.v (.bl (HT.lexLt ns ms))
 | _,_=>none
theorem kLtT:Pr2 X oLtT (fun v u H Q=>rI0 (fun i j=>.bl (decide (i < j))) v u H Q\/rLtT X.K v u H Q):=by
 intro A x y w v u H Q _ e hx hy q;unfold oLtT at e;split at e
 ·cases e;exact .inl ⟨_,_,j4 hx,j4 hy,q _ H (Same.refl H) A4⟩
 ·rename_i xs ys;cases e1:intsOf xs with
  | none=>rw [e1] at e;cases e
  | some ns=>
   cases e2:intsOf ys with
   | none=>rw [e1,e2] at e;cases e
   | some ms=>
    rw [e1,e2] at e;cases e;obtain ⟨a,vs,rfl,h1,l1⟩:=B8 hx;obtain ⟨b,us,rfl,h2,l2⟩:=B8 hy;rw [z8 e1] at l1;rw [z8 e2] at l2;rw [q9 l1] at h1;rw [q9 l2] at h2;exact .inr ⟨a,b,ns,ms,rfl,rfl,h1,h2,q _ H (Same.refl H) A4⟩
 ·cases e
theorem a9S {k:Nat}(hr:Room k X.A)(ha:QX X a f)(hb:QX X b g):QX X (.Compare a [.Lt] [b] pos) (fBin oLtT f g):=a1S (b3z.or (a9t (by have:=hr.units;walk_at "o"))) kLtT ha hb
theorem a4g {k:Nat}(hr:Room k X.A)(ha:QX X a f)(hb:QX X b g):QT X (.Compare a [.Lt] [b] pos) (fTest (fBin oLtT f g)):=S5 (b3z.or (a9t (by have:=hr.units;walk_at "o"))) kLtT ha hb
def oInI (neg:Bool) (x y:D):Option W:=match x with
 | .int i=>(items y).bind fun ys=>(intsOf ys).map fun ns=>.v (.bl (if neg then !decide (i∈ns) else decide (i∈ns)))
 | _=>none
theorem kInI {neg:Bool}:Pr2 X (oInI neg) (rIn X.K neg):=by
 intro A x y w v u H Q _ e hx hy q;cases x with
 | int i=>
  simp only [oInI] at e;cases e1:items y with
  | none=>rw [e1] at e;cases e
  | some ys=>
   rw [e1] at e;simp only [bind_some] at e;obtain ⟨ns,e2,e⟩:=oms e;cases e;obtain ⟨p,vs,rfl,hq,l⟩:=F2 e1 hy;rw [z8 e2] at l;rw [q9 l] at hq;rw [j4 hx];exact ⟨p,ns.map V.int,rfl,hq,rfl,a22 ns,by rw [a4n];exact q _ H (Same.refl H) A4⟩
 | _=>cases e
def fChain (o o':D->D->Option W) (f g h:FX):FX:=fun ρ=>(f ρ).bind fun p=>(g p.2).bind fun q=>(dr q.2 p.1.fz).bind fun x=>(dr q.2 q.1.fz).bind fun y=>(o x y).bind fun d=>match d with
 | .v (.bl k)=>if k=true then (h q.2).bind fun z=>(dr z.2 q.1.fz).bind fun y=>(dr z.2 z.1.fz).bind fun z'=>(o' y z').map fun w=>(w,z.2) else some (.v (.bl false),q.2)
 | _=>none
abbrev FO:=Ev->Option (Option Int×Ev)
def tO (X:Cx) (f:FO):TO:=fun σ H Q=>∃P O L ρ o ρ',Rep X P O L ρ σ H/\f ρ=some (o,ρ')/\∀H',Rep X P O L ρ' σ H'->Q o H'
theorem tOe {X:Cx}{f:FO}{σ:L2.St}{H:Hp}{Q:Option Int->Hp->Prop}{C:Prop}(h:tO X f σ H Q)(k:∀P O L ρ o ρ',Rep X P O L ρ σ H->f ρ=some (o,ρ')->(∀H',Rep X P O L ρ' σ H'->Q o H')->C):C:=by
 obtain ⟨P,O,L,ρ,w,ρ',r,e,q⟩:=h;exact k P O L ρ w ρ' r e q
structure QO (X:Cx) (e:Option Expr) (f:FO):Prop where
 to:PO X e (tO X f)
theorem PO.weak {X:Cx}{e:Option Expr}{t u:TO}(h:PO X e t)(w:∀σ H Q,u σ H Q->t σ H Q):PO X e u:=fun pins s σ H Q I q=>h pins s σ H Q I (w σ H Q q)
def fO0:FO:=fun ρ=>some (none,ρ)
def fO1 (f:FX):FO:=fun ρ=>(f ρ).bind fun p=>match p.1 with | .v (.int i)=>some (some i,p.2) | _=>none
theorem b1N:QO X none fO0:=⟨PO.weak b1Y fun σ H Q h0=>tOe h0 fun P O L ρ o ρ' r e q=>by cases e;exact q H r⟩
theorem b11 (ha:QX X e f):QO X (some e) (fO1 f):=⟨PO.weak (b2c ha.to) fun σ H Q h0=>tOe h0 fun P O L ρ o ρ' r e q=>by
 unfold fO1 at e;obtain ⟨⟨w,ρ1⟩,e1,e⟩:=obs e;dsimp only at e;split at e
 ·rename_i i;cases e;refine ⟨P,O,L,ρ,_,_,r,e1,fun v H1 H' r1 s1 d1=>⟨i,?_,q H' (r1.grow s1)⟩⟩;have d1:Den X.K (AvO O ρ' σ) H' (.int i) v:=d1;exact u7.mp d1
 ·cases e⟩
def cutD (xs:List D) (lo hi:Option Int):List D:=(xs.drop (HT.sIx xs.length 0 lo)).take (HT.sIx xs.length xs.length hi - HT.sIx xs.length 0 lo)
theorem a47 {K:PySem.W.Frag}{A:Av}{H:Hp}{xs:List D}{vs:List V}(lo hi:Option Int)(l:DenL K A H xs vs):DenL K A H (cutD xs lo hi) (cutV vs lo hi):=by
 unfold cutD cutV;rw [b6 l];exact a0U _ (a0K _ l)
def slD (x:D) (lo hi:Option Int):Option W:=match x with
 | .tup xs=>some (.v (.tup (cutD xs lo hi)))
 | .lst xs=>some (.o (.lst (cutD xs lo hi)))
 | _=>none
def fSl (f:FX) (lo hi:FO):FX:=fun ρ=>(f ρ).bind fun p=>(lo p.2).bind fun l=>(hi l.2).bind fun u=>(dr u.2 p.1.fz).bind fun x=>(slD x l.1 u.1).map fun w=>(w,u.2)
theorem a9x {lo hi:Option Expr}{fl fu:FO}{p2:Pos}(ha:QX X a f)(hl:QO X lo fl)(hu:QO X hi fu):QX X (.Subscript a (.Slice lo hi none p2) pos) (fSl f fl fu):=⟨PE.weak (b0l ((b1d.or b4q).or b12) ha.to hl.to hu.to) fun σ H Q h0=>tXe h0 fun P O L ρ w ρ' r e q=>by
 unfold fSl at e;obtain ⟨⟨w1,ρ1⟩,e1,e⟩:=obs e;dsimp only at e;obtain ⟨⟨l,ρ2⟩,e2,e⟩:=obs e;dsimp only at e;obtain ⟨⟨u,ρ3⟩,e3,e⟩:=obs e;dsimp only at e;refine ⟨P,O,L,ρ,w1,ρ1,r,e1,fun v H1 H1' r1 s1 d1=>?_⟩;obtain ⟨P',r1',k1⟩:=hold (r1.grow s1) (d1.fz r1 s1);refine ⟨P',O,L,ρ1,l,ρ2,r1',e2,fun H2 r2=>⟨P',O,L,ρ2,u,ρ3,r2,e3,fun H3 r3=>?_⟩⟩;obtain ⟨r4,d4⟩:=k1 ρ3 H3 r3;cases e4:dr ρ3 w1.fz with
 | none=>rw [e4] at e;cases e
 | some x=>
  rw [e4] at e;simp only [bind_some] at e;have dx:=G6 r4 e4 d4;cases x with
  | tup xs=>
   cases e;obtain ⟨a,vs,ev,hq,la⟩:=B8 dx
   by_cases hn:HT.sIx xs.length 0 l=0/\HT.sIx xs.length xs.length u=xs.length
   ·refine .inr ⟨a,vs,ev,hq,by rw [<-b6 la];exact hn,q _ H3 H3 r4 (Same.refl _) ?_⟩
    have ec:cutD xs l u=xs:=by
     unfold cutD;rw [hn.1,hn.2,List.drop_zero,Nat.sub_zero,take_length]
    rw [ec,<-ev];exact dx
   ·exact .inl (.inr ⟨a,vs,ev,hq,by rw [<-b6 la];exact hn,fun p hp=>q _ H3 _ r4 (j6 hp _) (a0b hp (a47 l u la))⟩)
  | lst xs=>
   cases e;obtain ⟨a,vs,ev,hq,la⟩:=dx;exact .inl (.inl ⟨a,vs,ev,hq,fun p hp=>q _ H3 _ r4 (j6 hp _) (w8 hp (a47 l u la))⟩)
  | _=>cases e⟩
end
section
variable {X:Cx}{a b e o:Expr}{es:List Expr}{pos p apos:Pos}{f h:FX}{fa:FA}{x:Str}
theorem b1a (i:Nat){pos':Pos}(hN:X.N.Nodup)(ha:QXU X e f)(hi:X.N[i]? =some x:=by rfl)(hx:Loc X.env.scope x:=by first | exact Or.inl rfl | exact Or.inr rfl)(hs:swapsWith e (some (.Name x pos')) pos.line X.env=pure true:=by rfl)(hf:X.fn x=true\/X.env.scope.names.lookup x=some .local:=by first | exact .inl rfl | exact .inr rfl):
  QS X (.Assign [.Name x pos'] e pos) (fAsg i f):=⟨fun pins s σ H E I h0=>tSe h0 fun P O L ρ r rp e0 q=>by
 unfold fAsg at e0;obtain ⟨⟨w,ρ1⟩,e1,e0⟩:=obs e0;dsimp only at e0;obtain ⟨ρ2,e2,e0⟩:=oms e0;cases e0;rw [exec_Assign_Name_used _ _ _ _ hs];refine zA (jG (zA (zG (ha.to pins s σ H (fun v H'=>∃H1,Rep X P O L ρ1 σ H1/\Same H1 H'/\DenW X.K (AvO O ρ1 σ) σ H1 H' w v) (assign (.Name x pos') X.env) (fun s'=>SP X pins E .next s') I ⟨P,O,L,ρ,w,ρ1,rp,e1,fun v H1 H' r1 s1 d1=>⟨H1,r1,s1,d1⟩⟩ ?_) (fun _ s' h=>zC h) fun _ _ z=>z)));intro C m s' H' v vv fp hn I' rv ⟨H1,r1,sm,dv⟩;obtain ⟨o,es,ep,ho,hd,hk⟩:=hn;obtain ⟨f0,f1,f2,f3,f4,f5⟩:=fp;have I2:Inv X (pins ++ [(C,o)]) σ H' s':=I'.pins_of fun p hp=>(jC.mp hp).elim (fun z=>I'.pin p (zP _ z)) fun z=>by
  rw [zU.mp z];exact ⟨ho,f0,f1,f2,fun w z=>by rw [hd] at z;cases z⟩
 refine zG (a6Q hN hi hx hf (pins ++ [(C,o)]) s' σ H' v vv (fun σ2 H2=>σ2=σ.set i (some v)/\H2=H') I2 rv ⟨rfl,rfl⟩) (fun _ s2 ⟨σ2,H2,I3,e2',e3⟩=>?_) fun _ _ z=>z;subst e2' e3;have pc:=I3.pin (C,o) (zP _ (zP _ (zU.mpr rfl)));refine ⟨m,⟨o,es,ep,pc.1,hd,hk⟩,fun h' hs'=>?_⟩
 exact ⟨_,_,(I3.unpinned).turned (t':=s2.toks) (it:=C) (fun b o' hb eb=>(hs'.2 b hb).trans eb) f0 f1 f3 f4 f5,q _ _ (a6M r1 sm dv e2)⟩⟩
def isLst:Option D->Bool
 | some (.lst _)=>true
 | _=>false
def fMut (op:List D->List D->Option (W×List D)) (f:FX) (fa:FA):FX:=fun ρ=>(f ρ).bind fun p=>match p.1 with
 | .r i=>if isLst (ownAt p.2 i)=true then (fa p.2).bind fun q=>(takeAll q.2 q.1).bind fun z=>match ownAt z.2 i with
  | some (.lst xs)=>(op xs z.1).map fun y=>(y.1,setOwn z.2 i (.lst y.2))
  | _=>none
  else none
 | _=>none
def PrM (X:Cx) (op:List D->List D->Option (W×List D)) (r:V->List V->Hp->VK->Prop):Prop:=∀(A:Av) (a:Addr) (xs ds:List D) (w:W) (ys:List D) (us vs:List V) (H:Hp) (Q:VK),H a=some (.lst us)->DenL X.K A H xs us->DenL X.K A H ds vs->op xs ds=some (w,ys)->
 (∀z ws,DenL X.K A H ys ws->DenW X.K A [] H H w z->Q z (upd H a (.lst ws)))->(w= .v .non\/∃d,w= .v d)->r (.ref a) vs H Q
theorem a4p {op:List D->List D->Option (W×List D)}{r:V->List V->Hp->VK->Prop}(hk:PrM X op r)(hw:∀xs ds w ys,op xs ds=some (w,ys)->∃d,w= .v d):∀σ H Q,tX X (fMut op f fa) σ H Q->tBM X.K "list" r (tX X f) (tA X fa) σ H Q:=fun σ H Q h0=>tXe h0 fun P O L ρ w ρ' rp e q=>by
 unfold fMut at e;obtain ⟨⟨w1,ρ1⟩,e1,e⟩:=obs e;dsimp only at e;split at e
 ·rename_i i;split at e
  ·rename_i hl;refine ⟨P,O,L,ρ,_,ρ1,rp,e1,fun v H1 H1' r1 s1 d1=>?_⟩;have d1:σ[i]? =some (some v):=d1;have r1':=r1.grow s1;refine ⟨?_,?_⟩
   ·unfold isLst at hl;split at hl
    ·rename_i xs e2;obtain ⟨w0,q0,ow⟩:=q8 e2;obtain ⟨a,h1,vs,h2,_⟩:=r1'.obj q0 ow;rw [d1] at h1;cases h1;exact .inl ⟨rfl,vs,.inl (.inl h2)⟩
    ·cases hl
   ·obtain ⟨⟨ws,ρ2⟩,e3,e⟩:=obs e;dsimp only at e;obtain ⟨⟨ds,ρ3⟩,e4,e⟩:=obs e;dsimp only at e;split at e
    ·rename_i xs e5;obtain ⟨⟨wy,ys⟩,e6,e⟩:=oms e;cases e;refine ⟨P,O,L,ρ1,ws,ρ2,r1',e3,fun vs H2 r2 l2=>?_⟩;obtain ⟨r3,l3,_⟩:=k8 r2 e4 l2;obtain ⟨w0,q0,ow⟩:=q8 e5;obtain ⟨a,h1,us,h2,l⟩:=r3.obj q0 ow;rw [d1] at h1;cases h1;refine hk _ a xs ds _ ys us vs H2 Q h2 l l3 e6 (fun z wz lz dz=>?_) (.inr (hw _ _ _ _ e6));have g0:Go (AvO O ρ3 σ) (AvO O ρ3 σ) (fun b=>b=a) H2 (upd H2 a (.lst wz)):=⟨fun b o eb nb=>by rw [c7 nb];exact eb,fun b z=>by rw [z];exact ⟨.inr ⟨i,w0,_,q0,ow,d1⟩,_,h2,trivial⟩,fun b z=>.inl z⟩
     have r4:Rep X P O L (setOwn ρ3 i (.lst ys)) σ (upd H2 a (.lst wz)):=r3.mut (d:=.lst ys) e5 d1 (fun b o eb nb=>by rw [c7 nb];exact eb) ⟨wz,m7,t5 g0 _ _ lz⟩
     refine q z _ _ r4 (Same.refl _) ?_;obtain ⟨d,rfl⟩:=hw _ _ _ _ e6;have av:∀b,AvO O (setOwn ρ3 i (.lst ys)) σ b->AvO O ρ3 σ b:=fun b z=>z.imp id fun z=>(T7 e5 b).mp z;exact p0 (u5 av) _ _ (p0 g0 _ _ dz)
    ·cases e
  ·cases e
 ·cases e
def mApp (xs ds:List D):Option (W×List D):=match ds with
 | [d]=>if xs.length < lim then some (.v .non,xs ++ [d]) else none
 | _=>none
theorem a7V:PrM X mApp rAppend:=fun A a xs ds w ys us vs H Q h l l' e q _=>by
 unfold mApp at e;split at e
 ·split at e
  ·rename_i d hl;cases e;obtain ⟨v,rfl,hv⟩:=denL1 l';exact ⟨a,us,v,rfl,rfl,h,by rw [<-b6 l];exact zB hl t3,q _ _ (l7 l (g9 hv i0)) F5⟩
  ·cases e
 ·cases e
theorem b4h:∀xs ds w ys,mApp xs ds=some (w,ys)->∃d,w= .v d:=fun xs ds w ys e=>by
 unfold mApp at e;split at e
 ·split at e
  ·cases e;exact ⟨_,rfl⟩
  ·cases e
 ·cases e
theorem a0C (ho:QX X o f)(ha:QA X (e :: es) fa)(hbase:attributeBase o "append" X.env (eval o X.env)=eval o X.env:=by rfl)
  (hfew:((backTo pos (starEach (e :: es) X.env)).all (fun x=>!x.1) && (backToKw pos (keywordEach [] X.env)).all (fun x=>x.1.isSome) && decide ((e :: es).length + ([]:List Keyword).length + (if ([]:List Keyword).isEmpty then 0 else 1) < 30))=true:=by rfl)
  (hline:(apos.endLine == pos.line)=true:=by rfl) (hs:starEach (e :: es) X.env=(false,eval e X.env) :: starEach es X.env:=by rfl) (hpl:(backTo pos (starEach es X.env)).any (·.1)=false:=by rfl):QX X (.Call (.Attribute o "append" apos) (e :: es) [] pos) (fMut mApp f fa):=
 ⟨PE.weak (b0r PySem.F.plainAttrs_list PySem.F.slot_list_append PySem.F.type_list_append U1 ho.to ha.to hbase hfew hline hs hpl) (a4p a7V b4h)⟩
end
section
variable {P:Program}{w:World}{K:PySem.W.Frag}{mg:Str->Option Value}{base:Heap}
def spLaw (K:PySem.W.Frag):Sp:=fun vs H Q _=>∃(a:Addr) (ns:List Int),vs=[.ref a]/\((∃o,H a=some (.frz o (.lst (ns.map V.int))))\/SqL K (fun _=>none) a (ns.map V.int))/\ns.length<=63/\∀H',Q (.bl true) H'
theorem b3Z {st:Stmt}{f:Addr}{fd:FuncData}{N ps:List Str}{k np n:Nat}{G:FS}(F:Fun K "law" "law" st f fd)(S:FnScope N ps (defScope st))(hp:ps.length=np)(hn:N.length=n)
  (body:∀(cdv:Value) (A:Around) (outer:List Env) (s:Shared) (H:Hp) (E:XK),Room k (A.deeper (envOfC "law" (defScope st) s.heap.objs.size f cdv))->
   QSs (cxOf CX0 P w K mg base N "law" (defScope st) f cdv A outer s H E).nox (defBody st) G)
  (h:∀ns:List Int,ns.length<=63->runD np n G [.lst (ns.map D.int)]=some (.v (.bl true))):FnOk P w K mg base CX0 (k + 1) f fd ps (spLaw K):=by
 have den:∀(H:Hp) (a:Addr) (ns:List Int),((∃o,H a=some (.frz o (.lst (ns.map V.int))))\/SqL K (fun _=>none) a (ns.map V.int))->DenL K (fun _=>False) H [.lst (ns.map D.int)] [.ref a]:=fun H a ns hq=>by
  refine g9 ?_ i0;rw [Den];exact ⟨a,_,rfl,.inr hq,F4 ns⟩
 refine F.ok S (fun vs H Q E ⟨a,ns,ev,hq,hl,q⟩=>?_) (fun cdv A outer s H vs Q E hr ⟨a,ns,ev,hq,hl,q⟩=>⟨_,(body cdv A outer s H E hr).to,?_⟩)
 ·have e:=h ns hl;unfold runD at e;split at e
  ·rename_i hl';rw [ev,hp,<-hl'];rfl
  ·cases e
 ·have e:=h ns hl;unfold runD at e;split at e
  ·rename_i hl';cases e1:G (start0 n [.lst (ns.map D.int)]) with
   | none=>rw [e1] at e;cases e
   | some r=>
    rw [e1] at e;refine ⟨[],fun _=>False,[],_,r,a3j rfl hn (fun b z=>z.elim) (by rw [ev];exact den H a ns hq),e1,?_⟩
    cases r with
    | rt d' ρ'=>cases e;exact fun v H' s' _ d1=>by rw [Y1 d1];exact q H'
    | nx ρ'=>cases e
    | bk ρ'=>cases e
    | ct ρ'=>cases e
  ·cases e
theorem walk {l:PySem.W.OpenLaw}{q:Program}{loose:List Str}{XP:(Str->Option Value)->Heap->Prop}{YP:World->Heap->Prop}{d:DefRec}{K:Params->PySem.W.Frag}(hn:l.most=some 63)(hdf:d.params.defaults=[])
  (hY:∀(w:World) (h:Heap),YP w h->(K w.params).In h)
  (F:∀(w:World) (mg:Str->Option Value) (fa:Addr) (h:Heap),(K w.params).In h->h.Ns mainGlobals mg->mg d.name=some (.ref fa)->
   ∃fd:FuncData,(∀(s:Shared) (u:Value),BindsTo s fd ⟨[u],[]⟩ [("script",u)])/\∀base:Heap,(K w.params).In base->base.Ns mainGlobals mg->FnOk l.prog w (K w.params) mg base CX0 60 fa fd ["script"] (spLaw (K w.params))):
  PySem.W.WalkO q loose XP YP l.row.toRowW d [] (fun f vs=>PySem.call f vs):=
 L2.b1O (n:=63) (k:=60) (x:="script") (CX:=fun _=>CX0) (sp:=fun w=>spLaw (K w.params)) hn (by decide) hdf ⟨rfl,by decide,by decide,rfl⟩ hY F (fun _ H a ns hl hO hS=>⟨a,ns,rfl,(by
  rcases hS with (hS | ⟨o,hS⟩) | hS
  ·rcases hO a with z | ⟨o,ys,z⟩
   ·rw [z] at hS;cases hS
   ·rw [z] at hS;cases hS
  ·exact .inl ⟨o,hS⟩
  ·exact .inr (.inr hS)),hl,fun _=>rfl⟩) fun _ _ _ _ _ z=>z
end
end Z
set_option maxHeartbeats 1000000
set_option exponentiation.threshold 100000
namespace Z
open PySem L2
theorem b24 {d:D}:lfW (.v d)=lf d:=rfl
theorem b2n {d:D}:lfW (.o d)=lfC d:=rfl
theorem a6x {xs:List D}:lfC (.lst xs)=lfL xs:=rfl
theorem b0a {ks:List (List Key)}{xs:List D}:lfC (.dT ks xs)=lfL xs:=rfl
theorem lfC_dK {ks:List Key}{xs:List D}:lfC (.dK ks xs)=lfL xs:=rfl
def freeO:Option W->Bool
 | some (.l _)=>false
 | _=>true
theorem a1I:freeO none=true:=rfl
theorem a6G {d:D}:freeO (some (.v d))=true:=rfl
theorem a6X {d:D}:freeO (some (.o d))=true:=rfl
theorem freeO_l {d:D}:freeO (some (.l d))=false:=rfl
theorem free_nil {n:Nat}:freeSlot [] n=true:=rfl
theorem b0B {x:Option W}{ρ:Ev}:freeSlot (x :: ρ) 0=freeO x:=by
 unfold freeSlot freeO;rw [yB];cases x with
 | none=>rfl
 | some w=>cases w <;> rfl
theorem a83 {x:Option W}{ρ:Ev}{n:Nat}:freeSlot (x :: ρ) (n + 1)=freeSlot ρ n:=by
 unfold freeSlot;rw [qP]
theorem a2H {xs:List D}:isLst (some (.lst xs))=true:=rfl
theorem liB_none {ρ:Ev}:liB none ρ=true:=rfl
theorem liB_some {i j:Nat}{ρ:Ev}:liB (some (i,j)) ρ=(ownAt ρ j).isSome:=rfl
theorem own_nil {n:Nat}:ownAt [] n=none:=rfl
theorem b2q {w:W}{ρ:Ev}:ownAt (some w :: ρ) 0=w.own:=rfl
theorem own_n {ρ:Ev}:ownAt (none :: ρ) 0=none:=rfl
theorem b2L {x:Option W}{ρ:Ev}{n:Nat}:ownAt (x :: ρ) (n + 1)=ownAt ρ n:=by
 unfold ownAt;rw [qP]
theorem a9R {c d:D}{ρ:Ev}:setOwn (some (.l c) :: ρ) 0 d=some (.l d) :: ρ:=rfl
theorem a9K {c d:D}{ρ:Ev}:setOwn (some (.o c) :: ρ) 0 d=some (.o d) :: ρ:=rfl
theorem a8J {x:Option W}{ρ:Ev}{n:Nat}{d:D}:setOwn (x :: ρ) (n + 1) d=x :: setOwn ρ n d:=by
 unfold setOwn;rw [qP]
 split <;> rename_i h <;> simp [h]
theorem frz_nil {n:Nat}:frzAt [] n=none:=rfl
theorem b2j {d:D}{ρ:Ev}:frzAt (some (.o d) :: ρ) 0=some (some (.v d) :: ρ):=rfl
theorem frz_v {d:D}{ρ:Ev}:frzAt (some (.v d) :: ρ) 0=some (some (.v d) :: ρ):=rfl
theorem b2V {x:Option W}{ρ:Ev}{n:Nat}:frzAt (x :: ρ) (n + 1)=(frzAt ρ n).map fun ρ'=>x :: ρ':=by
 unfold frzAt;rw [qP]
 split <;> rename_i h <;> simp [h]
abbrev acc (zs:List D):Ev:=[some (.l (.lst zs))]
theorem a3r {B:Ev}{zs:List D}{k:Nat}(h:B.length=k):ownAt (B ++ acc zs) k=some (.lst zs):=by
 unfold ownAt;rw [qJ (by walk_at "o"),h,xB];rfl
theorem b1P {B:Ev}{zs ys:List D}{k:Nat}(h:B.length=k):setOwn (B ++ acc zs) k (.lst ys)=B ++ acc ys:=by
 unfold setOwn;have e:(B ++ acc zs)[k]? =some (some (.l (.lst zs))):=by rw [qJ (by walk_at "o"),h,xB];rfl
 rw [e];simp only;rw [List.set_append_right _ _ (by walk_at "o"),h,xB];rfl
theorem app_v {B:Ev}{zs:List D}{k:Nat}{w:W}{d:D}(h:B.length=k)(hw:w= .v d\/w= .o d)(hl:zs.length < lim):appTo k (w,B ++ acc zs)=some (B ++ acc (zs ++ [d])):=by
 unfold appTo;have e:w.fz= .v d:=by rcases hw with rfl | rfl <;> rfl
 simp only [e,takeAll,qZ,bind_some];rw [a3r h];simp only [if_pos hl,b1P h]
theorem T4 {k:Nat}{gf:FG}{t:FT}{fe:FX}(I:Ev->Prop)(p:D->Bool)(h:D->D)(hI:∀B,I B->B.length=k):∀(xs:List D),(∀x∈xs,∀B zs,I B->∃B' w,I B'/\gf x (B ++ acc zs)=some (B' ++ acc zs)/\t (B' ++ acc zs)=some (p x,B' ++ acc zs)/\(p x=true->fe (B' ++ acc zs)=some (w,B' ++ acc zs)/\(w= .v (h x)\/w= .o (h x))))->
  ∀(B:Ev) (zs:List D),zs.length + xs.length<=lim->I B->∃B',I B'/\loopC (turnC k gf t fe) xs (B ++ acc zs)=some (B' ++ acc (zs ++ (xs.filter p).map h))
 | [],st,B,zs,hl,i=>⟨B,i,by simp [loopC]⟩
 | x :: xs,st,B,zs,hl,i=>by
  obtain ⟨B1,w,i1,e1,e2,e3⟩:=st x zH B zs i;rw [qI] at hl;cases hp:p x with
  | true=>
   obtain ⟨e4,hw⟩:=e3 hp;obtain ⟨B2,i2,e5⟩:=T4 I p h hI xs (fun y hy=>st y (zI _ hy)) B1 (zs ++ [h x]) (by rw [zT,jQ];walk_at "o") i1
   refine ⟨B2,i2,?_⟩;rw [loopC,turnC,e1];have ea:=app_v (zs:=zs) (hI B1 i1) hw (by walk_at "o")
   simp only [bind_some,e2,hp,qQ,e4,ea];rw [e5,yC hp,zK,jX];rfl
  | false=>
   obtain ⟨B2,i2,e5⟩:=T4 I p h hI xs (fun y hy=>st y (zI _ hy)) B1 zs (by walk_at "o") i1
   refine ⟨B2,i2,?_⟩;rw [loopC,turnC,e1];simp only [bind_some,e2,hp,qX,jW];rw [e5,List.filter_cons_of_neg (by rw [hp];exact zQ)]
theorem t6 {fi:FI}{js:List (Option Nat)}{gf:FG}{t:FT}{fe:FX}{ρ ρ1:Ev}{xs:List D}(I:Ev->Prop)(p:D->Bool)(h:D->D)(ei:fi ρ=some (xs,ρ1))(hI:∀B,I B->B.length=js.length)(h0:I (capE none js ρ1))(hl:xs.length<=lim)(hf:lfL ((xs.filter p).map h)=true)
  (st:∀x∈xs,∀B zs,I B->∃B' w,I B'/\gf x (B ++ acc zs)=some (B' ++ acc zs)/\t (B' ++ acc zs)=some (p x,B' ++ acc zs)/\(p x=true->fe (B' ++ acc zs)=some (w,B' ++ acc zs)/\(w= .v (h x)\/w= .o (h x)))):
  fComp fi none js gf t fe ρ=some (.o (.lst ((xs.filter p).map h)),ρ1):=by
 obtain ⟨B',i',e⟩:=T4 I p h hI xs st (capE none js ρ1) [] (by rw [jP];walk_at "o") h0
 unfold fComp;rw [ei];simp only [bind_some,liB,qQ,Option.map_none];rw [show capE none js ρ1 ++ [some (.l (.lst []))]=capE none js ρ1 ++ acc [] from rfl,e];simp only [bind_some,nil_append,a3r (hI B' i'),backG,lfC,hf,qQ]
theorem m4 {α:Type}(xs:List α):xs.filter (fun _=>true)=xs:=by induction xs with
 | nil=>rfl
 | cons x xs ih=>rw [yC rfl,ih]
theorem b1I {a b:Int}{m n:Nat}(ha:a.natAbs < 2 ^ m)(hb:b.natAbs < 2 ^ n)(h:m + n<=8000):(a * b).natAbs < big:=by
 rw [xS];unfold big;have h1:a.natAbs * b.natAbs < 2 ^ m * 2 ^ n:=jR ha hb;rw [<-Nat.pow_add] at h1;exact zB h1 (qD (by decide) h)
theorem D5 {a b:Int}{m n:Nat}(ha:a.natAbs < 2 ^ m)(hb:b.natAbs < 2 ^ n)(hm:m<=8000)(hn:n<=8000):mOk a b:=
 .inr (.inr ⟨zB ha (qD (by decide) hm),zB hb (qD (by decide) hn)⟩)
theorem a9I (m n:Nat)(h:0 < n):Nat.gcd m n=Nat.gcd n (m % n):=by
 rw [Nat.gcd_comm m n,Nat.gcd_rec n m,Nat.gcd_comm]
abbrev gcC (j:Nat):FT:=fTest (fBin oGt (fVar j) (fC (.int 0)))
abbrev gcB (i j:Nat):FS:=fPar i j (fCons (fVar j) (fCons (fMod (fVar i) (fVar j)) fNil))
theorem set2 {ρ:Ev}{i j:Nat}(hij:i≠j)(a b c d:Option W):(((ρ.set i a).set j b).set i c).set j d=(ρ.set i c).set j d:=by
 apply xT;intro l;simp only [List.getElem?_set,qL]
 by_cases h1:j=l <;> by_cases h2:i=l <;> simp [h1,h2]
theorem a2V {i j:Nat}(hij:i≠j):∀(k m n:Nat) (ρ:Ev),n<=k->ρ[i]? =some (some (.v (.int (m:Nat))))->ρ[j]? =some (some (.v (.int (n:Nat))))->whileF (gcC j) (gcB i j) (k + 1) ρ=some (.nx ((ρ.set i (some (.v (.int (Nat.gcd m n:Nat))))).set j (some (.v (.int 0)))))
 | k,m,n,ρ,hk,h1,h2=>by
  have tst:gcC j ρ=some (decide ((0:Int) < (n:Int)),ρ):=by
   simp only [gcC,fTest,fBin,fVar,h2,fC,bind_some,W.fz,dr,oI0,qZ]
  rw [whileF,tst]
  by_cases hn:0 < n
  ·have bd:gcB i j ρ=some (.nx ((ρ.set i (some (.v (.int (n:Nat))))).set j (some (.v (.int ((m % n:Nat):Int)))))):=by
    have f1:freeSlot ρ i=true:=by simp only [freeSlot,h1]
    have f2:freeSlot (ρ.set i (some (.v (.int (n:Nat))))) j=true:=by simp only [freeSlot,zO hij,h2]
    have p:(0:Int) < (n:Nat):=by walk_at "o"
    simp only [gcB,fPar,fCons,fNil,fVar,h1,h2,fBin,bind_some,W.fz,dr,oI,p,qQ,qZ,takeAll,f1,f2,and_self];rfl
   have d:decide ((0:Int) < (n:Int))=true:=by simp;walk_at "o"
   simp only [bind_some,d,qQ,bd];cases k with
   | zero=>walk_at "o"
   | succ k=>
    have hlt:m % n < n:=Nat.mod_lt m hn;have li:i < ρ.length:=(zJ.mp h1).1;have lj:j < ρ.length:=(zJ.mp h2).1;rw [a2V hij k n (m % n) _ (by walk_at "o") (by rw [zO (qO hij)];exact u6 li) (u6 (by simpa using lj)),set2 hij,<-a9I m n hn]
  ·have hn0:n=0:=by walk_at "o"
   subst hn0;have d:decide ((0:Int) < ((0:Nat):Int))=false:=by decide
   simp only [bind_some,d,qX,jW,Nat.gcd_zero_right];congr 2;apply xT;intro l
   by_cases lj:l=j
   ·subst lj;rw [u6 (by have:=(zJ.mp h2).1;simpa using this)];exact h2
   ·rw [zO (qO lj)]
    by_cases li:l=i
    ·subst li;rw [u6 (zJ.mp h1).1];exact h1
    ·rw [zO (qO li)]
theorem a4W {i j:Nat}(hij:i≠j){a b:Int}{ρ:Ev}(ha:0<=a)(hb:0<=b)(h1:ρ[i]? =some (some (.v (.int a))))(h2:ρ[j]? =some (some (.v (.int b)))):whileV (gcC j) (gcB i j) ρ=some (.nx ((ρ.set i (some (.v (.int (Int.gcd a b:Nat))))).set j (some (.v (.int 0))))):=by
 obtain ⟨m,rfl⟩:=Int.eq_ofNat_of_zero_le ha;obtain ⟨n,rfl⟩:=Int.eq_ofNat_of_zero_le hb;exact a2x (a2V hij n m n ρ (zE _) h1 h2)
def ratD (q:Rat):D:=.tup [.int q.num,.int q.den]
def Sz (n:Nat) (q:Rat):Prop:=q.num.natAbs < 2 ^ n/\q.den < 2 ^ n
theorem Sz.mono {m n:Nat}{q:Rat}(h:Sz m q)(hm:m<=n):Sz n q:=⟨zB h.1 (qD (by decide) hm),zB h.2 (qD (by decide) hm)⟩
theorem O2 {t b:Int}(hb:0 < b):(Rat.divInt t b).num=t / (Int.gcd t b:Nat)/\((Rat.divInt t b).den:Int)=b / (Int.gcd t b:Nat):=by
 obtain ⟨n,rfl⟩:=Int.eq_ofNat_of_zero_le (Int.le_of_lt hb);have hn:n≠0:=by walk_at "o"
 rw [Rat.divInt_ofNat,<-Rat.normalize_eq_mkRat hn,Rat.normalize_eq];exact ⟨rfl,by simp [Int.gcd]⟩
theorem G3 (q:Rat):Rat.divInt q.num q.den=q:=Rat.num_divInt_den q
theorem a8H {p q:Rat}(h:ratD p=ratD q):p=q:=by
 unfold ratD at h;injection h with h
 injection h with h1 h2
 injection h2 with h2 _
 injection h1 with h1
 injection h2 with h2
 exact Rat.ext h1 (by walk_at "o")
theorem W5 (p q:Rat):Rat.divInt (p.num * q.den + q.num * p.den) (p.den * q.den)=p + q:=by
 rw [<-Rat.divInt_add_divInt _ _ (by have:=p.den_nz;walk_at "o") (by have:=q.den_nz;walk_at "o"),G3,G3]
theorem P5 {t b:Int}{n:Nat}(hb:0 < b)(ht:t.natAbs < 2 ^ n)(h:b.natAbs < 2 ^ n):Sz n (Rat.divInt t b):=by
 obtain ⟨e1,e2⟩:=O2 (t:=t) hb;constructor
 ·rw [e1]
  have:(t / ((Int.gcd t b:Nat):Int)).natAbs<=t.natAbs:=by
   have hd:((Int.gcd t b:Nat):Int) ∣ t:=Int.gcd_dvd_left ..;rw [Int.natAbs_ediv_of_dvd hd];exact Nat.div_le_self ..
  walk_at "o"
 ·have:((Rat.divInt t b).den:Int)<=b:=by
   rw [e2];exact Int.ediv_le_self _ (Int.le_of_lt hb)
  walk_at "o"
section
variable {ρ ρ1 ρ2:Ev}{op:D->D->Option W}{o:D->Option W}{f g h:FX}{t u:FT}{fa:FA}{F G:FS}{i j:Nat}{d e x y:D}{w z:W}{ws:List W}{ds xs ys:List D}{r:R}{k b:Bool}
def varO (i:Nat) (ρ:Ev):Option (Option W)->Option (W×Ev)
 | some (some (.v d))=>some (.v d,ρ)
 | some (some (.r _))=>none
 | some (some _)=>some (.r i,ρ)
 | _=>none
theorem b3v:fVar i ρ=varO i ρ ρ[i]?:=by unfold fVar varO;split <;> simp_all
theorem a6t:varO i ρ (some (some (.v d)))=some (.v d,ρ):=rfl
theorem a6w:varO i ρ (some (some (.o d)))=some (.r i,ρ):=rfl
theorem a7B:varO i ρ (some (some (.l d)))=some (.r i,ρ):=rfl
theorem r_c:fC d ρ=some (.v d,ρ):=rfl
def drO:Option (Option W)->Option D
 | some (some (.v d))=>some d
 | some (some w)=>w.own
 | _=>none
theorem a8G:dr ρ (.v d)=some d:=rfl
theorem b0L:dr ρ (.r i)=drO ρ[i]?:=by unfold dr drO;rfl
theorem r_drO_v:drO (some (some (.v d)))=some d:=rfl
theorem a6H:drO (some (some (.o d)))=some d:=rfl
theorem a7r:drO (some (some (.l d)))=some d:=rfl
theorem a92:(W.v d).fz= .v d:=rfl
theorem a8N:(W.o d).fz= .v d:=rfl
theorem a9M:(W.r i).fz= .r i:=rfl
def drsC (ρ:Ev) (ws:List W):Option D->Option (List D)
 | some d=>(drs ρ ws).map fun ds=>d :: ds
 | none=>none
theorem a7q:drs ρ []=some []:=rfl
theorem a67:drs ρ (w :: ws)=drsC ρ ws (dr ρ w):=by rw [drs];unfold drsC;cases dr ρ w <;> rfl
theorem a8Z:drsC ρ ws (some d)=(drs ρ ws).map fun ds=>d :: ds:=rfl
def bin2 (op:D->D->Option W) (g:FX):Option (W×Ev)->Option (W×Ev)
 | some p=>(g p.2).bind fun q=>(dr q.2 p.1.fz).bind fun x=>(dr q.2 q.1.fz).bind fun y=>(op x y).map fun w=>(w,q.2)
 | none=>none
def bin3 (op:D->D->Option W) (w:W):Option (W×Ev)->Option (W×Ev)
 | some q=>(dr q.2 w.fz).bind fun x=>(dr q.2 q.1.fz).bind fun y=>(op x y).map fun w=>(w,q.2)
 | none=>none
def bin4 (op:D->D->Option W) (ρ:Ev):Option D->Option D->Option (W×Ev)
 | some x,some y=>(op x y).map fun w=>(w,ρ)
 | _,_=>none
def withE (ρ:Ev):Option W->Option (W×Ev)
 | some w=>some (w,ρ)
 | none=>none
theorem b2x:fBin op f g ρ=bin2 op g (f ρ):=by unfold fBin bin2;cases f ρ <;> rfl
theorem a9h:bin2 op g (some (w,ρ))=bin3 op w (g ρ):=by unfold bin2 bin3;dsimp only;cases g ρ <;> rfl
theorem b0q:bin3 op w (some (z,ρ))=bin4 op ρ (dr ρ w.fz) (dr ρ z.fz):=by unfold bin3 bin4;dsimp only;cases dr ρ w.fz <;> cases dr ρ z.fz <;> rfl
theorem a9y:bin4 op ρ (some x) (some y)=withE ρ (op x y):=by unfold bin4 withE;dsimp only;cases op x y <;> rfl
theorem b00:withE ρ (some w)=some (w,ρ):=rfl
def un2 (o:D->Option W):Option (W×Ev)->Option (W×Ev)
 | some p=>(dr p.2 p.1.fz).bind fun x=>(o x).map fun w=>(w,p.2)
 | none=>none
def un3 (o:D->Option W) (ρ:Ev):Option D->Option (W×Ev)
 | some x=>withE ρ (o x)
 | none=>none
theorem r_un:fUn o f ρ=un2 o (f ρ):=by unfold fUn un2;cases f ρ <;> rfl
theorem b2D:un2 o (some (w,ρ))=un3 o ρ (dr ρ w.fz):=by unfold un2 un3 withE;dsimp only;cases dr ρ w.fz with
 | none=>rfl
 | some x=>simp only [bind_some];cases o x <;> rfl
theorem b2I:un3 o ρ (some x)=withE ρ (o x):=rfl
def tstO:Option (W×Ev)->Option (Bool×Ev)
 | some (.v (.bl k),ρ)=>some (k,ρ)
 | _=>none
theorem a2k:fTest f ρ=tstO (f ρ):=by
 unfold fTest tstO;cases f ρ with
 | none=>rfl
 | some p=>
  obtain ⟨w,ρ⟩:=p;cases w with
  | v d=>cases d <;> rfl
  | _=>rfl
theorem a9T:tstO (some (.v (.bl k),ρ))=some (k,ρ):=rfl
def tru2:Option (W×Ev)->Option (Bool×Ev)
 | some p=>(dr p.2 p.1.fz).bind fun d=>(truth d).map fun k=>(k,p.2)
 | none=>none
def tru3 (ρ:Ev):Option D->Option (Bool×Ev)
 | some d=>(truth d).map fun k=>(k,ρ)
 | none=>none
theorem a9q:fTru f ρ=tru2 (f ρ):=by unfold fTru tru2;cases f ρ <;> rfl
theorem a8U:tru2 (some (w,ρ))=tru3 ρ (dr ρ w.fz):=by unfold tru2 tru3;dsimp only;cases dr ρ w.fz <;> rfl
theorem a4w:tru3 ρ (some (.bl k))=some (k,ρ):=rfl
theorem b4C:tru3 ρ (some (.tup xs))=some (!xs.isEmpty,ρ):=rfl
theorem a2X:tru3 ρ (some (.lst xs))=some (!xs.isEmpty,ρ):=rfl
theorem b4G:tru3 ρ (some .non)=some (false,ρ):=rfl
def notO:Option (Bool×Ev)->Option (Bool×Ev)
 | some p=>some (!p.1,p.2)
 | none=>none
theorem b3f:fNot t ρ=notO (t ρ):=by unfold fNot notO;cases t ρ <;> rfl
theorem a9s:notO (some (k,ρ))=some (!k,ρ):=rfl
def andO (u:FT):Option (Bool×Ev)->Option (Bool×Ev)
 | some (true,ρ)=>u ρ
 | some (false,ρ)=>some (false,ρ)
 | none=>none
def orO (u:FT):Option (Bool×Ev)->Option (Bool×Ev)
 | some (true,ρ)=>some (true,ρ)
 | some (false,ρ)=>u ρ
 | none=>none
theorem b3y:fAnd t u ρ=andO u (t ρ):=by unfold fAnd andO;cases t ρ with
 | none=>rfl
 | some p=>obtain ⟨k,ρ⟩:=p;cases k <;> rfl
theorem r_or:fOr t u ρ=orO u (t ρ):=by unfold fOr orO;cases t ρ with
 | none=>rfl
 | some p=>obtain ⟨k,ρ⟩:=p;cases k <;> rfl
theorem a7y:andO u (some (true,ρ))=u ρ:=id rfl
theorem r_and_f:andO u (some (false,ρ))=some (false,ρ):=rfl
theorem b09:orO u (some (true,ρ))=some (true,ρ):=rfl
theorem a8L:orO u (some (false,ρ))=u ρ:=id rfl
def andV (g:FX):Option (Bool×Ev)->Option (W×Ev)
 | some (true,ρ)=>g ρ
 | some (false,ρ)=>some (.v (.bl false),ρ)
 | none=>none
def orV (g:FX):Option (Bool×Ev)->Option (W×Ev)
 | some (true,ρ)=>some (.v (.bl true),ρ)
 | some (false,ρ)=>g ρ
 | none=>none
def notV:Option (Bool×Ev)->Option (W×Ev)
 | some (k,ρ)=>some (.v (.bl (!k)),ρ)
 | none=>none
def ifV (f g:FX):Option (Bool×Ev)->Option (W×Ev)
 | some (true,ρ)=>f ρ
 | some (false,ρ)=>g ρ
 | none=>none
theorem b0d:fAndV f g ρ=andV g (tstO (f ρ)):=by unfold fAndV andV;rw [a2k];cases tstO (f ρ) with
 | none=>rfl
 | some p=>obtain ⟨k,ρ⟩:=p;cases k <;> rfl
theorem b2K:fOrV f g ρ=orV g (tstO (f ρ)):=by unfold fOrV orV;rw [a2k];cases tstO (f ρ) with
 | none=>rfl
 | some p=>obtain ⟨k,ρ⟩:=p;cases k <;> rfl
theorem r_notV:fNotV f ρ=notV (tstO (f ρ)):=by unfold fNotV notV;rw [a2k];cases tstO (f ρ) <;> rfl
theorem r_if:fIf t f g ρ=ifV f g (t ρ):=by unfold fIf ifV;cases t ρ with
 | none=>rfl
 | some p=>obtain ⟨k,ρ⟩:=p;cases k <;> rfl
theorem a4X:andV g (some (true,ρ))=g ρ:=id rfl
theorem a4U:andV g (some (false,ρ))=some (.v (.bl false),ρ):=rfl
theorem a7n:orV g (some (true,ρ))=some (.v (.bl true),ρ):=rfl
theorem a6O:orV g (some (false,ρ))=g ρ:=id rfl
theorem r_notV_s:notV (some (k,ρ))=some (.v (.bl (!k)),ρ):=rfl
theorem a95:ifV f g (some (true,ρ))=f ρ:=id rfl
theorem a89:ifV f g (some (false,ρ))=g ρ:=id rfl
def cons2 (fa:FA):Option (W×Ev)->Option (List W×Ev)
 | some p=>(fa p.2).map fun q=>(p.1.fz :: q.1,q.2)
 | none=>none
def cons3 (w:W):Option (List W×Ev)->Option (List W×Ev)
 | some q=>some (w :: q.1,q.2)
 | none=>none
theorem b2T:fNil ρ=some ([],ρ):=rfl
theorem a9O:fCons f fa ρ=cons2 fa (f ρ):=by unfold fCons cons2;cases f ρ <;> rfl
theorem a6v:cons2 fa (some (w,ρ))=cons3 w.fz (fa ρ):=by unfold cons2 cons3;dsimp only;cases fa ρ <;> rfl
theorem a6Y:cons3 w (some (ws,ρ))=some (w :: ws,ρ):=rfl
def takC (d:D):Option (List D×Ev)->Option (List D×Ev)
 | some p=>some (d :: p.1,p.2)
 | none=>none
def takR (i:Nat) (ws:List W):Option Ev->Option (List D×Ev)
 | some ρ1=>match ρ1[i]? with
  | some (some (.v d))=>(takeAll ρ1 ws).map fun p=>(d :: p.1,p.2)
  | _=>none
 | none=>none
def takS (ρ:Ev) (ws:List W):Option (Option W)->Option (List D×Ev)
 | some (some (.v d))=>takC d (takeAll ρ ws)
 | _=>none
theorem a7f:takeAll ρ []=some ([],ρ):=rfl
theorem a6A:takeAll ρ (.v d :: ws)=takC d (takeAll ρ ws):=by rw [takeAll];unfold takC;cases takeAll ρ ws <;> rfl
theorem a7d:takeAll ρ (.r i :: ws)=takR i ws (frzAt ρ i):=by rw [takeAll];unfold takR;cases frzAt ρ i <;> rfl
theorem a8A:takC d (some (ds,ρ))=some (d :: ds,ρ):=rfl
theorem b0y:takR i ws (some ρ)=takS ρ ws ρ[i]?:=by
 unfold takR takS;dsimp only
 split
 ·unfold takC;cases takeAll ρ ws <;> rfl
 ·rfl
theorem b0o:takS ρ ws (some (some (.v d)))=takC d (takeAll ρ ws):=rfl
def disp2 (mk:List D->W):Option (List W×Ev)->Option (W×Ev)
 | some p=>(takeAll p.2 p.1).bind fun q=>if q.1.length<=lim then some (mk q.1,q.2) else none
 | none=>none
def disp3 (mk:List D->W):Option (List D×Ev)->Option (W×Ev)
 | some q=>if q.1.length<=lim then some (mk q.1,q.2) else none
 | none=>none
theorem b2u:fTup fa ρ=disp2 (fun ds=>.v (.tup ds)) (fa ρ):=by unfold fTup disp2;cases fa ρ <;> rfl
theorem b2s:fLst fa ρ=disp2 (fun ds=>.o (.lst ds)) (fa ρ):=by unfold fLst disp2;cases fa ρ <;> rfl
theorem a7h {mk:List D->W}:disp2 mk (some (ws,ρ))=disp3 mk (takeAll ρ ws):=by unfold disp2 disp3;dsimp only;cases takeAll ρ ws <;> rfl
theorem a7v {mk:List D->W}:disp3 mk (some (ds,ρ))=if ds.length<=lim then some (mk ds,ρ) else none:=rfl
def call2 (k:List D->Option W):Option (List W×Ev)->Option (W×Ev)
 | some p=>(drs p.2 p.1).bind fun ds=>(k ds).map fun w=>(w,p.2)
 | none=>none
def call3 (k:List D->Option W) (ρ:Ev):Option (List D)->Option (W×Ev)
 | some ds=>withE ρ (k ds)
 | none=>none
theorem a8F {k:List D->Option W}:fCall k fa ρ=call2 k (fa ρ):=by unfold fCall call2;cases fa ρ <;> rfl
theorem a6C {k:List D->Option W}:call2 k (some (ws,ρ))=call3 k ρ (drs ρ ws):=by
 unfold call2 call3 withE;dsimp only;cases drs ρ ws with
 | none=>rfl
 | some ds=>simp only [bind_some];cases k ds <;> rfl
theorem a63 {k:List D->Option W}:call3 k ρ (some ds)=withE ρ (k ds):=rfl
theorem r_k1 {g:D->Option W}:k1 g [d]=g d:=rfl
theorem r_k2 {g:Int->Int->D}{i j:Int}:k2 g [.int i,.int j]=some (.v (g i j)):=rfl
def def2 (g:List D->Option W):Option (List W×Ev)->Option (W×Ev)
 | some p=>(drs p.2 p.1).bind fun ds=>(g ds).bind fun w=>if lfW w=true then some (w,p.2) else (frzL p.1 p.2).map fun ρ2=>(w,ρ2)
 | none=>none
def def3 (g:List D->Option W) (ws:List W) (ρ:Ev):Option (List D)->Option (W×Ev)
 | some ds=>(g ds).bind fun w=>if lfW w=true then some (w,ρ) else (frzL ws ρ).map fun ρ2=>(w,ρ2)
 | none=>none
def def4 (ws:List W) (ρ:Ev):Option W->Option (W×Ev)
 | some w=>if lfW w=true then some (w,ρ) else (frzL ws ρ).map fun ρ2=>(w,ρ2)
 | none=>none
theorem b2k {g:List D->Option W}:fDef g fa ρ=def2 g (fa ρ):=by unfold fDef def2;cases fa ρ <;> rfl
theorem a9B {g:List D->Option W}:def2 g (some (ws,ρ))=def3 g ws ρ (drs ρ ws):=by unfold def2 def3;dsimp only;cases drs ρ ws <;> rfl
theorem b0w {g:List D->Option W}:def3 g ws ρ (some ds)=def4 ws ρ (g ds):=by unfold def3 def4;dsimp only;cases g ds <;> rfl
theorem a97:def4 ws ρ (some w)=if lfW w=true then some (w,ρ) else (frzL ws ρ).map fun ρ2=>(w,ρ2):=rfl
def dl2 (g:D->List D->Option (W×D)):Option (List W×Ev)->Option (W×Ev)
 | some (.r i :: ws,ρ)=>(ownAt ρ i).bind fun c=>(drs ρ ws).bind fun ds=>(g c ds).bind fun z=>if noR i ws=true/\lfC z.2=true then (if lfW z.1=true then some (z.1,setOwn ρ i z.2) else (frzL ws (setOwn ρ i z.2)).map fun ρ2=>(z.1,ρ2)) else none
 | _=>none
def dl3 (g:D->List D->Option (W×D)) (i:Nat) (ws:List W) (ρ:Ev):Option D->Option (List D)->Option (W×Ev)
 | some c,some ds=>(g c ds).bind fun z=>if noR i ws=true/\lfC z.2=true then (if lfW z.1=true then some (z.1,setOwn ρ i z.2) else (frzL ws (setOwn ρ i z.2)).map fun ρ2=>(z.1,ρ2)) else none
 | _,_=>none
def dl4 (i:Nat) (ws:List W) (ρ:Ev):Option (W×D)->Option (W×Ev)
 | some z=>if noR i ws=true/\lfC z.2=true then (if lfW z.1=true then some (z.1,setOwn ρ i z.2) else (frzL ws (setOwn ρ i z.2)).map fun ρ2=>(z.1,ρ2)) else none
 | none=>none
theorem r_dl {g:D->List D->Option (W×D)}:fDefL g fa ρ=dl2 g (fa ρ):=by
 unfold fDefL dl2;cases fa ρ with
 | none=>rfl
 | some p=>
  obtain ⟨ws,ρ⟩:=p;cases ws with
  | nil=>rfl
  | cons w ws=>cases w <;> rfl
theorem b2J {g:D->List D->Option (W×D)}:dl2 g (some (.r i :: ws,ρ))=dl3 g i ws ρ (ownAt ρ i) (drs ρ ws):=by unfold dl2 dl3;dsimp only;cases ownAt ρ i <;> cases drs ρ ws <;> rfl
theorem b22 {g:D->List D->Option (W×D)}:dl3 g i ws ρ (some d) (some ds)=dl4 i ws ρ (g d ds):=by unfold dl3 dl4;dsimp only;cases g d ds <;> rfl
theorem b2t:dl4 i ws ρ (some (w,d))=if noR i ws=true/\lfC d=true then (if lfW w=true then some (w,setOwn ρ i d) else (frzL ws (setOwn ρ i d)).map fun ρ2=>(w,ρ2)) else none:=rfl
def sl2 (lo hi:FO):Option (W×Ev)->Option (W×Ev)
 | some p=>(lo p.2).bind fun l=>(hi l.2).bind fun u=>(dr u.2 p.1.fz).bind fun x=>(slD x l.1 u.1).map fun w=>(w,u.2)
 | none=>none
def sl3 (hi:FO) (w:W):Option (Option Int×Ev)->Option (W×Ev)
 | some l=>(hi l.2).bind fun u=>(dr u.2 w.fz).bind fun x=>(slD x l.1 u.1).map fun w=>(w,u.2)
 | none=>none
def sl4 (w:W) (l:Option Int):Option (Option Int×Ev)->Option (W×Ev)
 | some u=>(dr u.2 w.fz).bind fun x=>(slD x l u.1).map fun w=>(w,u.2)
 | none=>none
def sl5 (l u:Option Int) (ρ:Ev):Option D->Option (W×Ev)
 | some x=>withE ρ (slD x l u)
 | none=>none
theorem r_sl {lo hi:FO}:fSl f lo hi ρ=sl2 lo hi (f ρ):=by unfold fSl sl2;cases f ρ <;> rfl
theorem b2N {lo hi:FO}:sl2 lo hi (some (w,ρ))=sl3 hi w (lo ρ):=by unfold sl2 sl3;dsimp only;cases lo ρ <;> rfl
theorem b2G {hi:FO}{l:Option Int}:sl3 hi w (some (l,ρ))=sl4 w l (hi ρ):=by unfold sl3 sl4;dsimp only;cases hi ρ <;> rfl
theorem b3B {l u:Option Int}:sl4 w l (some (u,ρ))=sl5 l u ρ (dr ρ w.fz):=by
 unfold sl4 sl5 withE;dsimp only;cases dr ρ w.fz with
 | none=>rfl
 | some x=>simp only [bind_some];cases slD x l u <;> rfl
theorem b2o {l u:Option Int}:sl5 l u ρ (some x)=withE ρ (slD x l u):=rfl
theorem a9X {l u:Option Int}:slD (.tup xs) l u=some (.v (.tup (cutD xs l u))):=rfl
theorem r_sl_l {l u:Option Int}:slD (.lst xs) l u=some (.o (.lst (cutD xs l u))):=rfl
def o1O:Option (W×Ev)->Option (Option Int×Ev)
 | some (.v (.int i),ρ)=>some (some i,ρ)
 | _=>none
theorem r_o0:fO0 ρ=some (none,ρ):=rfl
theorem r_o1:fO1 f ρ=o1O (f ρ):=by
 unfold fO1 o1O;cases f ρ with
 | none=>rfl
 | some p=>
  obtain ⟨w,ρ⟩:=p;cases w with
  | v d=>cases d <;> rfl
  | _=>rfl
theorem b2m {n:Int}:o1O (some (.v (.int n),ρ))=some (some n,ρ):=rfl
def thnO (G:FS):Option R->Option R
 | some (.nx ρ)=>G ρ
 | o=>o
theorem b0h:fThen F G ρ=thnO G (F ρ):=by unfold fThen thnO;cases F ρ with
 | none=>rfl
 | some r=>cases r <;> rfl
theorem a2P:thnO G (some (.nx ρ))=G ρ:=id rfl
theorem a2K:thnO G (some (.rt w ρ))=some (.rt w ρ):=id rfl
theorem b4H:thnO G (some (.bk ρ))=some (.bk ρ):=rfl
theorem b4I:thnO G (some (.ct ρ))=some (.ct ρ):=rfl
def retO:Option (W×Ev)->Option R
 | some p=>retW p.2 p.1
 | none=>none
def retS (ρ:Ev):Option (Option W)->Option R
 | some (some (.o d))=>some (.rt (.o d) ρ)
 | some (some (.v d))=>some (.rt (.v d) ρ)
 | _=>none
theorem b2v:fRet f ρ=retO (f ρ):=by unfold fRet retO;cases f ρ <;> rfl
theorem a6s:retO (some (.v d,ρ))=some (.rt (.v d) ρ):=rfl
theorem a6y:retO (some (.o d,ρ))=some (.rt (.o d) ρ):=rfl
theorem a7p:retO (some (.r i,ρ))=retS ρ ρ[i]?:=by unfold retO retS;first | (dsimp only [retW];done) | (dsimp only [retW];rfl)
theorem a41:retS ρ (some (some (.o d)))=some (.rt (.o d) ρ):=rfl
theorem r_retS_v:retS ρ (some (some (.v d)))=some (.rt (.v d) ρ):=rfl
def ifO (F G:FS):Option (Bool×Ev)->Option R
 | some (true,ρ)=>F ρ
 | some (false,ρ)=>G ρ
 | none=>none
theorem r_ifS:fIfS t F G ρ=ifO F G (t ρ):=by unfold fIfS ifO;cases t ρ with
 | none=>rfl
 | some p=>obtain ⟨k,ρ⟩:=p;cases k <;> rfl
theorem a65:ifO F G (some (true,ρ))=F ρ:=id rfl
theorem a69:ifO F G (some (false,ρ))=G ρ:=id rfl
def asgO (i:Nat):Option (W×Ev)->Option R
 | some p=>(bindW p.2 i p.1).map .nx
 | none=>none
def bndO (i j:Nat):Option Ev->Option R
 | some ρ1=>match ρ1[j]? with
  | some (some (.v d))=>if freeSlot ρ1 i=true then some (.nx (ρ1.set i (some (.v d)))) else none
  | _=>none
 | none=>none
def bndS (i:Nat) (ρ:Ev):Option (Option W)->Option R
 | some (some (.v d))=>if freeSlot ρ i=true then some (.nx (ρ.set i (some (.v d)))) else none
 | _=>none
theorem b23:fAsg i f ρ=asgO i (f ρ):=by unfold fAsg asgO;cases f ρ <;> rfl
theorem a6B:asgO i (some (.v d,ρ))=if freeSlot ρ i=true then some (.nx (ρ.set i (some (.v d)))) else none:=by unfold asgO;dsimp only [bindW];split <;> rfl
theorem a6D:asgO i (some (.o d,ρ))=if freeSlot ρ i=true then some (.nx (ρ.set i (some (.o d)))) else none:=by unfold asgO;dsimp only [bindW];split <;> rfl
theorem r_asg_r:asgO i (some (.r j,ρ))=bndO i j (frzAt ρ j):=by
 unfold asgO bndO;dsimp only [bindW];cases frzAt ρ j with
 | none=>rfl
 | some ρ1=>
  simp only [bind_some];cases q:ρ1[j]? with
  | none=>rfl
  | some o=>
   cases o with
   | none=>rfl
   | some w=>
    cases w with
    | v d=>dsimp only;split <;> rfl
    | _=>rfl
theorem r_bndO:bndO i j (some ρ)=bndS i ρ ρ[j]?:=by
 unfold bndO bndS;rfl
theorem r_bndS:bndS i ρ (some (some (.v d)))=if freeSlot ρ i=true then some (.nx (ρ.set i (some (.v d)))) else none:=rfl
def agO2 (gf:FG):Option (W×Ev)->Option R
 | some p=>(takeAll p.2 [p.1.fz]).bind fun q=>match q.1 with
  | [d]=>(gf d q.2).map .nx
  | _=>none
 | none=>none
def agO3 (gf:FG):Option (List D×Ev)->Option R
 | some ([d],ρ)=>(gf d ρ).map .nx
 | _=>none
def nxO:Option Ev->Option R
 | some ρ=>some (.nx ρ)
 | none=>none
theorem r_ag {gf:FG}:fAsgG f gf ρ=agO2 gf (f ρ):=by unfold fAsgG agO2;cases f ρ <;> rfl
theorem b2R {gf:FG}:agO2 gf (some (w,ρ))=agO3 gf (takeAll ρ [w.fz]):=by
 unfold agO2 agO3;dsimp only;cases takeAll ρ [w.fz] with
 | none=>rfl
 | some p=>
  obtain ⟨ds,ρ⟩:=p
  match ds with
  | []=>rfl
  | [_]=>rfl
  | _ :: _ :: _=>rfl
theorem b2Q {gf:FG}:agO3 gf (some ([d],ρ))=nxO (gf d ρ):=by unfold agO3 nxO;dsimp only;cases gf d ρ <;> rfl
theorem b3o:nxO (some ρ)=some (.nx ρ):=rfl
theorem a6J:gfName i d ρ=if freeSlot ρ i=true then some (ρ.set i (some (.v d))) else none:=rfl
def gcO (gs:FGs) (ds:List D):Option Ev->Option Ev
 | some ρ=>gs ds ρ
 | none=>none
theorem a99:gfNil [] ρ=some ρ:=rfl
theorem a6a {gf:FG}{gs:FGs}:gfCons gf gs (d :: ds) ρ=gcO gs ds (gf d ρ):=by unfold gfCons gcO;dsimp only;cases gf d ρ <;> rfl
theorem b3q {gs:FGs}:gcO gs ds (some ρ)=gs ds ρ:=id rfl
theorem a9w {gs:FGs}:gfTup gs (.tup ds) ρ=gs ds ρ:=rfl
def gs2 (g:FX) (d:D):Option (W×Ev)->Option Ev
 | some (.r j,ρ)=>(g ρ).bind fun q=>(dr q.2 q.1.fz).bind fun k=>match k,ownAt q.2 j with
  | .int k,some (.lst xs)=>(ixN xs.length k).map fun n=>setOwn q.2 j (.lst (xs.set n d))
  | _,_=>none
 | _=>none
def gs3 (j:Nat) (d:D):Option (W×Ev)->Option Ev
 | some q=>(dr q.2 q.1.fz).bind fun k=>match k,ownAt q.2 j with
  | .int k,some (.lst xs)=>(ixN xs.length k).map fun n=>setOwn q.2 j (.lst (xs.set n d))
  | _,_=>none
 | none=>none
def gs4 (j:Nat) (d:D) (ρ:Ev):Option D->Option D->Option Ev
 | some (.int k),some (.lst xs)=>(ixN xs.length k).map fun n=>setOwn ρ j (.lst (xs.set n d))
 | _,_=>none
theorem r_gs:gfSub f g d ρ=gs2 g d (f ρ):=by
 unfold gfSub gs2;cases f ρ with
 | none=>rfl
 | some p=>obtain ⟨w,ρ⟩:=p;cases w <;> rfl
theorem b3k:gs2 g d (some (.r j,ρ))=gs3 j d (g ρ):=by unfold gs2 gs3;dsimp only;cases g ρ <;> rfl
theorem b3c:gs3 j d (some (w,ρ))=gs4 j d ρ (dr ρ w.fz) (ownAt ρ j):=by
 unfold gs3 gs4;dsimp only;cases dr ρ w.fz with
 | none=>rfl
 | some k=>
  simp only [bind_some];cases k with
  | int n=>cases ownAt ρ j with
   | none=>rfl
   | some c=>cases c <;> rfl
  | _=>rfl
theorem b3r {n:Int}:gs4 j d ρ (some (.int n)) (some (.lst xs))=(ixN xs.length n).map fun n=>setOwn ρ j (.lst (xs.set n d)):=rfl
def dropO:Option (W×Ev)->Option R
 | some p=>some (.nx p.2)
 | none=>none
theorem a9e:fDrop f ρ=dropO (f ρ):=by unfold fDrop dropO;cases f ρ <;> rfl
theorem a6F:dropO (some (w,ρ))=some (.nx ρ):=rfl
def par2 (i j:Nat):Option (List W×Ev)->Option R
 | some p=>(takeAll p.2 p.1).bind fun q=>match q.1 with
  | [d,d']=>if freeSlot q.2 i=true/\freeSlot (q.2.set i (some (.v d))) j=true then some (.nx ((q.2.set i (some (.v d))).set j (some (.v d')))) else none
  | _=>none
 | none=>none
def par3 (i j:Nat):Option (List D×Ev)->Option R
 | some ([d,d'],ρ)=>if freeSlot ρ i=true/\freeSlot (ρ.set i (some (.v d))) j=true then some (.nx ((ρ.set i (some (.v d))).set j (some (.v d')))) else none
 | _=>none
theorem b3u:fPar i j fa ρ=par2 i j (fa ρ):=by unfold fPar par2;cases fa ρ <;> rfl
theorem b0Y:par2 i j (some (ws,ρ))=par3 i j (takeAll ρ ws):=by
 unfold par2 par3;dsimp only;cases takeAll ρ ws with
 | none=>rfl
 | some p=>
  obtain ⟨ds,ρ⟩:=p
  match ds with
  | []=>rfl
  | [_]=>rfl
  | [_,_]=>rfl
  | _ :: _ :: _ :: _=>rfl
theorem b0T:par3 i j (some ([d,e],ρ))=if freeSlot ρ i=true/\freeSlot (ρ.set i (some (.v d))) j=true then some (.nx ((ρ.set i (some (.v d))).set j (some (.v e)))) else none:=rfl
def is2:Option (W×Ev)->Option (List D×Ev)
 | some p=>(takeAll p.2 [p.1.fz]).bind fun q=>match q.1 with
  | [d]=>(items d).map fun xs=>(xs,q.2)
  | _=>none
 | none=>none
def is3:Option (List D×Ev)->Option (List D×Ev)
 | some ([.tup xs],ρ)=>some (xs,ρ)
 | some ([.lst xs],ρ)=>some (xs,ρ)
 | _=>none
theorem r_is:fiSeq f ρ=is2 (f ρ):=by unfold fiSeq is2;cases f ρ <;> rfl
theorem b26:is2 (some (w,ρ))=is3 (takeAll ρ [w.fz]):=by
 unfold is2 is3;dsimp only;cases takeAll ρ [w.fz] with
 | none=>rfl
 | some p=>
  obtain ⟨ds,ρ⟩:=p
  match ds with
  | []=>rfl
  | [d]=>cases d <;> rfl
  | _ :: _ :: _=>simp
theorem a9l:is3 (some ([.tup xs],ρ))=some (xs,ρ):=rfl
theorem a9F:is3 (some ([.lst xs],ρ))=some (xs,ρ):=rfl
def forO (gf:FG) (b:FS):Option (List D×Ev)->Option R
 | some p=>loopF (turnF gf b) p.1 p.2
 | none=>none
theorem b3j {fi:FI}{gf:FG}:fFor fi gf F ρ=forO gf F (fi ρ):=by unfold fFor forO;cases fi ρ <;> rfl
theorem b0v {gf:FG}:forO gf F (some (xs,ρ))=loopF (turnF gf F) xs ρ:=id rfl
def turnO (b:FS):Option Ev->Option R
 | some ρ=>b ρ
 | none=>none
theorem a9v {gf:FG}:turnF gf F d ρ=turnO F (gf d ρ):=by unfold turnF turnO;cases gf d ρ <;> rfl
theorem a64:turnO F (some ρ)=F ρ:=id rfl
def mu2 (op:List D->List D->Option (W×List D)) (fa:FA):Option (W×Ev)->Option (W×Ev)
 | some (.r i,ρ)=>if isLst (ownAt ρ i)=true then (fa ρ).bind fun q=>(takeAll q.2 q.1).bind fun z=>match ownAt z.2 i with
  | some (.lst xs)=>(op xs z.1).map fun y=>(y.1,setOwn z.2 i (.lst y.2))
  | _=>none
  else none
 | _=>none
def mu3 (op:List D->List D->Option (W×List D)) (i:Nat):Option (List W×Ev)->Option (W×Ev)
 | some q=>(takeAll q.2 q.1).bind fun z=>match ownAt z.2 i with
  | some (.lst xs)=>(op xs z.1).map fun y=>(y.1,setOwn z.2 i (.lst y.2))
  | _=>none
 | none=>none
def mu4 (op:List D->List D->Option (W×List D)) (i:Nat):Option (List D×Ev)->Option (W×Ev)
 | some z=>match ownAt z.2 i with
  | some (.lst xs)=>(op xs z.1).map fun y=>(y.1,setOwn z.2 i (.lst y.2))
  | _=>none
 | none=>none
def mu5 (op:List D->List D->Option (W×List D)) (i:Nat) (ds:List D) (ρ:Ev):Option D->Option (W×Ev)
 | some (.lst xs)=>(op xs ds).map fun y=>(y.1,setOwn ρ i (.lst y.2))
 | _=>none
def mu6 (i:Nat) (ρ:Ev):Option (W×List D)->Option (W×Ev)
 | some y=>some (y.1,setOwn ρ i (.lst y.2))
 | none=>none
variable {om:List D->List D->Option (W×List D)}
theorem r_mu:fMut om f fa ρ=mu2 om fa (f ρ):=by
 unfold fMut mu2;cases f ρ with
 | none=>rfl
 | some p=>obtain ⟨w,ρ⟩:=p;cases w <;> rfl
theorem b3l:mu2 om fa (some (.r i,ρ))=if isLst (ownAt ρ i)=true then mu3 om i (fa ρ) else none:=by unfold mu2 mu3;dsimp only;cases fa ρ <;> rfl
theorem b29:mu3 om i (some (ws,ρ))=mu4 om i (takeAll ρ ws):=by unfold mu3 mu4;dsimp only;cases takeAll ρ ws <;> rfl
theorem b2C:mu4 om i (some (ds,ρ))=mu5 om i ds ρ (ownAt ρ i):=by unfold mu4 mu5;rfl
theorem b3h:mu5 om i ds ρ (some (.lst xs))=mu6 i ρ (om xs ds):=by unfold mu5 mu6;dsimp only;cases om xs ds <;> rfl
theorem b28:mu6 i ρ (some (w,xs))=some (w,setOwn ρ i (.lst xs)):=rfl
theorem b25:mApp xs [d]=if xs.length < lim then some (.v .non,xs ++ [d]) else none:=rfl
def runO:Option R->Option W
 | some (.rt w _)=>some w
 | some (.nx _)=>some (.v .non)
 | _=>none
theorem b2p {np n:Nat}:runD np n G ds=if ds.length=np then runO (G (start0 n ds)) else none:=by
 unfold runD runO
 split
 ·cases G (start0 n ds) with
  | none=>rfl
  | some r=>cases r <;> rfl
 ·rfl
theorem a5a:runO (some (.rt w ρ))=some w:=rfl
theorem r_run_nx:runO (some (.nx ρ))=some (.v .non):=rfl
def runLO:Option R->Option (W×D)
 | some (.rt w ρ)=>(ownAt ρ 0).map fun c=>(w,c)
 | some (.nx ρ)=>(ownAt ρ 0).map fun c=>(.v .non,c)
 | _=>none
theorem a9L {np n:Nat}:runL np n G d ds=if ds.length + 1=np then runLO (G (some (.l d) :: start0 (n - 1) ds)) else none:=by
 unfold runL runLO
 split
 ·cases G (some (.l d) :: start0 (n - 1) ds) with
  | none=>rfl
  | some r=>cases r <;> rfl
 ·rfl
theorem a3f:runLO (some (.rt w ρ))=(ownAt ρ 0).map fun c=>(w,c):=rfl
theorem b4D:runLO (some (.nx ρ))=(ownAt ρ 0).map fun c=>(.v .non,c):=rfl
variable {m n:Int}
theorem o_i0 {g:Int->Int->D}:oI0 g (.int m) (.int n)=some (.v (g m n)):=rfl
theorem o_i {C:Int->Int->Prop} [∀i j,Decidable (C i j)] {g:Int->Int->D}:oI C g (.int m) (.int n)=if C m n then some (.v (g m n)) else none:=rfl
theorem a7e:oAdd (.int m) (.int n)=some (.v (.int (m + n))):=rfl
theorem a6h:oAdd (.lst xs) (.lst ys)=if xs.length + ys.length<=lim then some (.o (.lst (xs ++ ys))) else none:=rfl
theorem o_add_t:oAdd (.tup xs) (.tup ys)=if xs≠[]/\xs.length + ys.length<=lim then some (.v (.tup (xs ++ ys))) else none:=by
 by_cases h:xs≠[]/\xs.length + ys.length<=lim
 ·rw [if_pos h];exact if_pos h
 ·rw [if_neg h];exact if_neg h
theorem b2w:oNeg (.int m)=some (.v (.int (-m))):=rfl
theorem b0k:oLtT (.int m) (.int n)=some (.v (.bl (decide (m < n)))):=rfl
theorem a82:oIx (.tup xs) (.int n)=(atI xs n).map .v:=rfl
theorem b0Z:oIx (.lst xs) (.int n)=(atI xs n).map .v:=rfl
theorem a7E:gLen (.tup xs)=some (.v (.int xs.length)):=rfl
theorem a6e:gLen (.lst xs)=some (.v (.int xs.length)):=rfl
theorem b21:gAbs (.int m)=some (.v (.int (if m < 0 then -m else m))):=rfl
theorem b2B:gInt (.bl b)=some (.v (.int (if b then 1 else 0))):=rfl
theorem b4F:gTuple (.tup xs)=some (.v (.tup xs)):=rfl
theorem a2E:gTuple (.lst xs)=some (.v (.tup xs)):=rfl
theorem o_list_t:gList (.tup xs)=some (.o (.lst xs)):=rfl
theorem o_list_l:gList (.lst xs)=some (.o (.lst xs)):=rfl
theorem o_d2 {q:D->D->Option Bool}{neg:Bool}:oD2 q neg x y=(q x y).map fun k=>.v (.bl (if neg then !k else k)):=rfl
theorem a_0:atI (d :: ds) 0=some d:=u9 (j:=0) rfl
theorem a_1:atI (d :: e :: ds) 1=some e:=u9 (j:=1) rfl
theorem a_2:atI (d :: e :: x :: ds) 2=some x:=u9 (j:=2) rfl
end
open PySem PySem.Spec PyProof.Rows L2
section
variable {prog:Program}{w:World}{A:Around}{E:Value->Shared->Prop}{s:Shared}
theorem a5E {c t:Addr}{k:Nat}{its:Array Value}{x:Value}{Q:Value->Shared->Prop}(hc:IsTupIter s.heap c t k)(ht:IsTup s.heap t its)(hx:its[k]? =some x)
  (q:∀h',IsTupIter h' c t (k + 1)->Heap.SameBut c s.heap h'->Q x {s with heap:=h'}):wpAny (model prog w) A (Builtin.SmallTypes.nextOf (.ref c)) Q E s:=by
 have T:=hc.typeIs;obtain ⟨o,e1,e2,e3⟩:=hc;obtain ⟨o2,g1,_,m,g3⟩:=ht;unfold Builtin.SmallTypes.nextOf;refine zA (qU (name:=Str.ofString "__next__") T slot_tupleiter_next (jA slot_tupleiter_next T entry_tupleiter_next ?_ (args_tupleiter_next _)));have step:wpAny (model prog w) A.in1 (setField (.ref c) 1 (rawInt ((k:Nat) + 1:Nat))) (fun _ s'=>wpAny (model prog w) A.in1 (ret x) (fun fin s''=>∃v,fin= .done (.ret v)/\wpAny (model prog w) A (pure v) Q E s'') E s') E s:=by
  refine wpAny_setField e1 e3 (by simp) (zC ⟨x,rfl,zC (q _ ⟨_,Heap.get?_update_self _ e1 (Obj.isFreed_of_fields (Obj.data_mapFields e3 _)),(Obj.cls_mapFields ..).trans e2,?_⟩ (Heap.SameBut.update ..))⟩)
  rw [Obj.data_mapFields e3];simp [rawInt]
 refine zA (m:=field (.ref c) 0) (jJ e1 e3 (x:=.ref t) rfl ?_);show wpAny _ _ (if (Value.ref t == Value.none)=true then _ else _) _ _ s;have nn:¬((Value.ref t == Value.none)=true):=zQ;rw [if_neg nn];refine zA (m:=field (.ref c) 1) (jJ e1 e3 (x:=.int k 0) rfl (zA (m:=seqItems? (.ref t)) (wpAny_seqItems g1 g3 ?_)));simp only [qM,hx];exact zA step
theorem a8q {c t:Addr}{k:Nat}{its:Array Value}{Q:Value->Shared->Prop}(hh:A.handled=none)(hc:IsTupIter s.heap c t k)(ht:IsTup s.heap t its)(hx:its[k]? =none)
  (q:∀h' x,Heap.ExtBut c s.heap h'->(∃o,h'.get? x=some o/\o.cls= .type "StopIteration")->E (.ref x) {s with heap:=h'}):wpAny (model prog w) A (Builtin.SmallTypes.nextOf (.ref c)) Q E s:=by
 have T:=hc.typeIs;obtain ⟨o,e1,e2,e3⟩:=hc;obtain ⟨o2,g1,_,m,g3⟩:=ht;unfold Builtin.SmallTypes.nextOf;refine zA (qU (name:=Str.ofString "__next__") T slot_tupleiter_next (jA slot_tupleiter_next T entry_tupleiter_next ?_ (args_tupleiter_next _)));refine zA (m:=field (.ref c) 0) (jJ e1 e3 (x:=.ref t) rfl ?_);show wpAny _ _ (if (Value.ref t == Value.none)=true then _ else _) _ _ s;have nn:¬((Value.ref t == Value.none)=true):=zQ;rw [if_neg nn];refine zA (m:=field (.ref c) 1) (jJ e1 e3 (x:=.int k 0) rfl (zA (m:=seqItems? (.ref t)) (wpAny_seqItems g1 g3 ?_)));simp only [qM,hx];refine zA (wpAny_rule (zA (wpAny_setField e1 e3 (by simp) ?_)))
 refine zA (m:=newExc (.type "StopIteration") []) ?_;simp only [newExc,newTuple];refine zA (qH ?_ (by size_fits))
 refine zA (m:=firstArgMember _ _) (wpAny_of_eq (a:=Value.none) (by first | rfl | (simp only [firstArgMember];rfl)) (qH ?_ (by size_fits)))
 simp only [raiseNew];refine zA (wpAny_handled ?_)
 first | rw [show A.in1.handled=none from hh] | rw [hh]
 exact zA (zC (wpAny_throw (q _ _ (((Heap.SameBut.update ..).extBut.push _).push _) ⟨_,qB _ rfl,rfl⟩)))
end
def SIt (k:Bool) (h:Heap) (c t:Addr) (i:Nat):Prop:=match k with
 | true=>h.IsListIter c t i
 | false=>IsTupIter h c t i
def SSq (k:Bool) (h:Heap) (t:Addr) (its:Array Value):Prop:=match k with
 | true=>h.IsList t its
 | false=>IsTup h t its
def SqK (k:Bool) (K:PySem.W.Frag) (H:Hp) (a:Addr) (xs:List V):Prop:=match k with
 | true=>SqL K H a xs
 | false=>SqT K H a xs
def itN (k:Bool):String:=if k then "list_iterator" else "tuple_iterator"
theorem a39 {b:Bool}{h h':Heap}{c t:Addr}{k:Nat}(i:SIt b h c t k)(kp:∀o,h.get? c=some o->h'.get? c=some o):SIt b h' c t k:=by
 cases b <;> (obtain ⟨o,e,r⟩:=i;exact ⟨o,kp o e,r⟩)
theorem a36 {b:Bool}{h:Heap}{c t:Addr}{k:Nat}(i:SIt b h c t k):∃o,h.get? c=some o/\∀v,o.data≠.cell v:=by
 cases b <;> (obtain ⟨o,e,r,d⟩:=i;exact ⟨o,e,fun v z=>by rw [d] at z;cases z⟩)
theorem b2f {b:Bool}{h:Heap}{c l:Addr}(e:h.get? c=some {cls:=.type (itN b),data:=.fields #[.ref l,.int 0 0]}):SIt b h c l 0:=by
 cases b <;> exact ⟨_,e,rfl,rfl⟩
theorem sqk {X:Cx}{k:Bool}{pins:List (Addr×PySem.Obj)}{σ:L2.St}{H:Hp}{s:Shared}{a:Addr}{xs:List V}(I:Inv X pins σ H s)(h:SqK k X.K H a xs):∃its,Vals xs its/\SSq k s.heap a its.toArray:=by
 cases k
 ·obtain ⟨its,r,p,_⟩:=I.tuple h;exact ⟨its,r,p⟩
 ·obtain ⟨its,r,p,_⟩:=I.list h;exact ⟨its,r,p.isList⟩
theorem b1B {X:Cx}{k:Bool}{pins:List (Addr×PySem.Obj)}{σ:L2.St}{H:Hp}{s:Shared}{a:Addr}{xs ys:List V}(I:Inv X pins σ H s)(h:SqK k X.K H a xs)(h':SqK k X.K H a ys):xs=ys:=by
 cases k
 ·exact I.tuple_inj h h'
 ·exact I.list_inj h h'
section
variable {prog:Program}{w:World}{A:Around}{E:Value->Shared->Prop}{s:Shared}
theorem a5m {b:Bool}{c t:Addr}{k:Nat}{its:Array Value}{x:Value}{Q:Value->Shared->Prop}(hc:SIt b s.heap c t k)(ht:SSq b s.heap t its)(hx:its[k]? =some x)
  (q:∀h',SIt b h' c t (k + 1)->Heap.SameBut c s.heap h'->Q x {s with heap:=h'}):wpAny (model prog w) A (Builtin.SmallTypes.nextOf (.ref c)) Q E s:=by
 cases b
 ·exact a5E hc ht hx q
 ·exact wpAny_nextOf_list_item hc ht hx q
theorem a8t {b:Bool}{c t:Addr}{k:Nat}{its:Array Value}{Q:Value->Shared->Prop}(hh:A.handled=none)(hc:SIt b s.heap c t k)(ht:SSq b s.heap t its)(hx:its[k]? =none)
  (q:∀h' x,Heap.ExtBut c s.heap h'->(∃o,h'.get? x=some o/\o.cls= .type "StopIteration")->E (.ref x) {s with heap:=h'}):wpAny (model prog w) A (Builtin.SmallTypes.nextOf (.ref c)) Q E s:=by
 cases b
 ·exact a8q hh hc ht hx q
 ·exact wpAny_nextOf_list_end hh hc ht hx q
theorem iterS {b:Bool}{l:Addr}{its:Array Value}{Q:Value->Shared->Prop}(ht:SSq b s.heap l its)(q:Q (.ref s.heap.objs.size) {s with heap:=s.heap.push {cls:=.type (itN b),data:=.fields #[.ref l,.int 0 0]}}):wpAny (model prog w) A (pyIter (.ref l)) Q E s:=by
 cases b
 ·exact iter_tuple ht q
 ·exact wpAny_pyIter_list ht q
end
section
variable {b:Value}
abbrev zp1 (b:Bool) (h:Heap) (l:Addr):Heap:=h.push {cls:=.type (itN b),data:=.fields #[.ref l,.int 0 0]}
end
theorem a7W {xs:List V}{us:List Value}{i:Nat}(r:Vals xs us)(e:xs[i]? =none):us.toArray[i]? =none:=by
 have:=r.length
 rw [List.getElem?_eq_none_iff] at e;rw [List.getElem?_toArray,List.getElem?_eq_none_iff];walk_at "o"
section
variable {prog:Program}{w:World}{A:Around}{E:Value->Shared->Prop}{s:Shared}{k:Bool}
theorem a5M {en ci l:Addr}{i:Nat}{its:Array Value}{x old:Value}{Q:Value->Shared->Prop}(hE:IsEnum s.heap en ci i old)(hC:SIt k s.heap ci l i)(hL:SSq k s.heap l its)(hx:its[i]? =some x)(ne:en≠ci)
  (q:∀h',IsEnumOut h' en ci ((i:Int) + 1) x s.heap.objs.size->SIt k h' ci l (i + 1)->h'.get? s.heap.objs.size=some {cls:=.type "tuple",data:=.seq #[.int i s.toks,x]}->h'.objs.size=s.heap.objs.size + 1->
   (∀b o,b≠en->b≠ci->s.heap.get? b=some o->h'.get? b=some o)->Q (.ref s.heap.objs.size) {s with heap:=h',toks:=s.toks + 1}):
  wpAny (model prog w) A (Builtin.«enumerate.__next__» ⟨[.ref en],[]⟩) (fun fin s'=>∃v,fin= .done (.ret v)/\Q v s') E s:=by
 obtain ⟨h0,g,d,tk,os⟩:=s;refine zA (m:=field (.ref en) 2) (jJ hE rfl (x:=.ref ci) rfl (zA (a5m hC hL hx fun h1 c1 s1=>?_)));have s1:Heap.SameBut ci h0 h1:=s1;have e1:IsEnum h1 en ci i old:=(s1.2 en ne).trans hE;refine zA (m:=field (.ref en) 3) (jJ e1 rfl (x:=rawInt i) rfl (zA (m:=field (.ref en) 4) (jJ e1 rfl (x:=.none) rfl (zA (m:=mkInt i) (wpAny_mkInt ?_)))));refine zA (m:=setField (.ref en) 3 (rawInt ((i:Int) + 1))) (yI e1 (by simp) fun h2 e2 s2=>?_)
 have s2:Heap.SameBut en h1 h2:=s2;have e2:IsEnum h2 en ci ((i:Int) + 1) old:=e2;refine zA (m:=setField (.ref en) 4 .none) (yI e2 (by simp) fun h3 e3 s3=>?_)
 have s3:Heap.SameBut en h2 h3:=s3;have e3:IsEnum h3 en ci ((i:Int) + 1) old:=e3;refine zA (m:=newTuple [.int i tk,x]) (wpAny_newTuple ?_);have e4:IsEnum (h3.push {cls:=.type "tuple",data:=.seq #[.int i tk,x]}) en ci ((i:Int) + 1) old:=zF _ e3;have z3:h3.objs.size=h0.objs.size:=by rw [s3.1,s2.1,s1.1]
 have lt:en < h0.objs.size:=zV hE;generalize g4:h3.push {cls:=.type "tuple",data:=.seq #[.int i tk,x]}=h4 at e4;have t4:h4.get? h0.objs.size=some {cls:=.type "tuple",data:=.seq #[.int i tk,x]}:=by rw [<-g4,<-z3];exact qB _ rfl
 have z4:h4.objs.size=h0.objs.size + 1:=by rw [<-g4,size_push,z3]
 have k4:∀b o,b≠en->b≠ci->h0.get? b=some o->h4.get? b=some o:=fun b o n1 n2 e=>by rw [<-g4];exact zF _ (s3.extBut b o n1 (s2.extBut b o n1 (s1.extBut b o n2 e)))
 have c4:SIt k h4 ci l (i + 1):=a39 c1 fun o e=>by rw [<-g4];exact zF _ (s3.extBut _ o ne.symm (s2.extBut _ o ne.symm e))
 rw [z3];refine zA (m:=Builtin.SmallTypes.ownedTupleIsFree (.ref en)) ?_;unfold Builtin.SmallTypes.ownedTupleIsFree;refine zA (jJ e4 rfl (x:=.none) rfl (zC ?_));simp only [qQ];refine zA (wpAny_rule (zA (jJ e4 rfl (x:=old) rfl (zA (yI e4 (by simp) fun h5 e5 s5=>?_)))))
 have s5:Heap.SameBut en h4 h5:=s5;have e5:IsEnum h5 en ci ((i:Int) + 1) x:=e5;refine zA (m:=Builtin.SmallTypes.ownedTupleHandOut (.ref en) (.ref h0.objs.size)) ?_;unfold Builtin.SmallTypes.ownedTupleHandOut;refine zA (yI e5 (by simp) fun h6 e6 s6=>?_)
 have s6:Heap.SameBut en h5 h6:=s6;have e6:IsEnumOut h6 en ci ((i:Int) + 1) x h0.objs.size:=e6;refine yI e6 (by simp) fun h7 e7 s7=>?_
 have s7:Heap.SameBut en h6 h7:=s7;have up:∀b o,b≠en->h4.get? b=some o->h7.get? b=some o:=fun b o n e=>s7.extBut b o n (s6.extBut b o n (s5.extBut b o n e));exact zA (wpAny_letGo (zC ⟨_,rfl,q h7 e7 (a39 c4 fun o e=>up _ o ne.symm e) (up _ _ (yP lt) t4) (by rw [s7.1,s6.1,s5.1,z4]) fun b o n1 n2 e=>up b o n1 (k4 b o n1 n2 e)⟩))
theorem a5W {en ci l:Addr}{i:Nat}{its:Array Value}{x old:Value}{Q:Option Value->Shared->Prop}(hE:IsEnum s.heap en ci i old)(hC:SIt k s.heap ci l i)(hL:SSq k s.heap l its)(hx:its[i]? =some x)(ne:en≠ci)
  (q:∀h',IsEnumOut h' en ci ((i:Int) + 1) x s.heap.objs.size->SIt k h' ci l (i + 1)->h'.get? s.heap.objs.size=some {cls:=.type "tuple",data:=.seq #[.int i s.toks,x]}->h'.objs.size=s.heap.objs.size + 1->
   (∀b o,b≠en->b≠ci->s.heap.get? b=some o->h'.get? b=some o)->Q (some (.ref s.heap.objs.size)) {s with heap:=h',toks:=s.toks + 1}):wpAny (model prog w) A (pyNext (.ref en)) Q E s:=by
 have T:s.TypeIs (.ref en) "enumerate":=⟨_,hE,rfl⟩;unfold pyNext;exact zA (wpAny_attempt (qU (name:=Str.ofString "__next__") T yR (jA yR T F.entry_enumerate_next (a5M hE hC hL hx ne fun h' a b c d kp=>zC (q h' a b c d kp)) (F.args_enumerate_next_1 _))))
theorem a79 {en ci l:Addr}{i:Nat}{its:Array Value}{old:Value}{Q:Option Value->Shared->Prop}(hh:A.handled=none)(hE:IsEnum s.heap en ci i old)(hC:SIt k s.heap ci l i)(hL:SSq k s.heap l its)(hx:its[i]? =none)
  (q:∀h',Heap.ExtBut ci s.heap h'->Q none {s with heap:=h'}):wpAny (model prog w) A (pyNext (.ref en)) Q E s:=by
 have T:s.TypeIs (.ref en) "enumerate":=⟨_,hE,rfl⟩;unfold pyNext;refine zA (wpAny_attempt (qU (name:=Str.ofString "__next__") T yR (jA yR T F.entry_enumerate_next ?_ (F.args_enumerate_next_1 _))));refine zA (m:=field (.ref en) 2) (jJ hE rfl (x:=.ref ci) rfl (zA (a8t hh hC hL hx fun h' x kp ⟨o,eo,co⟩=>?_)));exact zA (wpAny_isInstance (T:="StopIteration") (b:=true) ⟨o,eo,co⟩ isSubtype_stop (zC (q _ kp)))
theorem a8c (k:Bool)(l:Addr)(its:Array Value):Meets (Builtin.«enumerate.__new__» ⟨[.type "enumerate",.ref l],[]⟩) (fun _ R s=>SSq k s.heap l its/\
   R (.ok (.ret (.ref (zp1 k s.heap l).objs.size))) {s with heap:=(zp1 k s.heap l).push {cls:=.type "enumerate",data:=.fields #[.none,.bool false,.ref s.heap.objs.size,rawInt 0,.none,.none]}}):=
 .of_wp fun prog w A R s h=>by
  obtain ⟨h0,g,d,tk,os⟩:=s;obtain ⟨hl,h⟩:=h;have hsub:=sub_enumerate;have q1:SSq k (Shared.heap ⟨h0,g,d,tk,os⟩) l its:=hl
  wp_walk using iterS q1
  refine wpAny_stack_any fun st=>zC ?_
  split
  ·rename_i c _ _ _ _ _;cases (c == Value.type "enumerate") <;> (wp_walk using iterS q1;exact ⟨_,rfl,h⟩)
  ·wp_walk using iterS q1
   exact ⟨_,rfl,h⟩
theorem a5B {l:Addr}{its:Array Value}{Q:Value->Shared->Prop}(hL:SSq k s.heap l its)
  (q:∀h',IsEnum h' (s.heap.objs.size + 1) s.heap.objs.size 0 .none->SIt k h' s.heap.objs.size l 0->(∀b o,s.heap.get? b=some o->h'.get? b=some o)->Q (.ref (s.heap.objs.size + 1)) {s with heap:=h'}):
  wpAny (model prog w) A (call (.type "enumerate") [.ref l]) Q E s:=by
 refine callType_new F.called_enumerate (by decide) (F.typeCall_enumerate_1 _) (F.newCall_enumerate_1 _) (fun obj=>F.args_object_init_2 obj _) F.entry_enumerate_new (a8c k l its) ⟨hL,?_⟩
 have n1:(zp1 k s.heap l).objs.size=s.heap.objs.size + 1:=size_push ..;have r2:=qB (zp1 k s.heap l) (o:={cls:=.type "enumerate",data:=.fields #[.none,.bool false,.ref s.heap.objs.size,rawInt 0,.none,.none]}) rfl;show _/\_;rw [n1] at r2 ⊢;exact ⟨⟨_,r2,rfl⟩,q _ r2 (b2f (zF _ (qB _ rfl))) fun b o x=>zF _ (zF _ x)⟩
end
def Ite (k:Bool) (K:PySem.W.Frag) (l:Addr):It:=
 ⟨fun i H=>∃xs x,SqK k K H l xs/\xs[i]? =some x,
  fun i H v H'=>∃T x,v= .ref T/\H T=none/\H'=upd H T (.tup [.int (i:Int),x])/\∀xs,SqK k K H l xs->xs[i]? =some x,
  fun i H=>∃xs,SqK k K H l xs/\xs[i]? =none⟩
def enumT (k:Bool) (en ci l:Addr) (i:Nat) (h:Heap):Prop:=(∃old,IsEnum h en ci (i:Int) old)/\SIt k h ci l i
theorem a8i {P:Program}{w:World}{K:PySem.W.Frag}{es:List Expr}{kt:Nat}{pt:Pos}{k:Bool}{en ci l:Addr}(ne:en≠ci):
  Turn P w K (.Tuple es kt pt) (Ite k K l) [en,ci] en (enumT k en ci l) where
 mem:=by simp
 obj:=fun i h st b hb=>by
  obtain ⟨⟨old,hE⟩,hC⟩:=st;simp only [zS,xG,or_false] at hb;rcases hb with rfl | rfl
  ·exact ⟨_,hE,fun v z=>nomatch z⟩
  ·exact a36 hC
 keep:=fun i h h' st kp=>by
  obtain ⟨⟨old,hE⟩,hC⟩:=st;exact ⟨⟨old,kp en (by simp) _ hE⟩,a39 hC fun o e=>kp ci (by simp) o e⟩
 item:=by
  intro X hP hw hK hc i pins s σ H E I hf st hg;subst hP hw hK;obtain ⟨xs,x,q1,ex⟩:=hg;obtain ⟨its,r1,p1⟩:=sqk I q1;obtain ⟨u,hu,ru⟩:=r1.get ex;obtain ⟨⟨old,hE⟩,hC⟩:=st;obtain ⟨oc,hoc,_⟩:=a36 hC;have l1:∀{c o},s.heap.get? c=some o->c≠s.heap.objs.size:=fun e=>zN (zV e);refine a5W hE hC p1 (x:=u) (by simpa using hu) ne fun h' a1 a2 a3 a4 hk=>⟨_,rfl,?_⟩
  refine wpAny_letOwnedTupleGo_enum a1 fun h2' b1 b2=>?_;have nT:s.heap.objs.size≠en:=(l1 hE).symm;have kp:∀c o,c∉[en,ci]->s.heap.get? c=some o->h2'.get? c=some o:=fun c o hc e=>by
   simp only [zS,xG,or_false,not_or] at hc;exact (b2.2 c hc.1).trans (hk c o hc.1 hc.2 e)
  have fr:H s.heap.objs.size=none:=I.hok.fresh (zE _);have tr:∀c w,H c=some w->c∉[en,ci]:=fun c w e hc=>by rw [(hf c hc).1] at e;cases e
  have st':enumT k en ci l (i + 1) h2':=⟨⟨_,b1⟩,a39 a2 fun o e=>(b2.2 _ ne.symm).trans e⟩;have two:∀c∈[en,ci],∃o,h2'.get? c=some o:=fun c hc=>by
   simp only [zS,xG,or_false] at hc;rcases hc with rfl | rfl
   ·exact ⟨_,b1⟩
   ·obtain ⟨o,e,_⟩:=a36 st'.2;exact ⟨o,e⟩
  have hb3:h2'.get? s.heap.objs.size=some {cls:=.type "tuple",data:=.seq #[.int i s.toks,u]}:=(b2.2 _ nT).trans a3
  have un:Un (frs X.stack) [en,ci] H (upd H s.heap.objs.size (.tup [.int (i:Int),x])) s.heap h2':=⟨fun c o e n hfs hx=>kp c o hx e,fun c o e n hfs hx=>⟨o.slots,kp c o hx e⟩,fun c o e n hx=>by rw [c7 (l1 e)];exact n,fun c o e hx=>⟨o,kp c o hx e⟩,
   fun c ws e=>by rw [c7 (m6 e fr)];exact e,fun c o w e=>by rw [c7 (m6 e fr)];exact e,fun c ps e=>⟨#[],by rw [c7 (m6 e fr),e];simp⟩⟩
  have hok:HOk X.prog X.w (upd H s.heap.objs.size (.tup [.int (i:Int),x])) h2':=fun c w e=>by
   by_cases hc:c=s.heap.objs.size
   ·subst hc;rw [m7] at e;cases e;exact ⟨by show 2<=sizeLine;rw [jT];decide,[.int i s.toks,u],.cons ⟨_,rfl⟩ (.cons ru .nil),⟨_,hb3,rfl,⟨_,rfl⟩,rfl⟩⟩
   ·rw [c7 hc] at e
    refine (I.hok c w e).stay (fun c' o hc' e'=>kp c' o (by
     rcases hc' with rfl | hc'
     ·exact tr _ _ e
     ·exact tr _ _ hc') e') (fun c' q=>by rw [c7 (m6 q fr)];exact q) fun c' ws q=>by rw [c7 (m6 q fr)];exact q
  have I1:Inv X pins σ (upd H s.heap.objs.size (.tup [.int (i:Int),x])) {s with heap:=h2',toks:=s.toks + 1}:=I.call' (s':={s with heap:=h2',toks:=s.toks + 1}) (ch:=[en,ci]) rfl un hok I.bare fun c hc=>⟨(hf c hc).2.2.2.1,(hf c hc).2.1,(hf c hc).2.2.2.2.1,(hf c hc).2.2.2.2.2⟩
  exact ⟨.ref s.heap.objs.size,_,I1,rfl,⟨_,x,rfl,fr,rfl,fun ws hw=>by rw [b1B I hw q1];exact ex⟩,st',fun c hc=>by
   have:c≠s.heap.objs.size:=fun z=>by
    subst z;simp only [zS,xG,or_false] at hc;rcases hc with z | z
    ·exact l1 hE z.symm
    ·exact l1 hoc z.symm
   rw [c7 this];exact (hf c hc).1⟩
 done:=by
  intro X hP hw hK hc i pins s σ H E I hf st hg;subst hP hw hK;obtain ⟨xs,q1,hend⟩:=hg;obtain ⟨its,r1,p1⟩:=sqk I q1;obtain ⟨⟨old,hE⟩,hC⟩:=st;refine a79 (I.ok.hd hc) hE hC p1 (a7W r1 hend) fun h' hk=>⟨rfl,?_⟩;have kp:∀c o,c∉[ci]->s.heap.get? c=some o->h'.get? c=some o:=fun c o hc e=>hk c o (by simpa using hc) e
  have sub:∀c∈[ci],c∈[en,ci]:=fun c hc=>by simp at hc ⊢;simp [hc]
  have un:Un (frs X.stack) [ci] H H s.heap h':=⟨fun c o e n hfs hx=>kp c o hx e,fun c o e n hfs hx=>⟨o.slots,kp c o hx e⟩,fun c o e n hx=>n,fun c o e hx=>⟨o,kp c o hx e⟩,fun c ws e=>e,fun c o w e=>e,fun c ps e=>⟨#[],by rw [e];simp⟩⟩
  have tr:∀c w,H c=some w->c∉[ci]:=fun c w e hc=>by rw [(hf c (sub c hc)).1] at e;cases e
  have hok:HOk X.prog X.w H h':=fun c w e=>(I.hok c w e).stay (fun c' o hc' e'=>kp c' o (by
   rcases hc' with rfl | hc'
   ·exact tr _ _ e
   ·exact tr _ _ hc') e') (fun _ q=>q) fun _ _ q=>q
  exact I.call' (s':={s with heap:=h'}) (ch:=[ci]) rfl un hok I.bare fun c hc=>⟨(hf c (sub c hc)).2.2.2.1,(hf c (sub c hc)).2.1,(hf c (sub c hc)).2.2.2.2.1,(hf c (sub c hc)).2.2.2.2.2⟩
 self:=fun _ _ _ _ _ st h=>wpAny_pyIter_enum st.1.choose_spec h
def kd:D->Bool
 | .lst _=>true
 | _=>false
theorem b0p {K:PySem.W.Frag}{A:Av}{H:Hp}{d:D}{v:V}{xs:List D}(e:items d=some xs)(h:Den K A H d v):∃a vs,v= .ref a/\SqK (kd d) K H a vs/\DenL K A H xs vs:=by
 cases d with
 | tup zs=>cases e;rw [Den] at h;exact h
 | lst zs=>cases e;obtain ⟨a,vs,e,hq,l⟩:=E7 h;exact ⟨a,vs,e,hq,l⟩
 | _=>cases e
section
variable {X:Cx}{a:Expr}{p pos:Pos}{fa:FA}{es:List Expr}{kt:Nat}{pt:Pos}
def iEnum (K:PySem.W.Frag) (ta:TA):TI:=fun σ H R=>ta σ H fun vs H1=>∃c1 l1,vs=[.ref l1]/\(∃xs,SqK c1 K H1 l1 xs)/\R (Ite c1 K l1) H1
theorem b1l {ta:TA}(hg:Gl X "enumerate")(hm:X.mg "enumerate"=none)(ha:PA X [a] ta)(hs:starEach [a] X.env=[(false,eval a X.env)]:=by rfl)(hbt:bootBuiltins "enumerate"=some (.type "enumerate"):=by rfl):
  PI X (.Tuple es kt pt) (.Call (.Name "enumerate" p) [a] [] pos) (iEnum X.K ta):=by
 intro pins s σ H R I h;refine Call_ (S4 I hg hm hbt (jF (thn (ha pos pins s σ H _ I h) fun us s1 ⟨vs,H1,I1,r1,q1⟩=>?_) hs rfl) (by decide) (by decide))
 obtain ⟨c1,l1,rfl,⟨xs,h1⟩,q⟩:=q1;obtain ⟨u1,rfl,ru1⟩:=vals1 r1;cases ru1;obtain ⟨its1,_,p1⟩:=sqk I1 h1;refine a5B p1 fun h' d1 d2 d7=>?_;refine wpAny_pyIter_enum d1 ?_;refine ⟨_,[s1.heap.objs.size + 1,s1.heap.objs.size],_,_,H1,rfl,I1.kept (t':=s1.toks) fun c o e0=>d7 c o e0,a8i (Nat.succ_ne_self _),⟨⟨_,d1⟩,d2⟩,fun c hc=>?_,q⟩;have le:s1.heap.objs.size<=c:=by simp only [zS,xG,or_false] at hc;rcases hc with h | h <;> (rw [h];first | exact Nat.le_add_right _ _ | exact zE _)
 exact I1.fpOk le (I1.hok.fresh le)
def zipD (xs ys:List D):List D:=List.zipWith (fun x y=>.tup [x,y]) xs ys
def enumD (xs:List D):List D:=xs.mapIdx fun (i:Nat) x=>.tup [.int i,x]
def fiZip (fa:FA):FI:=fun ρ=>(fa ρ).bind fun p=>(takeAll p.2 p.1).bind fun q=>match q.1 with
 | [x,y]=>(items x).bind fun xs=>(items y).map fun ys=>(zipD xs ys,q.2)
 | _=>none
def fiEnum (fa:FA):FI:=fun ρ=>(fa ρ).bind fun p=>(takeAll p.2 p.1).bind fun q=>match q.1 with
 | [x]=>(items x).map fun xs=>(enumD xs,q.2)
 | _=>none
theorem a59 (hm:X.mg "enumerate"=none)(ha:QA X [a] fa)(hg:Gl X "enumerate":=by rfl)(hs:starEach [a] X.env=[(false,eval a X.env)]:=by rfl)(hbt:bootBuiltins "enumerate"=some (.type "enumerate"):=by rfl):
  QI X (.Tuple es kt pt) (.Call (.Name "enumerate" p) [a] [] pos) (fiEnum fa):=⟨PI.weak (b1l hg hm ha.to hs hbt) fun σ H R h0=>tIe h0 fun P O L ρ xs ρ' r e q=>by
 unfold fiEnum at e;obtain ⟨⟨ws,ρ1⟩,e1,e⟩:=obs e;dsimp only at e;obtain ⟨⟨ds,ρ2⟩,e2,e⟩:=obs e;dsimp only at e;split at e
 ·rename_i x;cases e3:items x with
  | none=>rw [e3] at e;cases e
  | some xs'=>
   rw [e3] at e;cases e;refine ⟨P,O,L,ρ,ws,ρ1,r,e1,fun vs H1 r1 l1=>?_⟩;obtain ⟨r2,l2,_⟩:=k8 r1 e2 l1;obtain ⟨v,rfl,hv⟩:=denL1 l2;obtain ⟨a1,vs1,rfl,s1,m1⟩:=b0p e3 hv;have r3:=r2.more (p:=(x,.ref a1)) hv;refine ⟨kd x,a1,rfl,⟨vs1,s1⟩,q _ H1 _ r3 (fun p hp=>zI _ hp) fun Y O' L' ρ' σ' Hh hY rr=>?_⟩;have z1:=rr.head;rw [hY] at z1;obtain ⟨b1,ws1,ev1,q1,n1⟩:=b0p e3 z1;cases ev1;refine ⟨fun i z ez=>?_,ws1,q1,?_⟩
   ·unfold enumD at ez;rw [List.getElem?_mapIdx] at ez;obtain ⟨x0,g1,ez⟩:=oms ez;cases ez;obtain ⟨v1,k1,t1⟩:=z6 n1 g1;refine ⟨⟨ws1,v1,q1,k1⟩,fun w H' ⟨T,x1,ew,hT,eH,f1⟩=>?_⟩;subst ew eH;have g3:=f1 ws1 q1;rw [k1] at g3;cases g3;have sm:=j6 hT (.tup [.int (i:Int),v1]);refine ⟨sm,?_⟩;rw [Den];exact ⟨T,[.int (i:Int),v1],rfl,.inl (.inl m7),g9 (u7.mpr rfl) (g9 (a44 sm t1) i0)⟩
   ·have k1:=b6 n1;unfold enumD;rw [length_mapIdx,List.getElem?_eq_none_iff];walk_at "o"
 ·cases e⟩
end
section
variable {X:Cx}{a b e e' o:Expr}{pos p p2 p3:Pos}{f h:FX}{t u:FT}{fa:FA}
theorem a56 {acc:Array Value}{n:Nat}(h:ItemsOf (fun i v=>∃t,v= .int (0 + (i:Int) * 1) t) acc n):Vals (((List.range n).map fun (i:Nat)=>(i:Int)).map V.int) acc.toList:=by
 have key:∀(l:List Value) (k:Nat),(∀i v,l[i]? =some v->∃t,v=Value.int ((k + i:Nat):Int) t)->Vals (((List.range' k l.length).map fun i=>((i:Nat):Int)).map V.int) l:=by
  intro l
  induction l with
  | nil=>intro k _;exact .nil
  | cons v l ih=>
   intro k hv;rw [qI,List.range'_succ,zK,zK];refine .cons ?_ (ih (k + 1) fun i u e=>?_)
   ·obtain ⟨t,e⟩:=hv 0 v rfl;exact ⟨t,e⟩
   ·obtain ⟨t,e'⟩:=hv (i + 1) u (by simpa using e)
    exact ⟨t,by rw [e'];congr 2;walk_at "o"⟩
 have z:=key acc.toList 0 fun i v e=>by
  obtain ⟨t,ev⟩:=h.2 i v (by rw [<-jS];exact e)
  exact ⟨t,by rw [ev];congr 1;walk_at "o"⟩
 rw [List.range_eq_range'];rw [jB,h.1] at z;exact z
def fListR (fa:FA):FX:=fun ρ=>(fa ρ).bind fun p=>match p.1 with
 | [.v (.int n)]=>if 0<=n/\n<=1000 then some (.o (.lst (rngD 0 n.toNat)),p.2) else none
 | _=>none
theorem a75 (n:Nat):rngD 0 n=((List.range n).map fun (i:Nat)=>(i:Int)).map D.int:=by
 unfold rngD;rw [qG];apply jE;intro i _;simp
theorem a81 (hc:X.calm=true)(hmL:X.mg "list"=none)(hmR:X.mg "range"=none)(ha:QA X [a] fa)(hbL:bootBuiltins "list"=some (.type "list"):=by rfl)(hgL:Gl X "list":=by rfl)(hgR:Gl X "range":=by rfl)
  (h1:starEach [.Call (.Name "range" p2) [a] [] p3] X.env=[(false,eval (.Call (.Name "range" p2) [a] [] p3) X.env)]:=by rfl) (h2:starEach [a] X.env=[(false,eval a X.env)]:=by rfl):
  QX X (.Call (.Name "list" p) [.Call (.Name "range" p2) [a] [] p3] [] pos) (fListR fa):=⟨fun pins s σ H Q I h0=>tXe h0 fun P O L ρ w ρ' rp e q=>by
 unfold fListR at e;obtain ⟨⟨ws,ρ1⟩,e1,e⟩:=obs e;dsimp only at e;split at e
 ·rename_i n;split at e
  ·rename_i hn;cases e;refine yF (S4 I hgL hmL hbL ?_ (by decide) (by decide))
   refine jF ?_ h1 rfl;rw [h1];refine Calls.spliced_cons ?_;refine yF (S4 I hgR hmR boot_range ?_ (by decide) (by decide))
   refine jF (zG (ha.to p3 pins s σ H (fun vs H1=>Rep X P O L ρ' σ H1/\vs=[.int n]) I ⟨P,O,L,ρ,_,_,rp,e1,fun vs H1 r1 l1=>⟨r1,?_⟩⟩) (fun us s1 ⟨vs,H1,I1,r1,rp1,l1⟩=>?_) fun _ _ z=>z) h2 rfl
   ·obtain ⟨v,rs,rfl,h1,l1⟩:=l1;have l1:rs=[]:=l1;have h1:Den X.K (AvO O ρ' σ) H1 (.int n) v:=h1;subst l1;rw [u7.mp h1]
   subst l1;obtain ⟨u,rfl,t,rfl⟩:=vals1 r1;refine call_range_1 (Calls.spliced_nil ?_);have I2:Inv X pins σ H1 {s1 with heap:=s1.heap.push {cls:=.type "range",data:=.fields #[.int 0 s1.toks,.int n t,.int 1 (s1.toks + 1)]},toks:=s1.toks + 1 + 1}:=I1.kept fun b o e=>zF _ e
   refine call_list_range (n:=n.toNat) (I.ok.hd hc) (IsRange.new ..) (small_one (by walk_at "o") (by walk_at "o") (by walk_at "o") (by walk_at "o")) (by rw [rangeSize_one];split <;> walk_at "o") (by walk_at "o") fun h' tk acc ep kp hl it=>?_
   have hv:=a56 it;refine ⟨.ref _,_,I2.laid (t':=tk) (o:=.lst (((List.range n.toNat).map fun (i:Nat)=>(i:Int)).map V.int)) kp (zE _) ?_,rfl,q _ H1 _ rp1 (j6 (I2.hok.fresh (zE _)) _) (by rw [a75];exact w8 (I2.hok.fresh (zE _)) (F4 _))⟩
   refine ⟨?_,acc.toList,ep,hv,by rw [Array.toArray_toList];exact hl⟩
   rw [zD,zD,List.length_range,jT];walk_at "o"
  ·cases e
 ·cases e⟩
def fCnt (f:FX) (fa:FA):FX:=fun ρ=>(f ρ).bind fun p=>(dr p.2 p.1.fz).bind fun d=>match d with
 | .tup _=>(fa p.2).bind fun q=>(dr q.2 p.1.fz).bind fun y=>match y,q.1 with
  | .tup xs,[.v (.int i)]=>(intsOf xs).map fun ns=>(.v (.int (ns.count i:Nat)),q.2)
  | _,_=>none
 | _=>none
def fDNew:FX:=fun ρ=>some (.o (.dK [] []),ρ)
def fDNewT:FX:=fun ρ=>some (.o (.dT [] []),ρ)
end
section
variable {f g:FX}{t:FT}{fa:FA}{ρ ρ1 ρ2:Ev}{w z:W}{ws:List W}{d e x y:D}{xs ys:List D}{i j k:Nat}{m n:Int}{b:Bool}
theorem it_t:items (.tup xs)=some xs:=rfl
theorem it_l:items (.lst xs)=some xs:=rfl
def iz2:Option (List W×Ev)->Option (List D×Ev)
 | some p=>(takeAll p.2 p.1).bind fun q=>match q.1 with
  | [x,y]=>(items x).bind fun xs=>(items y).map fun ys=>(zipD xs ys,q.2)
  | _=>none
 | none=>none
def iz3:Option (List D×Ev)->Option (List D×Ev)
 | some q=>match q.1 with
  | [x,y]=>(items x).bind fun xs=>(items y).map fun ys=>(zipD xs ys,q.2)
  | _=>none
 | none=>none
def iz4 (ρ:Ev):Option (List D)->Option (List D)->Option (List D×Ev)
 | some xs,some ys=>some (zipD xs ys,ρ)
 | _,_=>none
theorem r_iz:fiZip fa ρ=iz2 (fa ρ):=by unfold fiZip iz2;cases fa ρ <;> rfl
theorem r_iz2:iz2 (some (ws,ρ))=iz3 (takeAll ρ ws):=by unfold iz2 iz3;dsimp only;cases takeAll ρ ws <;> rfl
theorem r_iz3:iz3 (some ([x,y],ρ))=iz4 ρ (items x) (items y):=by unfold iz3 iz4;dsimp only;cases items x <;> cases items y <;> rfl
theorem r_iz4:iz4 ρ (some xs) (some ys)=some (zipD xs ys,ρ):=rfl
def ie2:Option (List W×Ev)->Option (List D×Ev)
 | some p=>(takeAll p.2 p.1).bind fun q=>match q.1 with
  | [x]=>(items x).map fun xs=>(enumD xs,q.2)
  | _=>none
 | none=>none
def ie3:Option (List D×Ev)->Option (List D×Ev)
 | some q=>match q.1 with
  | [x]=>(items x).map fun xs=>(enumD xs,q.2)
  | _=>none
 | none=>none
theorem r_ie:fiEnum fa ρ=ie2 (fa ρ):=by unfold fiEnum ie2;cases fa ρ <;> rfl
theorem b2y:ie2 (some (ws,ρ))=ie3 (takeAll ρ ws):=by unfold ie2 ie3;dsimp only;cases takeAll ρ ws <;> rfl
theorem r_ie3_t:ie3 (some ([.tup xs],ρ))=some (enumD xs,ρ):=rfl
theorem a7A:ie3 (some ([.lst xs],ρ))=some (enumD xs,ρ):=rfl
def jr1:Option (List W×Ev)->Option (List D×Ev)
 | some p=>match p.1 with
  | [.v (.int n)]=>if -(2 ^ 62)<=n/\n < 2 ^ 62 then some (rngD 0 n.toNat,p.2) else none
  | _=>none
 | none=>none
def jr2:Option (List W×Ev)->Option (List D×Ev)
 | some p=>match p.1 with
  | [.v (.int m),.v (.int n)]=>if (-(2 ^ 62)<=m/\m < 2 ^ 62)/\-(2 ^ 62)<=n/\n < 2 ^ 62 then some (rngD m (n - m).toNat,p.2) else none
  | _=>none
 | none=>none
def lr2:Option (List W×Ev)->Option (W×Ev)
 | some p=>match p.1 with
  | [.v (.int n)]=>if 0<=n/\n<=1000 then some (.o (.lst (rngD 0 n.toNat)),p.2) else none
  | _=>none
 | none=>none
theorem r_r1:fiR1 fa ρ=jr1 (fa ρ):=by unfold fiR1 jr1;cases fa ρ <;> rfl
theorem b2A:jr1 (some ([.v (.int n)],ρ))=if -(2 ^ 62)<=n/\n < 2 ^ 62 then some (rngD 0 n.toNat,ρ) else none:=rfl
theorem r_r2:fiR2 fa ρ=jr2 (fa ρ):=by unfold fiR2 jr2;cases fa ρ <;> rfl
theorem b3x:jr2 (some ([.v (.int m),.v (.int n)],ρ))=if (-(2 ^ 62)<=m/\m < 2 ^ 62)/\-(2 ^ 62)<=n/\n < 2 ^ 62 then some (rngD m (n - m).toNat,ρ) else none:=rfl
theorem r_lr:fListR fa ρ=lr2 (fa ρ):=by unfold fListR lr2;cases fa ρ <;> rfl
theorem b3w:lr2 (some ([.v (.int n)],ρ))=if 0<=n/\n<=1000 then some (.o (.lst (rngD 0 n.toNat)),ρ) else none:=rfl
def cn2 (fa:FA):Option (W×Ev)->Option (W×Ev)
 | some p=>(dr p.2 p.1.fz).bind fun d=>match d with
  | .tup _=>(fa p.2).bind fun q=>(dr q.2 p.1.fz).bind fun y=>match y,q.1 with
   | .tup xs,[.v (.int i)]=>(intsOf xs).map fun ns=>(.v (.int (ns.count i:Nat)),q.2)
   | _,_=>none
  | _=>none
 | none=>none
def cn3 (fa:FA) (w:W) (ρ:Ev):Option D->Option (W×Ev)
 | some (.tup _)=>(fa ρ).bind fun q=>(dr q.2 w.fz).bind fun y=>match y,q.1 with
   | .tup xs,[.v (.int i)]=>(intsOf xs).map fun ns=>(.v (.int (ns.count i:Nat)),q.2)
   | _,_=>none
 | _=>none
def cn4 (w:W):Option (List W×Ev)->Option (W×Ev)
 | some q=>(dr q.2 w.fz).bind fun y=>match y,q.1 with
   | .tup xs,[.v (.int i)]=>(intsOf xs).map fun ns=>(.v (.int (ns.count i:Nat)),q.2)
   | _,_=>none
 | _=>none
def cn5 (ws:List W) (ρ:Ev):Option D->Option (W×Ev)
 | some y=>match y,ws with
   | .tup xs,[.v (.int i)]=>(intsOf xs).map fun ns=>(.v (.int (ns.count i:Nat)),ρ)
   | _,_=>none
 | _=>none
theorem r_cn:fCnt f fa ρ=cn2 fa (f ρ):=by unfold fCnt cn2;cases f ρ <;> rfl
theorem r_cn2:cn2 fa (some (w,ρ))=cn3 fa w ρ (dr ρ w.fz):=by
 unfold cn2 cn3;dsimp only;cases dr ρ w.fz with
 | none=>rfl
 | some d=>cases d <;> rfl
theorem r_cn3:cn3 fa w ρ (some (.tup xs))=cn4 w (fa ρ):=by unfold cn3 cn4;cases fa ρ <;> rfl
theorem r_cn4:cn4 w (some (ws,ρ))=cn5 ws ρ (dr ρ w.fz):=by unfold cn4 cn5;dsimp only;cases dr ρ w.fz <;> rfl
theorem r_dnew:fDNew ρ=some (.o (.dK [] []),ρ):=rfl
def ch2 (o o':D->D->Option W) (g h:FX):Option (W×Ev)->Option (W×Ev)
 | some p=>fChain o o' (fun _=>some p) g h p.2
 | none=>none
def ch3 (o o':D->D->Option W) (w:W) (h:FX):Option (W×Ev)->Option (W×Ev)
 | some q=>(dr q.2 w.fz).bind fun x=>(dr q.2 q.1.fz).bind fun y=>(o x y).bind fun d=>match d with
  | .v (.bl k)=>if k=true then (h q.2).bind fun z=>(dr z.2 q.1.fz).bind fun y=>(dr z.2 z.1.fz).bind fun z'=>(o' y z').map fun w=>(w,z.2) else some (.v (.bl false),q.2)
  | _=>none
 | none=>none
def ch4 (o o':D->D->Option W) (h:FX) (w:W) (ρ:Ev):Option D->Option D->Option (W×Ev)
 | some x,some y=>(o x y).bind fun d=>match d with
  | .v (.bl k)=>if k=true then (h ρ).bind fun z=>(dr z.2 w.fz).bind fun y=>(dr z.2 z.1.fz).bind fun z'=>(o' y z').map fun w=>(w,z.2) else some (.v (.bl false),ρ)
  | _=>none
 | _,_=>none
def ch5 (o':D->D->Option W) (h:FX) (w:W) (ρ:Ev):Option W->Option (W×Ev)
 | some (.v (.bl k))=>if k=true then bin3 o' w (h ρ) else some (.v (.bl false),ρ)
 | _=>none
theorem r_ch {o o':D->D->Option W}{h:FX}:fChain o o' f g h ρ=ch2 o o' g h (f ρ):=by unfold ch2;cases e:f ρ with
 | none=>unfold fChain;rw [e];rfl
 | some p=>unfold fChain;rw [e]
theorem r_ch2 {o o':D->D->Option W}{h:FX}:ch2 o o' g h (some (w,ρ))=ch3 o o' w h (g ρ):=by unfold ch2 ch3 fChain;dsimp only [bind_some];cases g ρ <;> rfl
theorem r_ch3 {o o':D->D->Option W}{h:FX}:ch3 o o' w h (some (z,ρ))=ch4 o o' h z ρ (dr ρ w.fz) (dr ρ z.fz):=by
 unfold ch3 ch4;dsimp only;cases dr ρ w.fz <;> cases dr ρ z.fz <;> rfl
theorem r_ch4 {o o':D->D->Option W}{h:FX}:ch4 o o' h w ρ (some x) (some y)=ch5 o' h w ρ (o x y):=by
 unfold ch4 ch5 bin3;dsimp only;cases o x y with
 | none=>rfl
 | some d=>
  dsimp only [bind_some];cases d with
  | v d=>cases d with
   | bl k=>cases h ρ <;> rfl
   | _=>rfl
  | _=>rfl
theorem r_ch5_t {o':D->D->Option W}{h:FX}:ch5 o' h w ρ (some (.v (.bl true)))=bin3 o' w (h ρ):=rfl
theorem r_ch5_f {o':D->D->Option W}{h:FX}:ch5 o' h w ρ (some (.v (.bl false)))=some (.v (.bl false),ρ):=rfl
def tc2 (k:Nat) (t:FT) (fe:FX):Option Ev->Option Ev
 | some ρ1=>(t ρ1).bind fun p=>if p.1=true then (fe p.2).bind (appTo k) else some p.2
 | none=>none
def tc3 (k:Nat) (fe:FX):Option (Bool×Ev)->Option Ev
 | some p=>if p.1=true then (fe p.2).bind (appTo k) else some p.2
 | none=>none
def tc4 (k:Nat):Option (W×Ev)->Option Ev
 | some p=>appTo k p
 | none=>none
def ap2 (k:Nat):Option (List D×Ev)->Option Ev
 | some q=>match q.1,ownAt q.2 k with
  | [d],some (.lst zs)=>if zs.length < lim then some (setOwn q.2 k (.lst (zs ++ [d]))) else none
  | _,_=>none
 | none=>none
def ap3 (k:Nat) (d:D) (ρ:Ev):Option D->Option Ev
 | some (.lst zs)=>if zs.length < lim then some (setOwn ρ k (.lst (zs ++ [d]))) else none
 | _=>none
theorem r_tc {gf:FG}{fe:FX}:turnC k gf t fe d ρ=tc2 k t fe (gf d ρ):=by unfold turnC tc2;cases gf d ρ <;> rfl
theorem b2O {fe:FX}:tc2 k t fe (some ρ)=tc3 k fe (t ρ):=by unfold tc2 tc3;dsimp only;cases t ρ <;> rfl
theorem a7x {fe:FX}:tc3 k fe (some (true,ρ))=tc4 k (fe ρ):=by unfold tc3 tc4;simp only [qQ];cases fe ρ <;> rfl
theorem r_tc3_f {fe:FX}:tc3 k fe (some (false,ρ))=some ρ:=rfl
theorem b3m:tc4 k (some (w,ρ))=ap2 k (takeAll ρ [w.fz]):=by
 unfold tc4 appTo ap2;dsimp only;cases takeAll ρ [w.fz] <;> rfl
theorem b3b:ap2 k (some ([d],ρ))=ap3 k d ρ (ownAt ρ k):=by
 unfold ap2 ap3;dsimp only;cases ownAt ρ k with
 | none=>rfl
 | some x=>cases x <;> rfl
theorem b3i:ap3 k d ρ (some (.lst xs))=if xs.length < lim then some (setOwn ρ k (.lst (xs ++ [d]))) else none:=rfl
theorem a0J {C:Prop}{b:D->FS}{r:Option R}(e:loopF b xs ρ=r)(I:List D->Ev->Prop)(h0:I [] ρ)(st:∀d x ρ,x∈xs->d.length < xs.length->I d ρ->∃ρ',b x ρ=some (.nx ρ')/\I (d ++ [x]) ρ')(c:∀ρ',r=some (.nx ρ')->I xs ρ'->C):C:=by
 have key:∀(ys done:List D) (ρ:Ev),(∀y∈ys,y∈xs)->done.length + ys.length=xs.length->I done ρ->∃ρ',loopF b ys ρ=some (.nx ρ')/\I (done ++ ys) ρ':=by
  intro ys
  induction ys with
  | nil=>intro done ρ _ _ h;exact ⟨ρ,rfl,by rw [yE];exact h⟩
  | cons y ys ih=>
   intro done ρ hm hl h;rw [qI] at hl;obtain ⟨ρ1,e1,i1⟩:=st done y ρ (hm y zH) (by walk_at "o") h
   obtain ⟨ρ2,e2,i2⟩:=ih (done ++ [y]) ρ1 (fun a ha=>hm a (zI _ ha)) (by rw [zT,jQ];walk_at "o") i1
   exact ⟨ρ2,by rw [loopF,e1];exact e2,by rw [jX] at i2;exact i2⟩
 obtain ⟨ρ',e',i⟩:=key xs [] ρ (fun _ h=>h) (by simp) h0
 exact c ρ' (e.symm.trans e') (by simpa using i)
theorem a7U {C:Prop}{fi:FI}{js:List (Option Nat)}{gf:FG}{fe:FX}{r:Option (W×Ev)}(e:fComp fi (some (i,j)) js gf t fe ρ=r)(I:List D->Ev->List D->Prop)(ei:fi ρ=some (xs,ρ1))(hl:xs.length<=lim)(hj:(ownAt ρ1 j).isSome=true)
  (hI:∀d B zs,I d B zs->B.length=js.length) (h0:I [] (capE (some j) js ρ1) []) (st:∀d x B zs,x∈xs->I d B zs->zs.length < lim->∃B' zs',turnC js.length gf t fe x (B ++ acc zs)=some (B' ++ acc zs')/\I (d ++ [x]) B' zs'/\zs'.length<=zs.length + 1)
  (fin:∀B zs,I xs B zs->lfL zs=true/\∃c,ownAt (B ++ acc zs) i=some c/\lfC c=true) (c:∀B zs c,I xs B zs->ownAt (B ++ acc zs) i=some c->r=some (.o (.lst zs),setOwn ρ1 j c)->C):C:=by
 have key:∀(ys done:List D) (B:Ev) (zs:List D),(∀y∈ys,y∈xs)->I done B zs->zs.length + ys.length<=lim->∃B' zs',loopC (turnC js.length gf t fe) ys (B ++ acc zs)=some (B' ++ acc zs')/\I (done ++ ys) B' zs':=by
  intro ys
  induction ys with
  | nil=>intro done B zs _ h _;exact ⟨B,zs,rfl,by rw [yE];exact h⟩
  | cons y ys ih=>
   intro done B zs hm h hl;rw [qI] at hl;obtain ⟨B1,z1,e1,i1,l1⟩:=st done y B zs (hm y zH) h (by walk_at "o")
   obtain ⟨B2,z2,e2,i2⟩:=ih (done ++ [y]) B1 z1 (fun a ha=>hm a (zI _ ha)) i1 (by walk_at "o")
   exact ⟨B2,z2,by rw [loopC,e1];exact e2,by rw [jX] at i2;exact i2⟩
 obtain ⟨B,zs,e1,i1⟩:=key xs [] _ [] (fun _ h=>h) h0 (by rw [jP];walk_at "o")
 rw [nil_append] at i1;obtain ⟨l1,c0,o1,lc⟩:=fin B zs i1;refine c B zs c0 i1 o1 ?_;rw [<-e];unfold fComp;rw [ei];simp only [bind_some,liB,hj,qQ,qZ];rw [show capE (some j) js ρ1 ++ [some (.l (.lst []))]=capE (some j) js ρ1 ++ acc [] from rfl,e1];simp only [bind_some,a3r (hI _ _ _ i1),backG,show lfC (.lst zs)=true from l1,qQ,o1,lc]
theorem t7 (ns:List Int):lfL (ns.map D.int)=true:=by
 induction ns with
 | nil=>rfl
 | cons n ns ih=>rw [zK,lfL,ih];rfl
theorem U0 (m:Int)(n:Nat):(rngD m n).length=n:=by unfold rngD;simp
theorem T0 {m:Int}{n:Nat}(h:x∈rngD m n):∃i:Int,x= .int i/\m<=i/\i < m + n:=by
 unfold rngD at h;obtain ⟨i,hi,rfl⟩:=zW.mp h;rw [xE] at hi;exact ⟨_,rfl,by walk_at "o",by walk_at "o"⟩
theorem a4m (h:0 < n)(h2:n.natAbs < 2 ^ 64):dOk n:=⟨h,zB h2 (qD (by decide) (by decide))⟩
end
theorem a48 {o:Option D}:freeO (o.map W.v)=true:=by cases o <;> rfl
def isI:D->Bool
 | .int _=>true
 | .bl _=>true
 | _=>false
def isB:D->Bool
 | .bl _=>true
 | _=>false
def isT:D->Bool
 | .tup _=>true
 | _=>false
def whole:D->Bool
 | .int _=>true
 | _=>false
theorem a9r {d:D}(h:isX d=false):oIsi "int" d=some (.v (.bl (isI d))):=by cases d <;> first | rfl | cases h
theorem a3u {d:D}(h:isX d=false):oIsi "bool" d=some (.v (.bl (isB d))):=by cases d <;> first | rfl | cases h
theorem Y9 {d:D}(h:isX d=false):oIsi "tuple" d=some (.v (.bl (isT d))):=by cases d <;> first | rfl | cases h
def rise:List Int->Bool
 | a :: b :: r=>decide (a < b) && rise (b :: r)
 | _=>true
theorem b02 {r:List Bool->Bool}{xs:List D}{bs:List Bool}(h:boolsOf xs=some bs):gBools r (.lst xs)=some (.v (.bl (r bs))):=by unfold gBools;simp only [h,qZ]
theorem a2j (f:D->Bool)(xs:List D):lfL (xs.map fun d=>D.bl (f d))=true:=by
 induction xs with
 | nil=>rfl
 | cons n ns ih=>rw [zK,lfL,ih];rfl
theorem a07 (f:D->Bool)(xs:List D):boolsOf (xs.map fun d=>D.bl (f d))=some (xs.map f):=by
 have:(xs.map fun d=>D.bl (f d))=(xs.map f).map D.bl:=by rw [qG];rfl
 rw [this,a1e]
theorem a14 {α:Type}(f:α->Bool)(xs:List α):(xs.map f).all id=xs.all f:=by rw [all_map];rfl
theorem Q2 {ns:List Int}{x:D}(h:x∈ns.map D.int):∃i∈ns,x= .int i:=by
 obtain ⟨i,hi,rfl⟩:=zW.mp h;exact ⟨i,hi,rfl⟩
theorem a4B {b:D->FS}{w:W}(I:Ev->Prop)(p:D->Bool):∀(xs:List D),(∀x∈xs,∀ρ,I ρ->(p x=true->∃ρ',b x ρ=some (.nx ρ')/\I ρ')/\(p x=false->∃ρ',b x ρ=some (.rt w ρ')))->∀ρ,I ρ->
  (xs.all p=true->∃ρ',loopF b xs ρ=some (.nx ρ')/\I ρ')/\(xs.all p=false->∃ρ',loopF b xs ρ=some (.rt w ρ'))
 | [],_,ρ,h=>⟨fun _=>⟨ρ,rfl,h⟩,fun z=>nomatch z⟩
 | x :: xs,st,ρ,h=>by
  obtain ⟨s1,s2⟩:=st x zH ρ h;cases hp:p x with
  | true=>
   obtain ⟨ρ1,e1,i1⟩:=s1 hp;obtain ⟨r1,r2⟩:=a4B I p xs (fun y hy=>st y (zI _ hy)) ρ1 i1;rw [all_cons,hp,Bool.true_and];exact ⟨fun z=>by obtain ⟨ρ',e,i⟩:=r1 z;exact ⟨ρ',by rw [loopF,e1];exact e,i⟩,fun z=>by obtain ⟨ρ',e⟩:=r2 z;exact ⟨ρ',by rw [loopF,e1];exact e⟩⟩
  | false=>
   obtain ⟨ρ1,e1⟩:=s2 hp;rw [all_cons,hp,Bool.false_and];exact ⟨fun z=>(nomatch z),fun _=>⟨ρ1,by rw [loopF,e1];rfl⟩⟩
theorem a2t {C:Prop}{b:D->FS}{xs:List D}{ρ:Ev}{r:Option R}(e:loopF b xs ρ=r)(I:Ev->Prop)(p:D->Bool)(w:W)(h0:I ρ)(st:∀x∈xs,∀ρ,I ρ->(p x=true->∃ρ',b x ρ=some (.nx ρ')/\I ρ')/\(p x=false->∃ρ',b x ρ=some (.rt w ρ')))
  (c1:xs.all p=true->∀ρ',r=some (.nx ρ')->I ρ'->C) (c2:xs.all p=false->∀ρ',r=some (.rt w ρ')->C):C:=by
 obtain ⟨r1,r2⟩:=a4B I p xs st ρ h0;cases h:xs.all p with
 | true=>obtain ⟨ρ',e',i⟩:=r1 h;exact c1 h ρ' (e.symm.trans e') i
 | false=>obtain ⟨ρ',e'⟩:=r2 h;exact c2 h ρ' (e.symm.trans e')
theorem a5D {xs:List D}{i:Int}{d:D}(h:0<=i)(e:xs[i.toNat]? =some d):atI xs i=some d:=by
 have:=u9 (j:=i.toNat) e
 rwa [show ((i.toNat:Nat):Int)=i by walk_at "o"] at this
theorem a6b {ns:List Int}{i:Int}(h:0<=i)(l:i < ns.length):atI (ns.map D.int) i=some (.int (ns.getD i.toNat 0)):=by
 refine a5D h ?_;rw [qA,zL,zZ (by walk_at "o")]
 rfl
theorem a4S {xs:List D}{x:D}(h:x∈enumD xs):∃(i:Nat) (h:i < xs.length),x= .tup [.int i,xs[i]]:=by
 unfold enumD at h;obtain ⟨i,hi,e⟩:=List.mem_iff_getElem.mp h;rw [List.getElem_mapIdx] at e;exact ⟨i,by simpa using hi,e.symm⟩
theorem w4:∀{xs:List D},(∀x∈xs,lf x=true)->lfL xs=true
 | [],_=>rfl
 | x :: xs,h=>by rw [lfL,h x zH,w4 fun y hy=>h y (zI _ hy)];rfl
section
variable {d:D}{ds:List D}{x0:D}{x1:D}{x2:D}{x3:D}{x4:D}{x5:D}{x6:D}{x7:D}{x8:D}{x9:D}{x10:D}{x11:D}{x12:D}
theorem a_3:atI (x0 :: x1 :: x2 :: d :: ds) 3=some d:=u9 (j:=3) rfl
theorem a_4:atI (x0 :: x1 :: x2 :: x3 :: d :: ds) 4=some d:=u9 (j:=4) rfl
theorem a_5:atI (x0 :: x1 :: x2 :: x3 :: x4 :: d :: ds) 5=some d:=u9 (j:=5) rfl
theorem a_6:atI (x0 :: x1 :: x2 :: x3 :: x4 :: x5 :: d :: ds) 6=some d:=u9 (j:=6) rfl
theorem a_7:atI (x0 :: x1 :: x2 :: x3 :: x4 :: x5 :: x6 :: d :: ds) 7=some d:=u9 (j:=7) rfl
theorem a_8:atI (x0 :: x1 :: x2 :: x3 :: x4 :: x5 :: x6 :: x7 :: d :: ds) 8=some d:=u9 (j:=8) rfl
theorem a_9:atI (x0 :: x1 :: x2 :: x3 :: x4 :: x5 :: x6 :: x7 :: x8 :: d :: ds) 9=some d:=u9 (j:=9) rfl
theorem a_10:atI (x0 :: x1 :: x2 :: x3 :: x4 :: x5 :: x6 :: x7 :: x8 :: x9 :: d :: ds) 10=some d:=u9 (j:=10) rfl
theorem a_11:atI (x0 :: x1 :: x2 :: x3 :: x4 :: x5 :: x6 :: x7 :: x8 :: x9 :: x10 :: d :: ds) 11=some d:=u9 (j:=11) rfl
theorem a_12:atI (x0 :: x1 :: x2 :: x3 :: x4 :: x5 :: x6 :: x7 :: x8 :: x9 :: x10 :: x11 :: d :: ds) 12=some d:=u9 (j:=12) rfl
theorem a_13:atI (x0 :: x1 :: x2 :: x3 :: x4 :: x5 :: x6 :: x7 :: x8 :: x9 :: x10 :: x11 :: x12 :: d :: ds) 13=some d:=u9 (j:=13) rfl
theorem ix_0 {n:Nat}:ixN (n + 1) 0=some 0:=by unfold ixN;rw [if_pos (Int.le_refl _),if_pos (by walk_at "o")];rfl
end
def dkey:D->Option Key
 | .int i=>some (Sum.inl i)
 | .str x=>some (Sum.inr x)
 | _=>none
def dkeys:List D->Option (List Key)
 | []=>some []
 | d :: ds=>(dkey d).bind fun k=>(dkeys ds).map fun ks=>k :: ks
def tkey:D->Option (List Key)
 | .tup ds=>dkeys ds
 | _=>none
def look {κ:Type} [DecidableEq κ]:List κ->List D->κ->Option D
 | k' :: ks,x :: xs,k=>if k'=k then some x else look ks xs k
 | _,_,_=>none
def putKs {κ:Type} [DecidableEq κ] (ks:List κ) (k:κ):List κ:=if k∈ks then ks else ks ++ [k]
def putX {κ α:Type} [DecidableEq κ] (ks:List κ) (xs:List α) (k:κ) (d:α):List α:=if k∈ks then List.zipWith (fun k' x=>if k'=k then d else x) ks xs else xs ++ [d]
theorem a4Q {K:PySem.W.Frag}{A:Av}{H:Hp}{d:D}{k:Key}{v:V}(e:dkey d=some k)(h:DenR K A H d v):v=kV k:=by
 cases d with
 | int i=>cases e;exact j4 h
 | str x=>cases e;exact a1y h
 | _=>cases e
theorem a0N {K:PySem.W.Frag}{A:Av}{H:Hp}:∀{ds:List D} {ks:List Key} {vs:List V},dkeys ds=some ks->DenL K A H ds vs->vs=ks.map kV
 | [],ks,vs,e,l=>by cases e;rw [DenL] at l;rw [l];rfl
 | d :: ds,ks,vs,e,l=>by
  rw [DenL] at l;obtain ⟨v,r,rfl,h,l⟩:=l;rw [dkeys] at e;cases e1:dkey d with
  | none=>rw [e1] at e;cases e
  | some k=>
   cases e2:dkeys ds with
   | none=>rw [e1,e2] at e;cases e
   | some js=>
    rw [e1,e2] at e;cases e;rw [zK,<-a4Q e1 (E7 h),<-a0N e2 l]
theorem a90 {K:PySem.W.Frag}{A:Av}{H:Hp}{d:D}{k:List Key}{v:V}(e:tkey d=some k)(h:DenR K A H d v):∃b,v= .ref b/\SqT K H b (k.map kV):=by
 cases d with
 | tup ds=>
  obtain ⟨b,vs,ev,hq,l⟩:=B8 h;rw [a0N e l] at hq;exact ⟨b,ev,hq⟩
 | _=>cases e
theorem a1M {κ:Type} [DecidableEq κ] {K:PySem.W.Frag}{A:Av}{H:Hp}:∀{ks:List κ} {xs:List D} {vs:List V} {k:κ} {x:D},DenL K A H xs vs->look ks xs k=some x->∃v,valV (ks.zip vs) k=some v/\Den K A H x v
 | [],_,_,_,_,_,e=>by simp [look] at e
 | _ :: _,[],_,_,_,_,e=>by simp [look] at e
 | k' :: ks,x0 :: xs,vs,k,x,l,e=>by
  rw [DenL] at l;obtain ⟨v,r,rfl,h,l⟩:=l;simp only [look] at e;rw [jO];split at e
  ·rename_i q;cases e;exact ⟨v,a0m (by simpa using q),h⟩
  ·rename_i q;rw [R6 (by simpa using q)]
   exact a1M l e
theorem a0s {κ:Type} [DecidableEq κ] {K:PySem.W.Frag}{A:Av}{H:Hp}:∀{ks:List κ} {xs:List D} {vs:List V} {k:κ},DenL K A H xs vs->ks.length=xs.length->look ks xs k=none->valV (ks.zip vs) k=none
 | [],_,_,_,_,_,_=>by simp [valV]
 | _ :: _,[],_,_,_,hl,_=>by simp at hl
 | k' :: ks,x0 :: xs,vs,k,l,hl,e=>by
  rw [DenL] at l;obtain ⟨v,r,rfl,h,l⟩:=l;simp only [look] at e;rw [jO];split at e
  ·cases e
  ·rename_i q;rw [R6 (by simpa using q)]
   exact a0s l (by simpa using hl) e
theorem a7a {κ:Type} [DecidableEq κ]:∀{ks:List κ} {vs:List V} {k:κ},ks.length=vs.length->((ks.zip vs).any fun kv=>decide (kv.1=k))=decide (k∈ks)
 | [],_,_,_=>by simp
 | _ :: _,[],_,hl=>by simp at hl
 | k' :: ks,v :: vs,k,hl=>by
  rw [jO,any_cons,a7a (by simpa using hl)]
  by_cases q:k'=k
  ·simp [q]
  ·have q2:¬k=k':=fun z=>q z.symm;simp [q,q2]
theorem b2h {κ:Type} [DecidableEq κ] {ks:List κ}{vs:List V}{k:κ}{v:V}(hl:ks.length=vs.length):putK (ks.zip vs) k v=(putKs ks k).zip (putX ks vs k v):=by
 unfold putK putKs putX;rw [a7a hl]
 by_cases q:k∈ks
 ·rw [if_pos (by simpa using q),if_pos q,if_pos q]
  clear q
  induction ks generalizing vs with
  | nil=>simp
  | cons k' ks ih=>
   cases vs with
   | nil=>simp at hl
   | cons w vs=>
    have ih':=ih (vs:=vs) (by simpa using hl)
    rw [jO,zK,List.zipWith_cons_cons,jO,ih']
    by_cases q:k'=k
    ·simp [q]
    ·simp [q]
 ·rw [if_neg (by simpa using q),if_neg q,if_neg q,List.zip_append hl]
  rfl
theorem a4P {κ α:Type} [DecidableEq κ] {ks:List κ}{xs:List α}{k:κ}{d:α}(hl:ks.length=xs.length):(putKs ks k).length=(putX ks xs k d).length:=by
 unfold putKs putX
 split
 ·rw [List.length_zipWith,hl];simp
 ·simp [hl]
theorem b0u {κ:Type} [DecidableEq κ] {K:PySem.W.Frag}{A:Av}{H:Hp}{ks:List κ}{xs:List D}{vs:List V}{k:κ}{d:D}{v:V}(l:DenL K A H xs vs)(h:Den K A H d v):DenL K A H (putX ks xs k d) (putX ks vs k v):=by
 unfold putX
 split
 ·rename_i q;clear q
  induction ks generalizing xs vs with
  | nil=>simp;exact i0
  | cons k' ks ih=>
   cases xs with
   | nil=>rw [DenL] at l;subst l;simp;exact i0
   | cons x xs=>
    rw [DenL] at l;obtain ⟨u,r,rfl,hx,l⟩:=l;rw [List.zipWith_cons_cons,List.zipWith_cons_cons];refine g9 ?_ (ih l)
    split
    ·exact h
    ·exact hx
 ·exact l7 l (g9 h i0)
section
variable {X:Cx}{a b c e o:Expr}{es:List Expr}{pos p apos:Pos}{f g h:FX}{t u:FT}{fa:FA}{x:Str}
theorem a3K {pins:List (Addr×PySem.Obj)}{σ:L2.St}{H:Hp}{s:Shared}{b:Addr}{ks:List Key}(I:Inv X pins σ H s)(q:SqT X.K H b (ks.map kV)):(tupleKind (mixKind X.prog X.w)).is s.heap ks b:=by
 obtain ⟨its,r,⟨o,h1,h2,n,h3⟩,_⟩:=I.tuple q;exact ⟨o,its.toArray,n,h1,h2,h3,by simpa using a0X r⟩
def DGe (K:PySem.W.Frag) (H:Hp) (a:Addr) (y:V) (r:Option V):Prop:=
 (∃kvs k,H a=some (.dK kvs)/\y=kV k/\r=valV kvs k)\/∃kvs k b,H a=some (.dT kvs)/\y= .ref b/\SqT K H b (k.map kV)/\r=valV kvs k
def lookG (x y:D):Option (Option D):=match x with
 | .dT ks xs=>(tkey y).map fun k=>look ks xs k
 | .dK ks xs=>(dkey y).map fun k=>look ks xs k
 | _=>none
def LkOk (K:PySem.W.Frag) (A:Av) (H:Hp):Option D->Option V->Prop
 | some d,w=>∃z,w=some z/\Den K A H d z
 | none,w=>w=none
theorem a0E {A:Av}{H:Hp}{x y:D}{r:Option D}{v u:V}(e:lookG x y=some r)(hx:DenR X.K A H x v)(hy:DenR X.K A H y u):∃a w,v= .ref a/\DGe X.K H a u w/\LkOk X.K A H r w:=by
 cases x with
 | dT ks xs=>
  simp only [lookG] at e;cases e1:tkey y with
  | none=>rw [e1] at e;cases e
  | some k=>
   rw [e1] at e;obtain ⟨b,rfl,hb⟩:=a90 e1 hy;obtain ⟨a,vs,rfl,ha,hl,l⟩:=hx;refine ⟨a,_,rfl,.inr ⟨_,k,b,ha,rfl,hb,rfl⟩,?_⟩;cases (show look ks xs k=r from qR e);cases e2:look ks xs k with
   | none=>exact a0s l hl e2
   | some d=>exact a1M l e2
 | dK ks xs=>
  simp only [lookG] at e;cases e1:dkey y with
  | none=>rw [e1] at e;cases e
  | some k=>
   rw [e1] at e;obtain ⟨a,vs,rfl,ha,hl,l⟩:=hx;refine ⟨a,_,rfl,.inl ⟨_,k,ha,a4Q e1 hy,rfl⟩,?_⟩;cases (show look ks xs k=r from qR e);cases e2:look ks xs k with
   | none=>exact a0s l hl e2
   | some d=>exact a1M l e2
 | _=>cases e
def rIxD (K:PySem.W.Frag):R2:=fun x y H Q=>∃a v,x= .ref a/\DGe K H a y (some v)/\Q v H
theorem b1Q {k:Nat}(hr:Room k X.A):IxR X (rIxD X.K):=by
 intro value slice pins s σ H x y v u Q I rx ry h hs;obtain ⟨a,z,rfl,hg,q⟩:=h;cases rx;rcases hg with ⟨kvs,k,ha,rfl,hv⟩ | ⟨kvs,k,b,ha,rfl,hq,hv⟩
 ·obtain ⟨_,hd,vs,rel,dd⟩:=b0j I.hok ha;obtain ⟨w',hw,rw'⟩:=RelO.some_of (v:=z) (o:=valueAt vs k) (by rw [hv];exact rel.val k)
  refine yJ (x:=w') dd.typeIs PySem.F.slot_dict_getitem.lookup ?_ hs;exact wpAny_getItem_of (a60 ry) dd.mapOf hw ⟨rfl,z,H,I.tok _,rw',q⟩
 ·cases (show u=Value.ref b from ry);obtain ⟨_,hd,xs,rel,dd⟩:=a7o I.hok ha;obtain ⟨w',hw,rw'⟩:=RelO.some_of (v:=z) (o:=(atKey xs k).map (·.2)) (by rw [hv];exact rel.val k)
  obtain ⟨p,hp,hp2⟩:=Option.map_eq_some_iff.mp hw;refine yJ (x:=w') dd.typeIs PySem.F.slot_dict_getitem.lookup ?_ hs;refine wpAny_getItem_heap (tupleKind_room_in1 (a6K hr)) (a3K I hq) dd hp ?_;rw [hp2];exact ⟨rfl,z,H,I.tok _,rw',q⟩
def isDi:D->Bool
 | .dT _ _=>true
 | .dK _ _=>true
 | _=>false
def oIxG (x y:D):Option W:=if isDi x=true then (lookG x y).bind fun r=>r.map .v else oIx x y
theorem b7 {k:Nat}(hr:Room k X.A)(ha:QX X a f)(hb:QX X b g)(hs:PlainIx b:=by intro _ _;rfl):QX X (.Subscript a b pos) (fBin oIxG f g):=⟨PE.weak (pe_ix (b4j.or (b1Q hr)) ha.to hb.to hs) (Z8 (by
 intro A x y w v u H Q hA e hx hy q;unfold oIxG at e;split at e
 ·obtain ⟨r,e1,e⟩:=obs e;obtain ⟨a,w',rfl,hg,hm⟩:=a0E e1 hx hy;cases r with
  | none=>cases e
  | some d=>
   cases e;obtain ⟨z,rfl,dz⟩:=hm;exact .inr ⟨a,z,rfl,hg,q z H (Same.refl H) dz⟩
 ·exact .inl (k_ix A x y w v u H Q hA e hx hy q)))⟩
def rInD (K:PySem.W.Frag) (neg:Bool):R2:=fun y x H Q=>∃a r,x= .ref a/\DGe K H a y r/\Q (.bl (if neg then !r.isSome else r.isSome)) H
theorem b0t {k:Nat}(hr:Room k X.A):OpR X (compareOp .In) (rInD X.K false):=by
 intro pins s σ H y x u v Q I ry rx h;obtain ⟨a,r,rfl,hg,q⟩:=h;cases rx;rcases hg with ⟨kvs,k,e,rfl,rfl⟩ | ⟨kvs,k,b,e,rfl,hq,rfl⟩
 ·obtain ⟨_,hd,vs,rel,dd⟩:=b0j I.hok e;refine wpAny_in_of (a60 ry) hd dd.mapOf ?_;rw [<-(rel.val k).isSome_eq];exact ⟨.bl _,H,I.tok _,rfl,q⟩
 ·cases (show u=Value.ref b from ry);obtain ⟨_,hd,xs,rel,dd⟩:=a7o I.hok e;refine wpAny_in_heap (tupleKind_room_in1 (a6K hr)) (a3K I hq) hd dd ?_;have z:=(rel.val k).isSome_eq;rw [isSome_map] at z;rw [<-z];exact ⟨.bl _,H,I.tok _,rfl,q⟩
def intV:Value->Int
 | .int i _=>i
 | _=>0
def readI (h:Heap):Value->Option (List Int)
 | .ref a=>match h.get? a with
  | some o=>match o.data with
   | .seq its _=>some (its.toList.map intV)
   | _=>none
  | none=>none
 | _=>none
theorem a3e:∀{k:List Int} {its:List Value},Vals (k.map V.int) its->its.map intV=k
 | [],_,r=>by cases r;rfl
 | i :: k,_,r=>by
  cases r with
  | cons r1 r2=>
   obtain ⟨t,rfl⟩:=r1;rw [zK,a3e r2];rfl
theorem a2F {m:Nat}:∀(a b:List Int),deqL (deq m) (a.map D.int) (b.map D.int)=some (decide (a=b))
 | [],[]=>rfl
 | [],_ :: _=>rfl
 | _ :: _,[]=>rfl
 | x :: a,y :: b=>by
  have ih:=a2F (m:=m) a b;have e:deq m (.int x) (.int y)=some (x == y):=by cases m <;> rfl
  simp only [zK,deqL,e,ih,bind_some,qZ];congr 1
  by_cases h:x=y
  ·simp [h]
  ·simp [h]
def tupI (k:List Int):D:=.tup (k.map D.int)
theorem a8X {m:Nat}(a b:List Int):deq (m + 1) (tupI a) (tupI b)=some (decide (a=b)):=a2F a b
def tupsOf:List D->Option (List (List Int))
 | []=>some []
 | .tup ds :: xs=>(intsOf ds).bind fun k=>(tupsOf xs).map fun ks=>k :: ks
 | _=>none
theorem a2G:∀{ds:List D} {ks:List (List Int)},tupsOf ds=some ks->ds=ks.map tupI
 | [],ks,e=>by cases e;rfl
 | .tup d :: ds,ks,e=>by
  rw [tupsOf] at e;cases e1:intsOf d with
  | none=>rw [e1] at e;cases e
  | some k=>
   cases e2:tupsOf ds with
   | none=>rw [e1,e2] at e;cases e
   | some js=>rw [e1,e2] at e;cases e;rw [zK,<-a2G e2,z8 e1];rfl
 | .non :: ds,_,e=>by cases e
 | .bl _ :: ds,_,e=>by cases e
 | .int _ :: ds,_,e=>by cases e
 | .str _ :: ds,_,e=>by cases e
 | .lst _ :: ds,_,e=>by cases e
 | .dT _ _ :: ds,_,e=>by cases e
 | .dK _ _ :: ds,_,e=>by cases e
 | .exn _ :: ds,_,e=>by cases e
theorem X8:∀ks:List (List Int),tupsOf (ks.map tupI)=some ks
 | []=>rfl
 | k :: ks=>by rw [zK,show tupI k= .tup (k.map D.int) from rfl,tupsOf,C7,X8 ks];rfl
def rInT (K:PySem.W.Frag) (neg:Bool):R2:=fun x y H Q=>∃(A:Av) (k:List Int) (ks:List (List Int)) (p:Addr) (vs:List V),DenR K A H (tupI k) x/\y= .ref p/\(SqL K H p vs\/SqT K H p vs)/\DenL K A H (ks.map tupI) vs/\Q (.bl (if neg then !decide (k∈ks) else decide (k∈ks))) H
theorem a17 {k0:Nat}{A:Av}(hr:Room k0 X.A){pins:List (Addr×PySem.Obj)}{σ:L2.St}{H:Hp}{s:Shared}(I:Inv X pins σ H s){k:List Int}{x:V}{v:Value}(hx:DenR X.K A H (tupI k) x)(rx:RelV x v):∀{ks:List (List Int)} {vs:List V} {us:List Value},DenL X.K A H (ks.map tupI) vs->Vals vs us->
  (∀y∈us,SeqAt.EqAt X.A.in1 s y v (decide (readI s.heap y=some k)))/\(us.any fun y=>decide (readI s.heap y=some k))=decide (k∈ks)
 | [],vs,us,l,r=>by
  rw [map_nil,DenL] at l;subst l;cases r;exact ⟨fun y hy=>by simp at hy,by simp⟩
 | k' :: ks,vs,us,l,r=>by
  rw [zK,DenL] at l;obtain ⟨z,rs,rfl,hz,l⟩:=l;cases r with
  | cons r1 r2=>
   rename_i u us;obtain ⟨i1,i2⟩:=a17 hr I hx rx l r2;have hz':=hz;rw [show tupI k'= .tup (k'.map D.int) from rfl,Den] at hz';obtain ⟨c,ws,rfl,hq,lw⟩:=hz';rw [q9 lw] at hq;cases (show u=Value.ref c from r1);obtain ⟨its,r3,⟨o,ho,_,n,hd⟩,_⟩:=I.tuple hq;have er:readI s.heap (.ref c)=some k':=by
    unfold readI;dsimp only;rw [ho];dsimp only;rw [hd];dsimp only;rw [a3e r3]
   have eq:SeqAt.EqAt X.A.in1 s (.ref c) v (decide (readI s.heap (.ref c)=some k)):=by
    rw [er];have z:=(a34 I 20 X.A.in1 (by have:=hr.units;show X.A.units + 1 + 20 + 1 < _;walk_at "o") (tupI k') (tupI k) (.ref c) x (.ref c) v _ (a8X k' k) (E7 hz) hx rfl rx).1
    have e2:decide (some k'=some k)=decide (k'=k):=by simp
    rw [e2];exact z
   refine ⟨fun y hy=>?_,?_⟩
   ·rcases zS.mp hy with rfl | hy
    ·exact eq
    ·exact i1 y hy
   ·rw [any_cons,i2,er]
    by_cases h:k'=k
    ·simp [h]
    ·have h':¬k=k':=fun z=>h z.symm;simp [h,h']
theorem a8D {k0:Nat}(hr:Room k0 X.A):OpR X (compareOp .In) (rInT X.K false):=by
 intro pins s σ H x y v u Q I rx ry ⟨A,k,ks,p,vs,hx,ey,hq,l,q⟩;subst ey;cases ry;rcases hq with hq | hq
 ·obtain ⟨its,r,pl,hz⟩:=I.list hq;obtain ⟨c1,c2⟩:=a17 hr I hx rx l r;refine SeqAt.in_listAt (fun y=>decide (readI s.heap y=some k)) pl.isList (fun w hw=>c1 w (by simpa using hw)) ⟨.bl _,H,I,rfl,?_⟩
  rw [show (its.toArray.any fun y=>decide (readI s.heap y=some k))=(its.any fun y=>decide (readI s.heap y=some k)) by simp,c2]
  exact q
 ·obtain ⟨its,r,pl,hz⟩:=I.tuple hq;obtain ⟨c1,c2⟩:=a17 hr I hx rx l r;refine SeqAt.in_tupleAt (fun y=>decide (readI s.heap y=some k)) pl (fun w hw=>c1 w (by simpa using hw)) ⟨.bl _,H,I,rfl,?_⟩
  rw [show (its.toArray.any fun y=>decide (readI s.heap y=some k))=(its.any fun y=>decide (readI s.heap y=some k)) by simp,c2]
  exact q
def nb (neg k:Bool):W:=.v (.bl (if neg then !k else k))
def oInG (neg:Bool) (x y:D):Option W:=if isDi y=true then (lookG y x).map fun r=>nb neg r.isSome else match x with
 | .int i=>(items y).bind fun ys=>(intsOf ys).map fun ns=>nb neg (decide (i∈ns))
 | .tup ds=>(intsOf ds).bind fun k=>(items y).bind fun ys=>(tupsOf ys).map fun ks=>nb neg (decide (k∈ks))
 | _=>none
theorem kInG {neg:Bool}:Pr2 X (oInG neg) (fun x y H Q=>rIn X.K neg x y H Q\/rInD X.K neg x y H Q\/rInT X.K neg x y H Q):=by
 intro A x y w v u H Q hA e hx hy q;unfold oInG at e;split at e
 ·obtain ⟨r,e1,e⟩:=oms e;cases e;obtain ⟨a,w',rfl,hg,hm⟩:=a0E e1 hy hx;have es:w'.isSome=r.isSome:=by
   cases r with
   | none=>rw [show w'=none from hm];rfl
   | some d=>obtain ⟨z,rfl,_⟩:=hm;rfl
  refine .inr (.inl ⟨a,w',rfl,hg,?_⟩);rw [es];exact q _ H (Same.refl H) A4
 ·split at e
  ·rename_i i;refine .inl (kInI A (.int i) y w v u H Q hA ?_ hx hy q);unfold oInI;exact e
  ·rename_i ds;cases e1:intsOf ds with
   | none=>rw [e1] at e;cases e
   | some k=>
    rw [e1] at e;simp only [bind_some] at e;cases e2:items y with
    | none=>rw [e2] at e;cases e
    | some ys=>
     rw [e2] at e;simp only [bind_some] at e;obtain ⟨ks,e3,e⟩:=oms e;cases e;obtain ⟨p,vs,rfl,hq,l⟩:=F2 e2 hy;rw [a2G e3] at l;rw [z8 e1] at hx;exact .inr (.inr ⟨A,k,ks,p,vs,hx,rfl,hq,l,q _ H (Same.refl H) A4⟩)
  ·cases e
theorem b4w {k:Nat}(hr:Room k X.A)(ha:QX X a f)(hb:QX X b g)(hm:behindInMarks .In b=false:=by rfl):QX X (.Compare a [.In] [b] pos) (fBin (oInG false) f g):=a1S (a29.or ((b0t hr).or (a8D hr))) kInG ha hb hm
theorem b39 {k:Nat}(hr:Room k X.A)(ha:QX X a f)(hb:QX X b g)(hm:behindInMarks .In b=false:=by rfl):QT X (.Compare a [.In] [b] pos) (fTest (fBin (oInG false) f g)):=S5 (a29.or ((b0t hr).or (a8D hr))) kInG ha hb hm
def rGet (K:PySem.W.Frag):V->List V->Hp->VK->Prop:=fun x vs H Q=>∃a y r w,x= .ref a/\vs=[y,w]/\DGe K H a y r/\Q (r.getD w) H
theorem b16 {k0:Nat}(hr:Room k0 X.A):MtR X "dict.get" (rGet X.K):=by
 intro pins s σ H x xs v us Q I rx rv ⟨a,y,r,w,ex,evs,hg,q⟩;subst ex evs;cases rx;obtain ⟨u,w',rfl,ru,rw'⟩:=vals2 rv;rcases hg with ⟨kvs,k,e,rfl,rfl⟩ | ⟨kvs,k,b,e,rfl,hq,rfl⟩
 ·obtain ⟨z,hd,ys,rel,dd⟩:=b0j I.hok e;refine call_meetsIn PySem.F.slot_dict_get dd.typeIs PySem.F.entry_dict_get (PySem.F.args_dict_get_3 _ _ _) (meets_dict_get_default (mixKind X.prog X.w) a (a60 ru) hd w') ⟨_,dd.mapOf,?_⟩;exact ⟨_,H,I.tok _,(rel.val k).getD rw',q⟩
 ·cases (show u=Value.ref b from ru);obtain ⟨z,hd,ys,rel,dd⟩:=a7o I.hok e;refine call_meetsIn PySem.F.slot_dict_get dd.typeIs PySem.F.entry_dict_get (PySem.F.args_dict_get_3 _ _ _) (meetsH_dict_get_default (tupleKind (mixKind X.prog X.w)) a b hd w') ⟨tupleKind_room_in1 (a6K hr),k,ys,a3K I hq,dd,?_⟩;exact ⟨_,H,I.tok _,(rel.val k).getD rw',q⟩
def fGet (f:FX) (fa:FA):FX:=fun ρ=>(f ρ).bind fun p=>(dr p.2 p.1.fz).bind fun d=>if isDi d=true then (fa p.2).bind fun q=>(takeAll q.2 q.1).bind fun z=>(dr z.2 p.1.fz).bind fun x=>match z.1 with
  | [y,e]=>(lookG x y).map fun r=>(.v (r.getD e),z.2)
  | _=>none
 else none
theorem a5y {k0:Nat}(hr:Room k0 X.A)(ha:QX X o f)(hb:QA X (e :: es) fa)(hbase:attributeBase o "get" X.env (eval o X.env)=eval o X.env:=by rfl)
  (hfew:((backTo pos (starEach (e :: es) X.env)).all (fun x=>!x.1) && (backToKw pos (keywordEach [] X.env)).all (fun x=>x.1.isSome) && decide ((e :: es).length + ([]:List Keyword).length + (if ([]:List Keyword).isEmpty then 0 else 1) < 30))=true:=by rfl)
  (hline:(apos.endLine == pos.line)=true:=by rfl) (hs:starEach (e :: es) X.env=(false,eval e X.env) :: starEach es X.env:=by rfl) (hpl:(backTo pos (starEach es X.env)).any (·.1)=false:=by rfl):
  QX X (.Call (.Attribute o "get" apos) (e :: es) [] pos) (fGet f fa):=
 ⟨PE.weak (b0r PySem.F.plainAttrs_dict PySem.F.slot_dict_get PySem.F.type_dict_get (b16 hr) ha.to hb.to hbase hfew hline hs hpl) fun σ H Q h0=>tXe h0 fun P O L ρ w ρ' rp e q=>by
 unfold fGet at e;obtain ⟨⟨w1,ρ1⟩,e1,e⟩:=obs e;dsimp only at e;cases e2:dr ρ1 w1.fz with
 | none=>rw [e2] at e;cases e
 | some d=>
  rw [e2] at e;simp only [bind_some] at e;split at e
  ·rename_i hdi;obtain ⟨⟨ws,ρ2⟩,e3,e⟩:=obs e;dsimp only at e;obtain ⟨⟨ds,ρ3⟩,e5,e⟩:=obs e;dsimp only at e;cases e4:dr ρ3 w1.fz with
   | none=>rw [e4] at e;cases e
   | some x=>
    rw [e4] at e;simp only [bind_some] at e;split at e
    ·rename_i y e0;obtain ⟨r,e6,e⟩:=oms e;cases e;refine ⟨P,O,L,ρ,w1,ρ1,rp,e1,fun v H1 H1' r1 s1 d1=>?_⟩;have r1g:=r1.grow s1;have dd:=G6 r1g e2 (d1.fz r1 s1);obtain ⟨P',r1',k1⟩:=hold r1g (d1.fz r1 s1);refine ⟨?_,P',O,L,ρ1,_,_,r1',e3,fun vs H2 r2 l2=>?_⟩
     ·cases d with
      | dT ks xs=>obtain ⟨a,us,rfl,ha,_⟩:=dd;exact .inr (.inr (.inl ⟨rfl,.inr ⟨_,ha⟩⟩))
      | dK ks xs=>obtain ⟨a,us,rfl,ha,_⟩:=dd;exact .inr (.inr (.inl ⟨rfl,.inl ⟨_,ha⟩⟩))
      | _=>cases hdi
     ·obtain ⟨r4,l4,_⟩:=k8 r2 e5 l2;obtain ⟨r3,d3⟩:=k1 _ H2 r4;have dx:=G6 r3 e4 d3;obtain ⟨v1,v2,rfl,g1,g2⟩:=denL2 l4;obtain ⟨a,w',rfl,hg,hm⟩:=a0E e6 dx (E7 g1);refine ⟨a,v1,w',v2,rfl,rfl,hg,q _ H2 H2 r3 (Same.refl _) ?_⟩;cases r with
      | none=>rw [show w'=none from hm];exact g2
      | some d=>obtain ⟨z,rfl,dz⟩:=hm;exact dz
    ·cases e
  ·cases e⟩
end
open PySem PySem.W PyProof.Rows
def TWp {α:Type} (n:Nat) (lt:Nat->Nat->Bool):KasT α->(α->Prop)->Prop
 | .ret a,Q=>Q a
 | .ask i j k,Q=>i < n/\j < n/\TWp n lt (k (lt i j)) Q
theorem L6 {α β:Type}{n:Nat}{lt:Nat->Nat->Bool}{g:α->KasT β}{Q:β->Prop}:∀(t:KasT α),TWp n lt t (fun a=>TWp n lt (g a) Q)->TWp n lt (t.bind g) Q
 | .ret _,h=>h
 | .ask i j k,⟨h1,h2,h⟩=>⟨h1,h2,L6 (k (lt i j)) h⟩
theorem a7k {α:Type}{n:Nat}{lt:Nat->Nat->Bool}{cmp:Nat->Nat->(Bool->Shared->Prop)->Shared->Prop}{s:Shared}{Q:α->Shared->Prop}
  (hc:∀i j (C:Bool->Shared->Prop),i < n->j < n->C (lt i j) s->cmp i j C s):∀(t:KasT α),TWp n lt t (fun a=>Q a s)->t.kasWp cmp Q s
 | .ret a,h=>h
 | .ask i j k,⟨h1,h2,h⟩=>hc i j _ h1 h2 (a7k hc (k (lt i j)) h)
section
variable {O:KeyOrd}{f:Nat->O.α}{n:Nat}
def Ky (f:Nat->O.α) (p:Array Nat) (i:Nat):O.α:=f (p.getD i 0)
def SoTo (f:Nat->O.α) (p:Array Nat) (k:Nat):Prop:=∀i j,i<=j->j < k->O.kle (Ky f p i) (Ky f p j)
def NoIn (f:Nat->O.α) (p:Array Nat) (k:Nat):Prop:=∀i j,i<=j->j < k->O.kle (Ky f p j) (Ky f p i)
structure PB (n:Nat) (p:Array Nat):Prop where
 perm:p.Perm (List.toArray (List.range n))
 pos:0 < n
theorem PB.size {p:Array Nat}(h:PB n p):p.size=n:=by rw [h.perm.size_eq];simp
theorem PB.lt {p:Array Nat}(h:PB n p)(i:Nat):p.getD i 0 < n:=by
 by_cases q:i < p.size
 ·have e:p.getD i 0=p[i]:=by simp [Array.getD,q]
  rw [e];have m:p[i]∈p.toList:=by simp
  have:=(Array.perm_iff_toList_perm.mp h.perm).mem_iff.mp m
  simpa using this
 ·have e:p.getD i 0=0:=by simp [Array.getD,q]
  rw [e];exact h.pos
theorem P6 {p q:Array Nat}{i j:Nat}(h:p[i]? =q[j]?):Ky f p i=Ky f q j:=by
 unfold Ky;congr 1;rw [Array.getD_eq_getD_getElem?,Array.getD_eq_getD_getElem?,h]
theorem a2Q {xs:Array Nat}{src d:Nat}(hs:src < xs.size)(hd:d<=src)(k:Nat):
  Ky f (bubble xs src d) k=if k=src - d then Ky f xs src else if src - d < k/\k<=src then Ky f xs (k - 1) else Ky f xs k:=by
 have e:=getElem?_bubble hs d hd k
 by_cases h1:k=src - d
 ·rw [if_pos h1] at e ⊢;exact P6 e
 ·rw [if_neg h1] at e ⊢
  by_cases h2:src - d < k/\k<=src
  ·rw [if_pos h2] at e ⊢;exact P6 e
  ·rw [if_neg h2] at e ⊢;exact P6 e
theorem a0v {xs:Array Nat}{i j:Nat}(hj:j<=xs.size)(k:Nat):
  Ky f (kas_rev xs i j) k=if i<=k/\k < j then Ky f xs (i + j - 1 - k) else Ky f xs k:=by
 have e:=getElem?_mirror_all (i:=i) hj k;unfold kas_rev
 by_cases h1:i<=k/\k < j
 ·rw [if_pos h1] at e ⊢;exact P6 e
 ·rw [if_neg h1] at e ⊢;exact P6 e
theorem v4 {xs:Array Nat}{i j:Nat}(hj:j<=xs.size)(heq:∀k,i<=k->k < j->Ky f xs k=Ky f xs (j - 1))(k:Nat):Ky f (kas_rev xs i j) k=Ky f xs k:=by
 rw [a0v hj]
 split
 ·rw [heq _ (by omega) (by omega),heq k (by omega) (by omega)]
 ·rfl
theorem PB.rev {p:Array Nat}(h:PB n p)(i j:Nat):PB n (kas_rev p i j):=⟨(mirror_perm _ _ _ _).trans h.perm,h.pos⟩
theorem PB.bub {p:Array Nat}(h:PB n p)(i j:Nat):PB n (bubble p i j):=⟨(bubble_perm _ _ _).trans h.perm,h.pos⟩
abbrev ltK (f:Nat->O.α):Nat->Nat->Bool:=fun i j=>O.blt (f i) (f j)
theorem a3x {p:Array Nat}(hB:PB n p){Q:Nat->Prop}:∀(c a:Nat),1<=a->SoTo f p a->(∀m,a<=m->m<=a + c->SoTo f p m->(m=a + c\/O.klt (Ky f p m) (Ky f p (m - 1)))->Q m)->TWp n (ltK f) (kas_asc p c a) Q
 | 0,a,_,hs,h=>h a (zE _) (zE _) hs (.inl rfl)
 | c + 1,a,h1,hs,h=>by
  refine ⟨hB.lt _,hB.lt _,?_⟩;cases hless:O.blt (Ky f p a) (Ky f p (a - 1))
  case true=>
   rw [show ltK f (p.getD a 0) (p.getD (a - 1) 0)=true from hless];dsimp only;rw [if_pos rfl];exact h a (zE _) (by walk_at "o") hs (.inr hless)
  case false=>
   rw [show ltK f (p.getD a 0) (p.getD (a - 1) 0)=false from hless];dsimp only;rw [if_neg (by simp)]
   refine a3x hB c (a + 1) (by walk_at "o") (fun i j hij hj=>?_) fun m x1 x2 x3 x4=>h m (by walk_at "o") (by walk_at "o") x3 (x4.imp (fun q=>by walk_at "o") id)
   by_cases hjx:j < a
   ·exact hs i j hij hjx
   ·have hj':j=a:=by walk_at "o"
    subst hj'
    by_cases hi':i=j
    ·subst hi';exact xC _
    ·exact KeyOrd.kle_trans (hs i (j - 1) (by walk_at "o") (by walk_at "o")) hless
theorem a3b {p:Array Nat}(hB:PB n p){Q:Nat×Array Nat->Prop}{a m:Nat}(h1:1<=a)(ha:a<=m)(hm:m<=n)(hs:NoIn f p a)(h:∀k q,PB n q->1<=k->k<=m->SoTo f q k->Q (k,q)):TWp n (ltK f) (kas_tail3 a m p) Q:=by
 have hsz:a<=p.size:=by rw [hB.size];walk_at "o"
 refine L6 _ (a3x (hB.rev 0 a) (m - a) a h1 (fun i j hij hj=>?_) fun k x1 x2 x3 _=>h k _ (hB.rev 0 a) (by walk_at "o") (by walk_at "o") x3)
 rw [a0v hsz,a0v hsz,if_pos (by walk_at "o"),if_pos (by walk_at "o")]
 exact hs _ _ (by walk_at "o") (by walk_at "o")
theorem Y7 {Q:Array Nat×Nat×Nat->Prop}{m:Nat}(hm:m<=n):∀(c:Nat) (p:Array Nat) (a q:Nat),a + c=m->PB n p->1<=a->NoIn f p a->q + 1<=a->(∀i,a - (q + 1)<=i->i < a->Ky f p i=Ky f p (a - 1))->
  (∀k r p',PB n p'->a<=k->k<=m->NoIn f p' k->r + 1<=k->(∀i,k - (r + 1)<=i->i < k->Ky f p' i=Ky f p' (k - 1))->Q (p',k,r))->TWp n (ltK f) (kas_desc c p a q) Q
 | 0,p,a,q,hc,hB,h1,hs,hq,he,h=>h a q p hB (zE _) (by walk_at "o") hs hq he
 | c + 1,p,a,q,hc,hB,h1,hs,hq,he,h=>by
  have hsz:a<=p.size:=by rw [hB.size];walk_at "o"
  refine ⟨hB.lt _,hB.lt _,?_⟩;cases hless:O.blt (Ky f p a) (Ky f p (a - 1))
  case true=>
   rw [show ltK f (p.getD a 0) (p.getD (a - 1) 0)=true from hless];dsimp only;rw [if_pos rfl];have step1:∀xs:Array Nat,(∀k,Ky f xs k=Ky f p k)->NoIn f xs (a + 1):=by
    intro xs hk i j hij hj;rw [hk,hk]
    by_cases hjx:j < a
    ·exact hs i j hij hjx
    ·have hj':j=a:=by walk_at "o"
     subst hj'
     by_cases hi':i=j
     ·subst hi';exact xC _
     ·exact KeyOrd.kle_trans (KeyOrd.kle_of_klt hless) (hs i (j - 1) (by walk_at "o") (by walk_at "o"))
   by_cases hneq:q > 0
   ·rw [if_pos hneq];exact Y7 hm c _ (a + 1) 0 (by walk_at "o") (hB.rev _ _) (by walk_at "o") (step1 _ (v4 hsz he)) (by walk_at "o") (fun i h1 h2=>by congr 1;walk_at "o") fun k r p' x1 x2=>h k r p' x1 (by walk_at "o")
   ·rw [if_neg hneq];exact Y7 hm c _ (a + 1) 0 (by walk_at "o") hB (by walk_at "o") (step1 _ (fun _=>rfl)) (by walk_at "o") (fun i h1 h2=>by congr 1;walk_at "o") fun k r p' x1 x2=>h k r p' x1 (by walk_at "o")
  case false=>
   rw [show ltK f (p.getD a 0) (p.getD (a - 1) 0)=false from hless];dsimp only;rw [if_neg (by simp)]
   refine ⟨hB.lt _,hB.lt _,?_⟩;cases hlarger:O.blt (Ky f p (a - 1)) (Ky f p a)
   case true=>
    rw [show ltK f (p.getD (a - 1) 0) (p.getD a 0)=true from hlarger];dsimp only;rw [if_pos rfl];exact h a q p hB (zE _) (by walk_at "o") hs hq he
   case false=>
    rw [show ltK f (p.getD (a - 1) 0) (p.getD a 0)=false from hlarger];dsimp only;rw [if_neg (by simp)]
    have heqx:Ky f p a=Ky f p (a - 1):=KeyOrd.kle_antisymm hlarger hless;refine Y7 hm c p (a + 1) (q + 1) (by walk_at "o") hB (by walk_at "o") (fun i j hij hj=>?_) (by walk_at "o") (fun i h1 h2=>?_) fun k r p' x1 x2=>h k r p' x1 (by walk_at "o")
    ·by_cases hjx:j < a
     ·exact hs i j hij hjx
     ·have hj':j=a:=by walk_at "o"
      subst hj'
      by_cases hi':i=j
      ·subst hi';exact xC _
      ·rw [heqx];exact hs i (j - 1) (by walk_at "o") (by walk_at "o")
    ·rw [show a + 1 - 1=a by walk_at "o"]
     by_cases hix:i=a
     ·subst hix;rfl
     ·rw [heqx];exact he i (by walk_at "o") (by walk_at "o")
theorem a0e {p:Array Nat}(hB:PB n p){Q:Nat×Array Nat->Prop}{a m:Nat}(ha:a + 1<=m)(hm:m<=n)(hs:NoIn f p (a + 1))(h:∀k q,PB n q->1<=k->k<=m->SoTo f q k->Q (k,q)):TWp n (ltK f) (kas_descPart a m p) Q:=by
 refine L6 _ (Y7 hm (m - (a + 1)) p (a + 1) 0 (by walk_at "o") hB (by walk_at "o") hs (by walk_at "o") (fun i h1 h2=>by congr 1;walk_at "o") fun k r p' hB' x2 x3 hs' x5 he=>?_)
 have hsz:k<=p'.size:=by rw [hB'.size];walk_at "o"
 dsimp only
 by_cases hneq:r > 0
 ·rw [if_pos hneq];refine a3b (hB'.rev _ _) (by walk_at "o") x3 hm (fun i j hij hj=>?_) h
  rw [v4 hsz he,v4 hsz he];exact hs' i j hij hj
 ·rw [if_neg hneq];exact a3b hB' (by walk_at "o") x3 hm hs' h
theorem a8o {p:Array Nat}(hB:PB n p){Q:Nat×Array Nat->Prop}{m:Nat}(h1:1<=m)(hm:m<=n)(h:∀k q,PB n q->1<=k->k<=m->SoTo f q k->Q (k,q)):TWp n (ltK f) (kas_count m p) Q:=by
 refine L6 _ (a3x hB (m - 1) 1 (zE 1) (fun i j hij hj=>by have:i=j:=(by walk_at "o");subst this;exact xC _) fun a ha1 ha2 hsn hor=>?_)
 by_cases hnn:a=m
 ·rw [if_pos (by simpa using hnn)]
  exact h a p hB ha1 (by walk_at "o") hsn
 ·rw [if_neg (by simpa using hnn)]
  have hlt:O.klt (Ky f p a) (Ky f p (a - 1)):=hor.resolve_left (by walk_at "o")
  by_cases hgt:a > 1
  ·rw [if_pos hgt];refine ⟨hB.lt _,hB.lt _,?_⟩;cases hrose:O.blt (Ky f p 0) (Ky f p (a - 1))
   case true=>
    rw [show ltK f (p.getD 0 0) (p.getD (a - 1) 0)=true from hrose];dsimp only;rw [if_pos rfl];exact h a p hB ha1 (by walk_at "o") hsn
   case false=>
    rw [show ltK f (p.getD 0 0) (p.getD (a - 1) 0)=false from hrose];dsimp only;rw [if_neg (by simp)]
    have hsz:a<=p.size:=by rw [hB.size];walk_at "o"
    have hall:∀k,0<=k->k < a->Ky f p k=Ky f p (a - 1):=by
     intro k _ hk;have a1:=hsn 0 k (by walk_at "o") hk
     have a2:=hsn k (a - 1) (by walk_at "o") (by walk_at "o")
     exact KeyOrd.kle_antisymm a2 (KeyOrd.kle_trans hrose a1)
    refine a0e (hB.rev _ _) (by walk_at "o") hm (fun i j hij hj=>?_) h
    rw [v4 hsz hall,v4 hsz hall]
    by_cases hjn:j < a
    ·rw [hall i (by walk_at "o") (by walk_at "o"),hall j (by walk_at "o") hjn];exact xC _
    ·have hj':j=a:=by walk_at "o"
     subst hj'
     by_cases hi':i=j
     ·subst hi';exact xC _
     ·rw [hall i (by walk_at "o") (by walk_at "o")];exact KeyOrd.kle_of_klt hlt
  ·rw [if_neg hgt];have hn1':a=1:=by walk_at "o"
   subst hn1';refine a0e hB (by walk_at "o") hm (fun i j hij hj=>?_) h
   by_cases hi':i=j
   ·subst hi';exact xC _
   ·have hi0:i=0:=by walk_at "o"
    have hj1:j=1:=by walk_at "o"
    subst hi0;subst hj1;exact KeyOrd.kle_of_klt hlt
theorem a0V {p:Array Nat}(hB:PB n p){Q:Nat->Prop}{k:Nat}(hk:k < n)(hs:SoTo f p k)
  (h:∀l,l<=k->(∀i,i < l->O.kle (Ky f p i) (Ky f p k))->(∀i,l<=i->i < k->O.klt (Ky f p k) (Ky f p i))->Q l):
  ∀(c l r:Nat),l<=r->r<=k->r - l<=c->(∀i,i < l->O.kle (Ky f p i) (Ky f p k))->(∀i,r<=i->i < k->O.klt (Ky f p k) (Ky f p i))->TWp n (ltK f) (kas_place p k c l r) Q
 | 0,l,r,hlr,hrk,hc,hlo,hhi=>h l (by omega) hlo (fun i h1 h2=>hhi i (by omega) h2)
 | c + 1,l,r,hlr,hrk,hc,hlo,hhi=>by
  unfold kas_place
  by_cases hge:l≥r
  ·rw [if_pos hge]
   have:l=r:=by omega
   subst this;exact h l hrk hlo hhi
  ·rw [if_neg hge];refine ⟨hB.lt _,hB.lt _,?_⟩;cases hless:O.blt (Ky f p k) (Ky f p ((l + r) / 2))
   case true=>
    rw [show ltK f (p.getD k 0) (p.getD ((l + r) / 2) 0)=true from hless];dsimp only;rw [if_pos rfl];exact a0V hB hk hs h c l ((l + r) / 2) (by omega) (by omega) (by omega) hlo fun i h1 h2=>KeyOrd.klt_of_klt_of_kle hless (hs _ _ h1 h2)
   case false=>
    rw [show ltK f (p.getD k 0) (p.getD ((l + r) / 2) 0)=false from hless];dsimp only;rw [if_neg (by simp)]
    exact a0V hB hk hs h c ((l + r) / 2 + 1) r (by omega) (by omega) (by omega) (fun i h1=>KeyOrd.kle_trans (hs i ((l + r) / 2) (by omega) (by omega)) (show O.kle _ _ from hless)) hhi
theorem a6p {Q:Array Nat->Prop}(h:∀p,PB n p->SoTo f p n->Q p):∀(c k:Nat) (p:Array Nat),c + k=n->PB n p->SoTo f p k->TWp n (ltK f) (kas_bin c p k) Q
 | 0,k,p,hc,hB,hs=>h p hB (by rw [<-hc];rw [Nat.zero_add];exact hs)
 | c + 1,k,p,hc,hB,hs=>by
  refine L6 _ (a0V hB (by walk_at "o") hs (fun l hlk hlo hhi=>?_) k 0 k (by walk_at "o") (by walk_at "o") (by walk_at "o") (fun i hi=>by walk_at "o") fun i h1 h2=>by walk_at "o")
  refine a6p h c (k + 1) _ (by walk_at "o") (hB.bub _ _) fun i j hij hj=>?_
  have hks:k < p.size:=by rw [hB.size];walk_at "o"
  rw [a2Q hks (by walk_at "o"),a2Q hks (by walk_at "o"),show k - (k - l)=l by walk_at "o"]
  repeat' split
  all_goals first
   | (exfalso;walk_at "o")
   | exact xC _
   | exact hlo _ (by walk_at "o")
   | exact KeyOrd.kle_of_klt (hhi _ (by walk_at "o") (by walk_at "o"))
   | exact hs _ _ (by walk_at "o") (by walk_at "o")
theorem b0K {Q:Array Nat->Prop}(hn:1<=n)(h:∀p,PB n p->SoTo f p n->Q p):TWp n (ltK f) (kas_sort n) Q:=by
 refine L6 _ (a8o ⟨Array.Perm.refl _,hn⟩ hn (zE _) fun k q hB x1 x2 hs=>?_);dsimp only
 split
 ·rw [show max k 1=k by walk_at "o"]
  exact a6p h (n - k) k q (by walk_at "o") hB hs
 ·exact h q hB (by rw [show n=k by walk_at "o"];exact hs)
end
def DRaw (h:Heap) (d:Addr) (es:Array DictEntry) (ep:Nat):Prop:=∃o,h.get? d=some o/\o.ExactDict/\o.data= .dict es ep
theorem DRaw.typeIs {s:Shared}{d:Addr}{es:Array DictEntry}{ep:Nat}(x:DRaw s.heap d es ep):s.TypeIs (.ref d) "dict":=let ⟨o,e,c,_⟩:=x;⟨o,e,c.1⟩
theorem DRaw.lt {h:Heap}{d:Addr}{es:Array DictEntry}{ep:Nat}(x:DRaw h d es ep):d < h.objs.size:=let ⟨_,e,_⟩:=x;zV e
theorem DRaw.on {h h':Heap}{d:Addr}{es:Array DictEntry}{ep:Nat}(x:DRaw h d es ep)(k:∀o,h.get? d=some o->h'.get? d=some o):DRaw h' d es ep:=let ⟨o,e,r⟩:=x;⟨o,k o e,r⟩
section
variable {prog:Program}{w:World}{A:Around}{E:Value->Shared->Prop}{s:Shared}{it d:Addr}{es:Array DictEntry}{i ep:Nat}
theorem a88 {Q:Value->Shared->Prop}(ns:(d == sysModules)=false)(hm:DRaw s.heap d es ep)
  (q:Q (.ref s.heap.objs.size) {s with heap:=s.heap.push {cls:=.type "dict_keyiterator",data:=.fields #[.ref d,.int 0 0,.int es.size 0,.int ep 0]}}):wpAny (model prog w) A (pyIter (.ref d)) Q E s:=by
 obtain ⟨o,g0,gx,gd⟩:=id hm;have T:=hm.typeIs;refine wpAny_pyIter_slot T F.slot_dict_iter (jA F.slot_dict_iter T F.entry_dict_iter ?_ (F.args_dict_iter_1 _));unfold Builtin.«dict.__iter__»;refine zA ?_;unfold Builtin.Dict.dictSlotNone;refine zA (wpAny_notOrdered_dict T (zC ?_));show wpAny _ _ (Builtin.Dict.showsAll d >>=_) _ _ s;unfold Builtin.Dict.showsAll;rw [if_neg (by rw [ns];simp)]
 refine zA (zC (zA (wpAny_dictEntries g0 gd (zA (wpAny_dictEpoch g0 gd ?_)))));refine zA (qH (zC ⟨_,rfl,"dict_keyiterator",_,⟨_,qB _ rfl,rfl⟩,F.slot_dict_keyiterator_next.lookup,?_⟩));simpa [rawInt] using q
theorem a85 {Q:Option Value->Shared->Prop}{e:DictEntry}(hit:s.heap.IsKeyIter it d i es.size ep)(hm:DRaw s.heap d es ep)(he:es[i]? =some e)
  (q:∀h',h'.IsKeyIter it d (i + 1) es.size ep->Heap.SameBut it s.heap h'->Q (some e.key) {s with heap:=h'}):wpAny (model prog w) A (pyNext (.ref it)) Q E s:=by
 obtain ⟨o,t0,tc,td⟩:=id hit;obtain ⟨od,g0,gx,gd⟩:=id hm;unfold pyNext;refine zA (wpAny_attempt (qU (name:=Str.ofString "__next__") hit.typeIs jL (jA jL hit.typeIs F.entry_dict_keyiterator_next ?_ (F.args_dict_keyiterator_next_1 _))));refine zA (zC (zA (zA ?_)))
 first | refine zA (xF hit.typeIs (zC (zA (wpAny_fieldsOf t0 td ?_)))) | refine zA (xW hit.typeIs (zC (zA (wpAny_fieldsOf t0 td ?_))))
 have own:Builtin.Dict_items.ownsTuple "dict_keyiterator"=false:=by decide
 simp only [own,qX,jW];show wpAny _ _ (if (Value.ref d == Value.none)=true then _ else _) _ _ s;rw [if_neg (show ¬((Value.ref d == Value.none)=true) from zQ)];refine zA (zC (zA (wpAny_dictEntries g0 gd ?_)));rw [if_neg (by simp)]
 refine zA (zC (zA (wpAny_dictEpoch g0 gd ?_)));rw [if_neg (by simp)]
 refine zC ?_;have lt:i < es.size:=by
  rcases Nat.lt_or_ge i es.size with z | z
  ·exact z
  ·rw [xH z] at he;cases he
 simp only [show ¬((i:Int) < 0) from by walk_at "o",jW,qM,he]
 refine zA ?_
 first | refine zA (xF hit.typeIs (zC (zA (wpAny_isOneOf_keyiter hit.typeIs ?_)))) | refine zA (xW hit.typeIs (zC (zA (wpAny_isOneOf_keyiter hit.typeIs ?_))))
 show wpAny _ _ (setField (.ref it) 1 (rawInt ((i:Int) + 1)) >>=_) _ _ s;refine zA (wpAny_setField t0 td (by simp) ?_)
 have up:(s.heap.update it (PySem.Obj.mapFields (·.setIfInBounds 1 (rawInt ((i:Int) + 1))))).IsKeyIter it d (i + 1) es.size ep:=⟨_,Heap.get?_update_self _ t0 (Obj.isFreed_of_fields (Obj.data_mapFields td _)),(Obj.cls_mapFields ..).trans tc,by rw [Obj.data_mapFields td];simp [rawInt]⟩
 refine zA (jD (zA (wpAny_isOneOf_keyiter (s:={s with heap:=s.heap.update it (PySem.Obj.mapFields (·.setIfInBounds 1 (rawInt ((i:Int) + 1))))}) up.typeIs ?_)))
 show wpAny _ _ (pure e.key) _ _ _;exact zC (zC ⟨_,rfl,zC (q _ up (Heap.SameBut.update ..))⟩)
theorem b1H {Q:Option Value->Shared->Prop}(hh:A.handled=none)(hit:s.heap.IsKeyIter it d i es.size ep)(hm:DRaw s.heap d es ep)(he:es[i]? =none)
  (q:∀h',Heap.ExtBut it s.heap h'->Q none {s with heap:=h'}):wpAny (model prog w) A (pyNext (.ref it)) Q E s:=by
 obtain ⟨o,t0,tc,td⟩:=id hit;obtain ⟨od,g0,gx,gd⟩:=id hm;unfold pyNext;refine zA (wpAny_attempt (qU (name:=Str.ofString "__next__") hit.typeIs jL (jA jL hit.typeIs F.entry_dict_keyiterator_next ?_ (F.args_dict_keyiterator_next_1 _))));refine zA (zC (zA (zA ?_)))
 first | refine zA (xF hit.typeIs (zC (zA (wpAny_fieldsOf t0 td ?_)))) | refine zA (xW hit.typeIs (zC (zA (wpAny_fieldsOf t0 td ?_))))
 have own:Builtin.Dict_items.ownsTuple "dict_keyiterator"=false:=by decide
 simp only [own,qX,jW];show wpAny _ _ (if (Value.ref d == Value.none)=true then _ else _) _ _ s;rw [if_neg (show ¬((Value.ref d == Value.none)=true) from zQ)];refine zA (zC (zA (wpAny_dictEntries g0 gd ?_)));rw [if_neg (by simp)]
 refine zA (zC (zA (wpAny_dictEpoch g0 gd ?_)));rw [if_neg (by simp)]
 refine zC ?_;simp only [show ¬((i:Int) < 0) from by walk_at "o",jW,qM,he]
 refine zA ?_
 first | refine zA (xF hit.typeIs (zC ?_)) | refine zA (xW hit.typeIs (zC ?_))
 show wpAny _ _ (setField (.ref it) 0 .none >>=_) _ _ s;refine zA (wpAny_setField t0 td (by simp) ?_)
 show wpAny _ _ (newExc (.type "StopIteration") [] >>=_) _ _ _;refine zA ?_;simp only [newExc,newTuple];refine zA (qH ?_ (by size_fits))
 refine zA (m:=firstArgMember _ _) (wpAny_of_eq (a:=Value.none) (by first | rfl | (simp only [firstArgMember];rfl)) (qH ?_ (by size_fits)))
 simp only [raiseNew];refine zA (wpAny_handled ?_);rw [show A.in1.handled=none from hh];refine zA (zC (wpAny_throw ?_));refine zA (wpAny_isInstance (b:=true) (T:="StopIteration") ⟨_,qB _ rfl,rfl⟩ isSubtype_stop ?_);exact zC (q _ (((Heap.SameBut.update ..).extBut.push _).push _))
theorem a7M (hh:A.handled=none)(I d:Addr)(hne:d≠I)(es:Array DictEntry)(ep:Nat):
  Walks prog w A I [I,d] [I] es.size (fun i v=>∃e,es[i]? =some e/\v=e.key) (fun i h=>h.IsKeyIter I d i es.size ep/\DRaw h d es ep) where
 sub:=fun b hb=>by simp at hb;simp [hb]
 frame:=fun _ _ _ st hk=>⟨st.1.at fun o e=>hk I (by simp) o e,st.2.on fun o e=>hk d (by simp) o e⟩
 item:=fun i s Q E hi st hQ=>a85 st.1 st.2 (e:=es[i]) (by simp [hi]) fun h' h1 h2=>hQ _ h' s.toks ⟨_,by simp [hi],rfl⟩ ⟨h1,st.2.on fun o e=>(h2.2 d hne).trans e⟩ fun b o hb e=>(h2.2 b (fun z=>hb (by simp [z]))).trans e
 done:=fun s Q E st hQ=>b1H hh st.1 st.2 (by simp) fun h' x=>hQ h' s.toks fun b o hb e=>x b o (fun z=>hb (by simp [z])) e
 self:=fun _ _ _ _ st hQ=>wpAny_pyIter_keyiter st.1 hQ
theorem a6E (ns:(d == sysModules)=false):KdlSrc prog w "dict" d d es.size (fun i v=>∃e,es[i]? =some e/\v=e.key) (fun h=>DRaw h d es ep) where
 type:=fun _ x=>x.typeIs
 there:=fun _ x=>⟨x.lt,x.lt⟩
 keep:=fun _ _ x hk=>x.on fun o e=>hk d (.inl rfl) o e
 notList:=by decide
 notTuple:=by decide
 hint:=fun _ _ _ _ x q=>kdl_hint_dict x.typeIs q
 iter:=fun _ _ hh x=>⟨_,_,(fun _ _ q=>a88 ns x q),a7M hh _ d (zN x.lt) es ep,⟨⟨_,qB _ rfl,rfl,rfl⟩,x.on fun o e=>zF _ e⟩⟩
end
theorem a7C:∀a:List Int,HT.lexLt a a=false
 | []=>rfl
 | x :: a=>by rw [HT.lexLt_cons,if_pos rfl];exact a7C a
theorem a26:∀a b c:List Int,HT.lexLt a b=true->HT.lexLt b c=true->HT.lexLt a c=true
 | [],[],_,h,_=>by cases h
 | [],_ :: _,[],_,h=>by cases h
 | [],_ :: _,_ :: _,_,_=>rfl
 | _ :: _,[],_,h,_=>by cases h
 | _ :: _,_ :: _,[],_,h=>by cases h
 | x :: a,y :: b,z :: c,h,h'=>by
  rw [HT.lexLt_cons] at h h' ⊢
  by_cases e1:x=y
  ·by_cases e2:y=z
   ·rw [if_pos e1] at h;rw [if_pos e2] at h';rw [if_pos (e1.trans e2)];exact a26 a b c h h'
   ·rw [if_neg e2] at h';rw [if_neg (fun q=>e2 (e1.symm.trans q)),e1];exact h'
  ·rw [if_neg e1] at h;have h1:=xP h
   by_cases e2:y=z
   ·rw [if_neg (fun q=>e1 (q.trans e2.symm)),<-e2];exact h
   ·rw [if_neg e2] at h';have h2:=xP h';rw [if_neg (by omega)]
    exact qE (by omega)
theorem a6V:∀a b c:List Int,HT.lexLt a c=true->HT.lexLt a b=true\/HT.lexLt b c=true
 | [],[],_,h=>.inr h
 | [],_ :: _,_,_=>.inl rfl
 | _ :: _,_,[],h=>by cases h
 | _ :: _,[],_ :: _,_=>.inr rfl
 | x :: a,y :: b,z :: c,h=>by
  rw [HT.lexLt_cons] at h ⊢;rw [HT.lexLt_cons]
  by_cases e1:x=y
  ·by_cases e2:y=z
   ·rw [if_pos (e1.trans e2)] at h;rw [if_pos e1,if_pos e2];exact a6V a b c h
   ·rw [if_neg (fun q=>e2 (e1.symm.trans q))] at h;rw [if_neg e2,<-e1];exact .inr h
  ·rw [if_neg e1]
   by_cases e2:x=z
   ·have e3:¬y=z:=fun q=>e1 (e2.trans q.symm);rw [if_neg e3];rcases Int.lt_or_gt_of_ne e1 with q | q
    ·exact .inl (qE q)
    ·exact .inr (qE (by omega))
   ·rw [if_neg e2] at h;have h1:=xP h;rcases Int.lt_or_gt_of_ne e1 with q | q
    ·exact .inl (qE q)
    ·rw [if_neg (show ¬y=z by omega)];exact .inr (qE (by omega))
theorem a4i:∀a b:List Int,HT.lexLt a b=false->HT.lexLt b a=false->a=b
 | [],[],_,_=>rfl
 | [],_ :: _,h,_=>by cases h
 | _ :: _,[],_,h=>by cases h
 | x :: a,y :: b,h,h'=>by
  rw [HT.lexLt_cons] at h h'
  by_cases e:x=y
  ·rw [if_pos e] at h;rw [if_pos e.symm] at h';rw [e,a4i a b h h']
  ·rw [if_neg e] at h;rw [if_neg (fun q=>e q.symm)] at h';have h1:=of_decide_eq_false h;have h2:=of_decide_eq_false h';walk_at "o"
def lexO:KeyOrd:=⟨List Int,HT.lexLt,a7C,a26,a6V,a4i⟩
inductive Tups (h:Heap):List Value->List (List Int)->Prop where
 | nil:Tups h [] []
 | cons {a:Addr} {its:Array Value} {k:List Int} {vs:List Value} {ks:List (List Int)} (t:IsTup h a its) (i:IntsAre its.toList k) (ne:k≠[]) (r:Tups h vs ks):Tups h (.ref a :: vs) (k :: ks)
theorem Tups.len {h:Heap}{vs:List Value}{ks:List (List Int)}(t:Tups h vs ks):vs.length=ks.length:=by
 induction t with
 | nil=>rfl
 | cons _ _ _ _ ih=>simp [ih]
theorem Tups.on {h h':Heap}{vs:List Value}{ks:List (List Int)}(t:Tups h vs ks)(k:∀a o,(.ref a)∈vs->h.get? a=some o->h'.get? a=some o):Tups h' vs ks:=by
 induction t with
 | nil=>exact .nil
 | cons x i ne r ih=>
  obtain ⟨o,e,c⟩:=x;exact .cons ⟨o,k _ o zH e,c⟩ i ne (ih fun a o m e=>k a o (zI _ m) e)
theorem Tups.at {h:Heap}{vs:List Value}{ks:List (List Int)}(t:Tups h vs ks):∀{i:Nat},i < vs.length->∃a its,vs.getD i .none= .ref a/\IsTup h a its/\IntsAre its.toList (ks.getD i [])/\ks.getD i []≠[]:=by
 induction t with
 | nil=>intro i hi;simp at hi
 | cons x i ne r ih=>
  intro j hj;cases j with
  | zero=>exact ⟨_,_,rfl,x,i,ne⟩
  | succ j=>exact ih (i:=j) (by simpa using hj)
section
variable {prog:Program}{w:World}{A:Around}{E:Value->Shared->Prop}{s:Shared}{h₀:Heap}{L D:Addr}{m:Str->Option Value}{vs:List Value}{ks:List (List Int)}
theorem a9J {fin:Bool}{Q:Bool->Shared->Prop}:∀{us ws:List Value} {ns ms:List Int} {i:Nat},IntsAre us ns->IntsAre ws ms->fin=decide (us.length < ws.length)->
  Q (HT.lexLt ns ms) s->KatLex prog w A true fin Q (us.zip ws) i s
 | [],[],_,_,i,h1,h2,ef,q=>by
  cases h1;cases h2;rw [zip_nil_left];exact kat_nil (by rw [ef];exact q)
 | [],_ :: _,_,_,i,h1,h2,ef,q=>by
  cases h1;cases h2;rw [zip_nil_left];exact kat_nil (by rw [ef];simpa [HT.lexLt] using q)
 | _ :: _,[],_,_,i,h1,h2,ef,q=>by
  cases h1;cases h2;rw [List.zip_nil_right];exact kat_nil (by rw [ef];simpa [HT.lexLt] using q)
 | _ :: us,_ :: ws,_,_,i,h1,h2,ef,q=>by
  cases h1 with
  | cons a t h1=>
   cases h2 with
   | cons c u h2=>
    rw [jO];rw [HT.lexLt_cons] at q;refine kat_cons (SeqAt.EqAt.int_int a t c u prog w _ _ ?_)
    by_cases e:a=c
    ·rw [if_pos e] at q;rw [show (a == c)=true by simpa using e]
     exact kat_yes (a9J h1 h2 (by rw [ef];simp) q)
    ·rw [if_neg e] at q;rw [show (a == c)=false by simpa using e]
     refine kat_no ?_;cases hb:(true && i == 0) with
     | true=>exact oneLt_int q
     | false=>exact kat_one _ _ (lt_int q)
theorem katTups {h:Heap}{vs:List Value}{ks:List (List Int)}(t:Tups h vs ks):∃fs,KatTups h vs fs/\fs.length=ks.length/\∀v∈fs,∃(i:Int) (u:Tok),v= .int i u:=by
 induction t with
 | nil=>exact ⟨[],.nil,rfl,fun v hv=>by cases hv⟩
 | @cons a its k vs ks x i ne r ih=>
  obtain ⟨fs,h1,h2,h3⟩:=ih;obtain ⟨o,e,c,n,d⟩:=x;obtain ⟨its⟩:=its;cases i with
  | nil=>exact absurd rfl ne
  | cons n0 t0 r'=>exact ⟨_,.cons e c d (by rfl) h1,by simp [h2],fun v hv=>(zS.mp hv).elim (fun z=>⟨_,_,z⟩) (h3 v)⟩
theorem b2i {s:Shared}(T:Tups s.heap vs ks)(i j:Nat)(C:Bool->Shared->Prop)(hi:i < vs.length)(hj:j < vs.length)(q:C (HT.lexLt (ks.getD i []) (ks.getD j [])) s):kas_ask prog w A (tuples' true) vs i j C s:=by
 obtain ⟨a,its,ea,⟨o,h1,h2,n,h3⟩,ia,_⟩:=T.at hi;obtain ⟨b,its2,eb,⟨o2,g1,g2,n2,g3⟩,ib,_⟩:=T.at hj;unfold kas_ask;rw [ea,eb];exact kat_lt h1 h3 g1 g3 (a9J ia ib (by simp) q)
theorem a8v {Q:Value->Shared->Prop}(F:Fr h₀ L s.heap m)(hD:s.heap.get? D=some (listOf vs.toArray 0))(hDL:D≠L)(hD0:h₀.get? D=none)(T:Tups s.heap vs ks)(nD:Value.ref D∉vs)(nL:Value.ref L∉vs)(k0:∀b o,h₀.get? b=some o->s.heap.get? b=some o)(h2:2<=vs.length)(h64:vs.length < 64)
  (q:∀(h':Heap) (p:Array Nat) (e:Nat),Fr h₀ L h' m->(∀b o,b≠L->b≠D->s.heap.get? b=some o->h'.get? b=some o)->h'.get? D=some (listOf (p.toList.map fun i=>vs.getD i .none).toArray e)->PB vs.length p->SoTo (O:=lexO) (fun i=>ks.getD i []) p vs.length->Q .none {s with heap:=h'}):
  wpAny (model prog w) A (call (.builtin "list.sort") [.ref D]) Q E s:=by
 have kept:=fun {h':Heap} (F':Fr h₀ L h' m) (N':News h₀ L h' (L2.rest h₀ s.heap L D))=>L2.a4l (d:=D) k0 F' N';refine kat_lsort (vs:=vs) F (L2.b1U hDL hD0 hD) (.head L2.a6L) (by simp) h2 h64 fun e1 h' F' N'=>?_
 have K':=kept F' fun p hp=>N' p (zI _ hp);have T':Tups h' vs ks:=T.on fun a o ma e=>K' a o (fun z=>nL (z▸ma)) (fun z=>nD (z▸ma)) e;obtain ⟨fs,f1,f2,f3⟩:=katTups T';refine kat_kind (s:={s with heap:=h'}) (T:=.type "int") f1 (by rw [f2,<-T.len];walk_at "o") (fun v hv=>by obtain ⟨i,u,rfl⟩:=f3 v hv;exact Looks.of_pure rfl) (by decide) ?_
 have tb:(Value.type "int" != Value.type "tuple")=true:=by decide
 rw [tb];refine a7k (s:={s with heap:=h'}) (n:=vs.length) (lt:=ltK (O:=lexO) fun i=>ks.getD i []) (fun i j C hi hj c=>b2i (s:={s with heap:=h'}) T' i j C hi hj c) _ (b0K (by walk_at "o") fun p hp hs=>?_)
 refine KasFin.intro F' N' (.head L2.a6L) fun h3 c F3 N3=>?_;exact q h3 p c F3 (kept F3 fun p hp=>N3 p (zI _ hp)) (N3 _ zH).1 hp hs
theorem a5Y {Q:Value->Shared->Prop}(hD:s.heap.get? D=some (listOf vs.toArray 0))(h2:vs.length < 2)
  (q:∀(h':Heap) (e:Nat),(∀b o,b≠D->s.heap.get? b=some o->h'.get? b=some o)->h'.get? D=some (listOf vs.toArray e)->Q .none {s with heap:=h'}):
  wpAny (model prog w) A (call (.builtin "list.sort") [.ref D]) Q E s:=by
 refine jA slot_list_sort ⟨_,hD,rfl⟩ entry_list_sort ?_ (args_list_sort _);rw [list_sort_plain];have lt:D < s.heap.objs.size:=zV hD;refine zA (listItems_at hD rfl (zA (listUpdate_at hD rfl ?_)));obtain ⟨e1,k1⟩:∃e1,(s.heap.update D (PySem.Obj.mapSeq fun _=> #[])).get? D=some (seqObj "list" #[] e1):=⟨_,get?_update_seq hD (fun _=> #[])⟩;refine zA (seqEpoch_at k1 rfl (zA (wpAny_newTuple (zA (wpAny_newList (jD ?_))))));have k2:(((s.heap.update D (PySem.Obj.mapSeq fun _=> #[])).push (seqObj "tuple" vs.toArray 0)).push (seqObj "list" #[] 0)).get? D=some (seqObj "list" #[] e1):=zF _ (zF _ k1);show wpAny (model prog w) _ _ _ E {s with heap:=((s.heap.update D (PySem.Obj.mapSeq fun _=> #[])).push (seqObj "tuple" vs.toArray 0)).push (seqObj "list" #[] 0)}
 dsimp only;have sz:vs.toArray.size < 2:=by simpa using h2
 rw [if_pos sz,if_pos sz];refine zA (zC ?_);rw [StateT.run_pure];refine zA (zC ?_);dsimp only;have out:(arrOf (SortSt.mk' general' (vs.toArray.zip vs.toArray) #[] 7 none)).map (·.2)=vs.toArray:=by
  show (vs.toArray.zip vs.toArray).map (·.2)=vs.toArray;have e:(vs.toArray.zip vs.toArray)=(vs.zip vs).toArray:=by simp
  rw [e,List.map_toArray];congr 1;exact List.map_snd_zip (zE _)
 rw [out];refine zA (seqEpoch_at k2 rfl (zA (listUpdate_at k2 rfl ?_ (hsz2:=by rw [jT];walk_at "o"))))
 simp only [bne_self_eq_false,qX,jW];obtain ⟨e2,k3⟩:∃e2,((((s.heap.update D (PySem.Obj.mapSeq fun _=> #[])).push (seqObj "tuple" vs.toArray 0)).push (seqObj "list" #[] 0)).update D (PySem.Obj.mapSeq fun _=>vs.toArray)).get? D=some (seqObj "list" vs.toArray e2):=⟨_,get?_update_seq k2 (fun _=>vs.toArray)⟩;refine zC ⟨_,rfl,q _ e2 (fun b o hb e=>?_) k3⟩;rw [yQ _ _ _ _ hb];refine zF _ (zF _ ?_);rw [yQ _ _ _ _ hb];exact e
end
abbrev kleB (a b:List Int):Bool:=!HT.lexLt b a
def sortK (ks:List (List Int)):List (List Int):=ks.mergeSort kleB
theorem m5 (ks:List (List Int)):(sortK ks).Perm ks:=List.mergeSort_perm ks _
theorem Z2 (ks:List (List Int)):(sortK ks).Pairwise fun a b=>HT.lexLt b a=false:=by
 have:=List.pairwise_mergeSort (le:=kleB) (fun a b c h1 h2=>by
  simp only [kleB,Bool.not_eq_true'] at *;exact KeyOrd.kle_trans (O:=lexO) h1 h2) (fun a b=>by
  simp only [kleB,Bool.or_eq_true,Bool.not_eq_true'];cases q:HT.lexLt b a with
  | false=>exact .inl rfl
  | true=>exact .inr (KeyOrd.klt_asymm (O:=lexO) q)) ks
 exact this.imp fun h=>by simpa [kleB] using h
theorem a25:∀{l1 l2:List (List Int)},l1.Perm l2->(l1.Pairwise fun a b=>HT.lexLt b a=false)->(l2.Pairwise fun a b=>HT.lexLt b a=false)->l1=l2
 | [],l2,h,_,_=>(List.nil_perm.mp h).symm
 | a :: l1,[],h,_,_=>by have:=h.length_eq;simp at this
 | a :: l1,b :: l2,h,h1,h2=>by
  have h1':=List.pairwise_cons.mp h1;have h2':=List.pairwise_cons.mp h2;have e:a=b:=by
   have ma:a∈b :: l2:=h.mem_iff.mp zH;have mb:b∈a :: l1:=h.mem_iff.mpr zH;rcases zS.mp ma with z | z
   ·exact z
   ·rcases zS.mp mb with y | y
    ·exact y.symm
    ·exact a4i a b (h2'.1 a z) (h1'.1 b y)
  subst e;rw [a25 ((List.perm_cons a).mp h) h1'.2 h2'.2]
inductive Al (K:PySem.W.Frag) (H:Hp):List Addr->List (List Int)->Prop where
 | nil:Al K H [] []
 | cons {a:Addr} {k:List Int} {as:List Addr} {ks:List (List Int)} (q:SqT K H a (k.map V.int)) (r:Al K H as ks):Al K H (a :: as) (k :: ks)
section
variable {K:PySem.W.Frag}{H:Hp}
theorem Al.len {as:List Addr}{ks:List (List Int)}(h:Al K H as ks):as.length=ks.length:=by
 induction h with
 | nil=>rfl
 | cons _ _ ih=>simp [ih]
theorem Al.at {as:List Addr}{ks:List (List Int)}(h:Al K H as ks):∀{i:Nat},i < as.length->SqT K H (as.getD i 0) ((ks.getD i []).map V.int):=by
 induction h with
 | nil=>intro i hi;simp at hi
 | cons q r ih=>
  intro i hi;cases i with
  | zero=>exact q
  | succ i=>exact ih (i:=i) (by simpa using hi)
theorem Al.pick {as:List Addr}{ks:List (List Int)}(h:Al K H as ks):∀{l:List Nat},(∀i∈l,i < as.length)->Al K H (l.map fun i=>as.getD i 0) (l.map fun i=>ks.getD i [])
 | [],_=>.nil
 | i :: l,hl=>.cons (h.at (hl i zH)) (h.pick fun j hj=>hl j (zI _ hj))
theorem Al.den {O:Av}{as:List Addr}{ks:List (List Int)}(h:Al K H as ks):DenL K O H (ks.map tupI) (as.map V.ref):=by
 induction h with
 | nil=>exact i0
 | cons q r ih=>
  refine g9 ?_ ih;unfold tupI;rw [Den];exact ⟨_,_,rfl,q,F4 _⟩
end
theorem a2o {K:PySem.W.Frag}{O:Av}{H:Hp}:∀{ds:List D} {ks:List (List Int)} {vs:List V},tupsOf ds=some ks->DenL K O H ds vs->∃as,vs=as.map V.ref/\Al K H as ks
 | [],ks,vs,e,l=>by rw [DenL] at l;subst l;cases e;exact ⟨[],rfl,.nil⟩
 | d :: ds,ks,vs,e,l=>by
  rw [DenL] at l;obtain ⟨v,r,rfl,h,l⟩:=l;cases d <;> simp only [tupsOf] at e <;> try cases e
  rename_i xs;cases e1:intsOf xs with
  | none=>rw [e1] at e;cases e
  | some k=>
   rw [e1] at e;simp only [bind_some] at e;cases e2:tupsOf ds with
   | none=>rw [e2] at e;cases e
   | some ks'=>
    rw [e2] at e;cases e;obtain ⟨as,rfl,a⟩:=a2o e2 l;rw [z8 e1,Den] at h;obtain ⟨p,us,rfl,q,lu⟩:=h;rw [q9 lu] at q;exact ⟨p :: as,rfl,.cons q a⟩
section
variable {X:Cx}{pins:List (Addr×PySem.Obj)}{σ:L2.St}{H:Hp}{s:Shared}
theorem Al.tups {as:List Addr}{ks:List (List Int)}(I:Inv X pins σ H s)(h:Al X.K H as ks)(ne:∀k∈ks,k≠[]):Tups s.heap (as.map Value.ref) ks:=by
 induction h with
 | nil=>exact .nil
 | cons q r ih=>
  obtain ⟨its,r1,p1,_⟩:=I.tuple q;exact .cons p1 (O3 r1) (ne _ zH) (ih fun k hk=>ne k (zI _ hk))
theorem a0H:∀as:List Addr,Vals (as.map V.ref) (as.map Value.ref)
 | []=>.nil
 | a :: as=>.cons rfl (a0H as)
theorem a0a:∀{as:List Addr} {us:List Value},Vals (as.map V.ref) us->us=as.map Value.ref
 | [],us,r=>by cases r;rfl
 | a :: as,us,r=>by
  cases r with
  | cons h t=>cases h;rw [a0a t];rfl
theorem a3h {A:Around}{E:Value->Shared->Prop}{as:List Addr}{ks:List (List Int)}{Q:VK}(I:Inv X pins σ H s)(a:Al X.K H as ks)(ne:∀k∈ks,k≠[])(h64:ks.length < 64)
  (q:∀l bs,H l=none->Al X.K H bs (sortK ks)->Q (.ref l) (upd H l (.lst (bs.map V.ref)))):
  wpAny (model X.prog X.w) A (call (.builtin "list.sort") [.ref s.heap.objs.size]) (fun _ s'=>EP X pins σ Q (.ref s.heap.objs.size) s') E {s with heap:=s.heap.push (PySem.W.listOf (as.map Value.ref).toArray 0)}:=by
 have I2:Inv X pins σ H {s with heap:=s.heap.push (PySem.W.listOf (as.map Value.ref).toArray 0)}:=I.kept (t':=s.toks) fun b o e=>zF _ e
 obtain ⟨m,F⟩:=I2.fr;have T:=a.tups I2 ne;have fr:H s.heap.objs.size=none:=I.hok.fresh (zE _);have hD:(s.heap.push (PySem.W.listOf (as.map Value.ref).toArray 0)).get? s.heap.objs.size=some (PySem.W.listOf (as.map Value.ref).toArray 0):=qB _ rfl;have dL:s.heap.objs.size≠X.env.locals:=yP I.lt;have al:=a.len;have fin:∀(h':Heap) (p:List Nat) (ec:Nat),Fr X.base X.env.locals h' m->(∀b o,b≠X.env.locals->b≠s.heap.objs.size->(s.heap.push (PySem.W.listOf (as.map Value.ref).toArray 0)).get? b=some o->h'.get? b=some o)->
   h'.get? s.heap.objs.size=some (PySem.W.listOf (p.map fun i=>Value.ref (as.getD i 0)).toArray ec)->p.Perm (List.range ks.length)->((p.map fun i=>ks.getD i []).Pairwise fun a b=>HT.lexLt b a=false)->EP X pins σ Q (.ref s.heap.objs.size) {s with heap:=h'}:=fun h' p ec F' kp hD' pp ps=>by
  have lt:∀i∈p,i < as.length:=fun i hi=>by have:=pp.mem_iff.mp hi;rw [al];simpa using this
  have ek:(p.map fun i=>ks.getD i [])=sortK ks:=by
   refine a25 (((pp.map _).trans ?_).trans (m5 ks).symm) ps (Z2 ks)
   have:(List.range ks.length).map (fun i=>ks.getD i [])=ks:=by
    apply xT;intro i
    by_cases hi:i < ks.length
    ·rw [qA,xR hi];simp [hi]
    ·rw [jI (by simp;walk_at "o"),jI (by walk_at "o")]
   rw [this]
  have pk:=a.pick lt;rw [ek] at pk;have kept:∀b o,b≠X.env.locals->s.heap.get? b=some o->h'.get? b=some o:=fun b o hb e=>kp b o hb (zN (zV e)) (zF _ e);have nD:∀b o,s.heap.get? b=some o->b≠s.heap.objs.size:=fun b o e=>zN (zV e);have nH:∀b u,H b=some u->b≠s.heap.objs.size:=fun b u e=>m6 e fr;have nLH:∀b u,H b=some u->b≠X.env.locals:=fun b u e z=>by rw [z,I.free] at e;cases e
  refine ⟨.ref s.heap.objs.size,upd H s.heap.objs.size (.lst ((p.map fun i=>as.getD i 0).map V.ref)),?_,rfl,q _ _ fr pk⟩;refine I.step (g':=s.gens) (t':=s.toks) (d':=s.drawn) (ch:=[]) (fun _ z=>nomatch z) (fun b o hL _ _ e _=>kept b o hL e) (fun b o hL _ _ e _=>⟨o.slots,kept b o hL e⟩) (fun b o _ e n=>by rw [c7 (nD b o e)];exact n) (fun b o _ e=>?_)
   (fun b xs e=>by rw [c7 (nH _ _ e)];exact e) (fun b o u e=>by rw [c7 (nH _ _ e)];exact e) (fun b ps e=>⟨#[],by rw [c7 (nH _ _ e),e];simp⟩) (fun m' hm=>?_) (fun b u e=>?_) I.bare
  ·by_cases hL:b=X.env.locals
   ·obtain ⟨o',_,_,e',_⟩:=F'.ns;rw [hL];exact ⟨o',e'⟩
   ·exact ⟨o,kept b o hL e⟩
  ·have e1:m'=m:=by
    have z1:(s.heap.push (PySem.W.listOf (as.map Value.ref).toArray 0)).Ns X.env.locals m':=by
     obtain ⟨o,es,ep,e,r⟩:=hm;exact ⟨o,es,ep,zF _ e,r⟩
    rw [z1.eq_nsMap,F.ns.eq_nsMap]
   rw [e1];exact F'.ns
  ·by_cases hb:b=s.heap.objs.size
   ·subst hb;rw [m7] at e;cases e;refine ⟨?_,(p.map fun i=>as.getD i 0).map Value.ref,ec,a0H _,?_⟩
    ·rw [zD,zD,pp.length_eq,List.length_range,jT];walk_at "o"
    ·rw [hD'];simp [qG,Function.comp_def]
   ·rw [c7 hb] at e
    refine (I.hok b u e).stay (fun c v hc z=>kept c v (by
     rcases hc with w | w
     ·rw [w];exact nLH b u e
     ·exact nLH c _ w) z) (fun c z=>by rw [c7 (nH _ _ z)];exact z) fun c ys z=>by rw [c7 (nH _ _ z)];exact z
 have gr:∀p:List Nat,(∀i∈p,i < as.length)->(p.map fun i=>(as.map Value.ref).getD i .none)=p.map fun i=>Value.ref (as.getD i 0):=fun p hp=>jE fun i hi=>by simp [hp i hi]
 have tp:∀{vs:List Value} {ks:List (List Int)},Tups s.heap vs ks->∀a,Value.ref a∈vs->∃its,IsTup s.heap a its:=fun {vs ks} t=>by
  induction t with
  | nil=>intro a z;cases z
  | cons x i ne r ih=>
   intro a z;rcases zS.mp z with z | z
   ·cases z;exact ⟨_,x⟩
   ·exact ih a z
 have tp:=tp (a.tups I ne)
 by_cases h2:ks.length < 2
 ·refine a5Y hD (by rw [zD,al];exact h2) fun h' e kp hD'=>fin h' (List.range ks.length) e ⟨?_,fun b o eb=>kp b o (fun z=>?_) (F.keep b o eb),F.above⟩ (fun b o _ hb eb=>kp b o hb eb) ?_ (List.Perm.refl _) ?_
  ·obtain ⟨o,es,ep,e1,r⟩:=F.ns;exact ⟨o,es,ep,kp _ o (qO dL) e1,r⟩
  ·have:=I.bk b o eb
   exact absurd (zV this) (by rw [z];exact qS _)
  ·rw [hD',<-al];congr 3;apply xT;intro i
   by_cases hi:i < as.length
   ·rw [qA,qA,xR hi];simp [hi]
   ·rw [jI (by simp;walk_at "o"),jI (by simp;walk_at "o")]
  ·match ks,h2 with
   | [],_=>exact .nil
   | [k],_=>exact List.pairwise_singleton _ _
 ·refine a8v F hD dL ?_ T (fun z=>?_) (fun z=>?_) F.keep (by rw [zD,al];walk_at "o") (by rw [zD,al];walk_at "o") fun h' p e F' kp hD' hp hs=>?_
  ·cases q0:X.base.get? s.heap.objs.size with
   | none=>rfl
   | some o=>exact absurd (zV (I.bk _ o q0)) (qS _)
  ·obtain ⟨its,o,e1,_⟩:=tp _ z;exact absurd (zV e1) (qS _)
  ·obtain ⟨its,o,e1,_,n,d1⟩:=tp _ z;obtain ⟨m2,⟨o2,es,ep,e2,d2,_⟩,_⟩:=id I.loc;rw [e1] at e2;cases e2;rw [d1] at d2;cases d2
  ·have pp:p.toList.Perm (List.range ks.length):=by
    have:=Array.perm_iff_toList_perm.mp hp.perm
    rw [zD,al] at this;simpa using this
   have sz:p.size=ks.length:=by rw [hp.size,zD,al]
   refine fin h' p.toList e F' kp ?_ pp ?_
   ·rw [hD',gr p.toList fun i hi=>by have:=pp.mem_iff.mp hi;rw [al];simpa using this]
   ·rw [List.pairwise_iff_getElem];intro i j hi hj hij;have hj':j < p.size:=by simpa using hj
    have hi':i < p.size:=by simpa using hi
    have z:=hs i j (Nat.le_of_lt hij) (by rw [zD,al,<-sz];exact hj')
    simp only [getElem_map,Array.getElem_toList];unfold Ky at z;have g1:p.getD i 0=p[i]:=by simp [Array.getD,hi']
    have g2:p.getD j 0=p[j]:=by simp [Array.getD,hj']
    rw [g1,g2] at z;exact z
end
def SrcT (K:PySem.W.Frag) (H:Hp) (p:Addr) (ks:List (List Int)):Prop:=(∃as,SqL K H p (as.map V.ref)/\Al K H as ks)\/∃vs,H p=some (.dT ((ks.map fun k=>k.map Sum.inl).zip vs))/\ks.length=vs.length
theorem b4B (k:List Int):(k.map (Sum.inl:Int->Key)).map kV=k.map V.int:=by rw [qG];rfl
theorem b2X {K:PySem.W.Frag}{H:Hp}:∀{ks:List (List Int)} {vs:List V} {xs:List (List Key×Addr×Value)},ks.length=vs.length->KT H ((ks.map fun k=>k.map Sum.inl).zip vs) xs->Al K H (xs.map (·.2.1)) ks
 | [],vs,xs,hl,r=>by
  rw [map_nil,zip_nil_left] at r;cases r;exact .nil
 | k :: ks,[],xs,hl,r=>by simp at hl
 | k :: ks,v :: vs,xs,hl,r=>by
  rw [zK,jO] at r;cases r with
  | cons h t=>
   obtain ⟨h1,h2,_⟩:=h;rw [zK];refine .cons (.inl (.inl ?_)) (b2X (by simpa using hl) t)
   rw [h2,b4B]
section
variable {X:Cx}{e:Expr}{pos p:Pos}{fa:FA}
theorem a33 (hc:X.calm=true):CallR X (.builtin "sorted") (fun xs H Q=>∃p ks,xs=[.ref p]/\SrcT X.K H p ks/\ks.length < 64/\(∀k∈ks,k≠[])/\∀l bs,H l=none->Al X.K H bs (sortK ks)->Q (.ref l) (upd H l (.lst (bs.map V.ref)))):=by
 intro pins s σ H xs us Q I r h;obtain ⟨p,ks,rfl,src,h64,ne,q⟩:=h;obtain ⟨u,rfl,ru⟩:=vals1 r;cases ru;refine Calls.call_function_entry kind_sorted plain_sorted entry_sorted (args_sorted1 _) ?_;unfold Builtin.«sorted»;refine zA (m:=checkCount "sorted" 1 1 _) (zC ?_);rcases src with ⟨as,hq,al⟩ | ⟨vs,hq,hl⟩
 ·have len:=al.len;obtain ⟨its,rv,⟨o,m,h1,h2,_,h4⟩,hz⟩:=I.list hq;have ei:=a0a rv;subst ei;have hL:s.heap.IsList p (as.map Value.ref).toArray:=⟨o,h1,h2,m,h4⟩;have sz:(as.map Value.ref).length<=sizeLine:=by rw [zD,len,jT];walk_at "o"
  refine zA (collect_list hL ?_ sz);refine zA (wpAny_newList ?_ sz);have I1:Inv X pins σ H {s with heap:=(s.heap.push (seqObj "list" #[] 0)).update s.heap.objs.size (PySem.Obj.mapSeq (· ++ (as.map Value.ref).toArray))}:=I.kept (t':=s.toks) fun b o e=>by
   rw [yQ _ _ _ _ (zN (zV e))];exact zF _ e
  refine zA (jD (zG (a3h I1 al ne h64 q) (fun _ s' x=>?_) fun _ _ z=>z));exact zC ⟨_,rfl,x⟩
 ·obtain ⟨z,hs,xs,rel,o,es,ep,h1,h2,h3,h4,h5⟩:=(show ObjOk X.prog X.w H s.heap p (.dT ((ks.map fun k=>k.map Sum.inl).zip vs)) from I.hok p _ hq);have al:=b2X (K:=X.K) hl rel;have len:=al.len;have sz:es.size=ks.length:=by rw [<-len,zD,<-jB,h4,zD]
  have szl:es.size<=sizeLine:=by rw [sz,jT];walk_at "o"
  refine zA (PySem.W.kdu_collect (a6E (es:=es) (ep:=ep) hs) (show X.A.in1.handled=none from I.ok.hd hc) ⟨o,h1,h2,h3⟩ szl fun h' tk acc hk hacc=>?_);have ea:acc.toList=(xs.map (·.2.1)).map Value.ref:=by
   have e0:(xs.map (·.2.1)).map Value.ref=es.toList.map (·.key):=by rw [h4,qG,qG];rfl
   rw [e0];apply xT;intro i;rw [jS,qA,jS]
   by_cases hi:i < es.size
   ·have hi2:i < acc.size:=by rw [hacc.1];exact hi
    obtain ⟨e,he,hv⟩:=hacc.2 i acc[i] (by simp [hi2])
    rw [he,Array.getElem?_eq_getElem hi2,hv];rfl
   ·rw [xH (by rw [hacc.1];walk_at "o"),xH (by walk_at "o")];rfl
  rw [ea];refine zA (wpAny_newList ?_ (by rw [zD,len,<-sz];exact szl))
  have I1:Inv X pins σ H {s with heap:=h',toks:=tk}:=I.kept (t':=tk) hk
  refine zA (jD (zG (a3h I1 al ne h64 q) (fun _ s' x=>?_) fun _ _ z=>z));exact zC ⟨_,rfl,x⟩
def inlK:List Key->Option (List Int)
 | []=>some []
 | Sum.inl i :: k=>(inlK k).map fun j=>i :: j
 | Sum.inr _ :: _=>none
def inlKs:List (List Key)->Option (List (List Int))
 | []=>some []
 | k :: ks=>(inlK k).bind fun j=>(inlKs ks).map fun js=>j :: js
theorem a7D:∀{k:List Key} {j:List Int},inlK k=some j->k=j.map Sum.inl
 | [],j,e=>by cases e;rfl
 | Sum.inr _ :: _,j,e=>by cases e
 | Sum.inl i :: k,j,e=>by
  rw [inlK] at e;cases e1:inlK k with
  | none=>rw [e1] at e;cases e
  | some js=>rw [e1] at e;cases e;rw [zK,<-a7D e1]
theorem a4u:∀{ks:List (List Key)} {js:List (List Int)},inlKs ks=some js->ks=js.map fun k=>k.map Sum.inl
 | [],js,e=>by cases e;rfl
 | k :: ks,js,e=>by
  rw [inlKs] at e;cases e1:inlK k with
  | none=>rw [e1] at e;cases e
  | some j=>
   cases e2:inlKs ks with
   | none=>rw [e1,e2] at e;cases e
   | some js'=>rw [e1,e2] at e;cases e;rw [zK,<-a4u e2,<-a7D e1]
def keysOf:D->Option (List (List Int))
 | .dT ks _=>inlKs ks
 | .lst ds=>tupsOf ds
 | _=>none
def gSortT (d:D):Option W:=(keysOf d).bind fun ks=>if ks.length < 64/\(∀k∈ks,k≠[]) then some (.o (.lst ((sortK ks).map tupI))) else none
def gSort (d:D):Option W:=match gSortI d with
 | some w=>some w
 | none=>gSortT d
theorem a5N {K:PySem.W.Frag}{A:Av}{H:Hp}{d:D}{ks:List (List Int)}{v:V}(e:keysOf d=some ks)(h:DenR K A H d v):∃p,v= .ref p/\SrcT K H p ks:=by
 cases d with
 | dT js xs=>
  obtain ⟨a,vs,rfl,hq,hl,l⟩:=h;have ej:=a4u e;subst ej;exact ⟨a,rfl,.inr ⟨vs,hq,by rw [<-b6 l,<-hl,zD]⟩⟩
 | lst ds=>
  obtain ⟨a,vs,rfl,hq,l⟩:=h;obtain ⟨as,rfl,al⟩:=a2o e l;exact ⟨a,rfl,.inl ⟨as,hq,al⟩⟩
 | _=>cases e
theorem b0D:PrA X (k1 gSortT) (fun xs H Q=>∃p ks,xs=[.ref p]/\SrcT X.K H p ks/\ks.length < 64/\(∀k∈ks,k≠[])/\∀l bs,H l=none->Al X.K H bs (sortK ks)->Q (.ref l) (upd H l (.lst (bs.map V.ref)))):=pr1 fun A d w v H Q e h q=>by
 unfold gSortT at e;cases e1:keysOf d with
 | none=>rw [e1] at e;cases e
 | some ks=>
  rw [e1] at e;simp only [bind_some] at e;split at e
  ·rename_i hl;cases e;obtain ⟨a,rfl,src⟩:=a5N e1 h;exact ⟨a,ks,rfl,src,hl.1,hl.2,fun l bs hp al=>q _ _ (j6 hp _) (w8 hp al.den)⟩
  ·cases e
theorem b1T:PrA X (k1 gSort) (fun xs H Q=>(∃(p:Addr) (ns:List Int),xs=[.ref p]/\SqL X.K H p (ns.map V.int)/\ns.length < 64/\∀l,H l=none->Q (.ref l) (upd H l (.lst ((sortI ns).map V.int))))\/
  ∃p ks,xs=[.ref p]/\SrcT X.K H p ks/\ks.length < 64/\(∀k∈ks,k≠[])/\∀l bs,H l=none->Al X.K H bs (sortK ks)->Q (.ref l) (upd H l (.lst (bs.map V.ref)))):=fun A ds w vs H Q hA e l q=>by
 match ds,e,l with
 | [d],e,l=>
  have e:gSort d=some w:=e;unfold gSort at e;cases e1:gSortI d with
  | some w'=>rw [e1] at e;cases e;exact .inl (a8M A [d] w vs H Q hA e1 l q)
  | none=>rw [e1] at e;exact .inr (b0D A [d] w vs H Q hA e l q)
theorem a2y {k:Nat}(hr:Room k X.A)(hc:X.calm=true)(hm:X.mg "sorted"=none)(ha:QA X [e] fa)(hv:bootBuiltins "sorted"=some (.builtin "sorted"):=by rfl)(hg:Gl X "sorted":=by rfl)
  (he:starEach [e] X.env=(false,eval e X.env) :: starEach [] X.env:=by rfl):QX X (.Call (.Name "sorted" p) [e] [] pos) (fCall (k1 gSort) fa):=a4H (a31.or (a33 hc)) b1T hv hm ha hg (by decide) (by decide) he rfl
end
section
variable {prog:Program}{w:World}{A:Around}{R:Result->Shared->Prop}{s:Shared}
theorem a57 {kx vx tg iter:Expr}{ifs:List Expr}{scope:Scope}{pos:Pos}{it:Value}{D:Addr}{env:Env}(I:Nat->Shared->Prop)
  (turn:∀n s,I n s->wpAny (model prog w) A (pyNext it) (fun r s1=>match r with
   | none=>R (.ok .next) s1
   | some v=>wpAny (model prog w) A (letOwnedTupleGo tg it v) (fun _ s2=>wpAny (model prog w) A (assign tg env v) (fun _ s3=>
     wpAny (model prog w) A (forIn ifs true fun c r=>if r=true then do let ok <-isTrue c env (eval c env);pure (ForInStep.yield ok) else pure (ForInStep.yield r)) (fun ok s4=>
      if ok=true then wpAny (model prog w) A (eval kx env) (fun kv s5=>wpAny (model prog w) A (eval vx env) (fun vv s6=>wpAny (model prog w) A (dictSet D kv vv) (fun _ s7=>∃m,m < n/\I m s7) Fa s6) Fa s5) Fa s4
      else ∃m,m < n/\I m s4) Fa s3) Fa s2) Fa s1) Fa s)
  (n:Nat) (h:I n s):codeAny (model prog w) A (.compLoop (.DictComp kx vx [⟨tg,iter,ifs,0⟩] scope pos) 0 it (.ref D) env) R s:=by
 refine codeAny_loop rfl I (fun n s hI=>?_) n h;show wpAny _ A ((compTurn (.DictComp kx vx [⟨tg,iter,ifs,0⟩] scope pos) 0 it (.ref D) env).onRaise (fun x=>do noteFrame x env;theTreesLotGoes x)) _ _ s
 refine wpAny_noted ?_;rw [compTurn_dict];refine zA (jG (zA (zG (turn n s hI) (fun r s1 h1=>?_) fun _ _ z=>z.elim)));cases r with
 | none=>exact zC h1
 | some v=>
  refine zA (zG h1 (fun _ s2 h2=>zA (zG h2 (fun _ s3 h3=>zA (zG h3 (fun ok s4 h4=>?_) fun _ _ z=>z.elim)) fun _ _ z=>z.elim)) fun _ _ z=>z.elim);cases ok with
  | true=>
   rw [if_pos rfl] at h4 ⊢;exact zA (zA (zG h4 (fun kv s5 h5=>zA (jD (zG h5 (fun vv s6 h6=>zA (jG (jD (zG h6 (fun _ s7 h7=>zC ⟨rfl,h7⟩) fun _ _ z=>z.elim)))) fun _ _ z=>z.elim))) fun _ _ z=>z.elim))
  | false=>
   rw [if_neg zQ] at h4 ⊢
   first | exact zC ⟨rfl,h4⟩ | exact zA (zC (zC ⟨rfl,h4⟩))
end
section
variable {X:Cx}{pins:List (Addr×PySem.Obj)}{σ:L2.St}{H:Hp}{s:Shared}{a b:Addr}{v:V}{r:Value}{A:Around}{E:Value->Shared->Prop}
theorem a8d {kvs:List (List Key×V)}{k:List Key}{Q:Unit->Shared->Prop}(hu:A.units + 1 < cLine)(I:Inv X pins σ H s)(e:H a=some (.dT kvs))(eb:H b=some (.tup (k.map kV)))(l:kvs.length < sizeLine)(rv:RelV v r)(h:∀s',Inv X pins σ (upd H a (.dT (putK kvs k v))) s'->Q () s'):
  wpAny (model X.prog X.w) A (dictSet a (.ref b) r) Q E s:=by
 obtain ⟨z,hd,xs,rel,dd⟩:=a7o I.hok e;have hz:xs.length<=sizeLine:=by rw [<-Paired.length rel];exact z
 have hl:(putK kvs k v).length<=sizeLine:=by have:=a5h kvs k v;walk_at "o"
 refine wpAny_dictSet_heap (hsz:=hz) (show A.units < cLine from Nat.lt_of_succ_lt hu) (a98 I.hok eb) dd fun h' dd' hs=>h _ ?_;obtain ⟨q,es,ep,hq,h2,h3,h4,_,h5⟩:=dd';refine b1K I (by rw [e];exact True.intro) hs ⟨q,hq⟩ ⟨hl,hd,_,(rel.put k eb rv).keeps fun c ys ec=>?_,q,es,ep,hq,h2,h3,h4,h5⟩
 rw [c7 (ne_of ec e (fun z=>nomatch z))];exact ec
end
def putTo (k j:Nat) (p:List W×Ev):Option Ev:=(takeAll p.2 p.1).bind fun q=>(dkeys q.1).bind fun kk=>match q.2[j]? with
 | some (some (.v d))=>match ownAt q.2 k with
  | some (.dT ks zs)=>if ks.length < lim/\q.1.length<=lim then some (setOwn q.2 k (.dT (putKs ks kk) (putX ks zs kk d))) else none
  | _=>none
 | _=>none
def turnCD (k:Nat) (gf:FG) (t:FT) (fa:FA) (j:Nat):D->Ev->Option Ev:=fun x ρ=>(gf x ρ).bind fun ρ1=>(t ρ1).bind fun p=>if p.1=true then (fa p.2).bind (putTo k j) else some p.2
def fDComp (fi:FI) (li:Option (Nat×Nat)) (js:List (Option Nat)) (gf:FG) (t:FT) (fa:FA) (j:Nat):FX:=fun ρ=>(fi ρ).bind fun p=>if liB li p.2=true then
  (loopC (turnCD js.length gf t fa j) p.1 (capE (li.map (·.2)) js p.2 ++ [some (.l (.dT [] []))])).bind fun ρe=>match ownAt ρe js.length with
   | some (.dT kz ys)=>backG li js ρe p.2 (.dT kz ys)
   | _=>none
 else none
section
variable {X:Cx}{pins:List (Addr×PySem.Obj)}{σ:L2.St}{H2:Hp}{s2:Shared}{scope:Scope}{cl:List (Str×Addr)}{N:List Str}{js:List (Option Nat)}{fp:List Addr}{it:Addr}{tn:Nat->Heap->Prop}{J:It}{vx tg iter:Expr}{es:List Expr}{kt:Nat}{kp0:Pos}{fa:FA}{j:Nat}{ifs:List Expr}{pos:Pos}{P:List (D×V)}{O:Av}{L:List (Option Nat×Addr)}{ρ ρe:Ev}{xs:List D}{gf:FG}{t:FT}{Qq:Value->Shared->Prop}{use:Option (Value->Sem Unit)}{li:Option (Nat×Nat)}
theorem a77 (hcalm:X.calm=true)(I2:Inv X pins σ H2 s2)(T:Turn X.prog X.w X.K tg J fp it tn)(st2:tn 0 s2.heap)(f2:∀y∈fp,FpOk X pins H2 y)(b:Blk X scope cl N js)(r:Rep X P O L ρ σ H2)(hl:LiOk li js ρ)(wk:Wks X.K P xs J)
  (hg:∀C,QG (blk X scope cl s2 H2 fp C (N ++ [accN])) tg gf) (ht:∀C,Tst (blk X scope cl s2 H2 fp C (N ++ [accN])) ifs t) (hu:X.A.units + 1 < cLine) (hka:∀C,QA (blk X scope cl s2 H2 fp C (N ++ [accN])) es fa) (hv:∀C,PE (blk X scope cl s2 H2 fp C (N ++ [accN])) vx (tVar j))
  (e:loopC (turnCD js.length gf t fa j) xs (capE (li.map (·.2)) js ρ ++ [some (.l (.dT [] []))])=some ρe)
  (fin:∀(Dd C:Addr) (σe:L2.St) (He:Hp) (s1:Shared),H2 Dd=none->s2.heap.objs.size<=C->Inv (blk X scope cl s2 H2 fp C (N ++ [accN])) [] σe He s1->Rep (blk X scope cl s2 H2 fp C (N ++ [accN])) P (fun b=>AvO O ρ σ b/\¬Capd ρ σ js b) ((some js.length,Dd) :: lentL li σ) ρe σe He->
   compPost (model X.prog X.w) X.A X.xe use Qq (.ref Dd) C (.ok .next) s1):
  wpAny (model X.prog X.w) X.A newDict (fun acc s3=>wpAny (model X.prog X.w) X.A (newFunctionEnv scope X.env.globals cl [] X.env.qual none .none (some X.env)) (fun cenv s4=>
   codeAny (model X.prog X.w) X.A (.compStart (.DictComp (.Tuple es kt kp0) vx [⟨tg,iter,ifs,0⟩] scope pos) 0 (.ref it) acc {cenv with scope:=relabel scope X.env}) (compPost (model X.prog X.w) X.A X.xe use Qq acc cenv.locals) s4) X.xe s3) X.xe s2:=
 a3c (new:=newDict) (ob0:={cls:=.type "dict",dict:=none,data:=.dict #[]}) (o0:=.dT []) (d0:=.dT [] []) (stp:=fun ρ=>(fa ρ).bind (putTo js.length j)) (el:=fun env a s K=>wpAny (model X.prog X.w) X.A (eval (.Tuple es kt kp0) env) (fun kv s5=>wpAny (model X.prog X.w) X.A (eval vx env) (fun vv s6=>wpAny (model X.prog X.w) X.A (dictSet a kv vv) (fun _ s7=>K s7) Fa s6) Fa s5) Fa s)
  (fun h=>qH h) (fun _ _ _ e=>⟨[],e,rfl,i0⟩) (I2.hok.laid (fun y o e=>zF _ e) (zE _) (a8V s2.heap I2.big)) (fun I t n h=>a57 I t n h) codeAny_compStart_dict
  (fun {C Dd qs σ6 H7 s7 O' L' ρ2 ρt K} hL I7 rp7 e1 back=>by
   obtain ⟨⟨ws0,ρ3⟩,e4,e1⟩:=obs e1;simp only [putTo] at e1;obtain ⟨⟨ds,ρ4⟩,e5,e1⟩:=obs e1;dsimp only at e1;cases e6:dkeys ds with
   | none=>rw [e6] at e1;cases e1
   | some kk=>
    rw [e6] at e1;simp only [bind_some] at e1;split at e1
    ·rename_i d e7;split at e1
     ·rename_i kz zs e8;split at e1
      ·rename_i hl;cases e1;refine zG (b0G (hka C).to _ s7 σ6 H7 (fun v H9=>∃p H8,v= .ref p/\Rep (blk X scope cl s2 H2 fp C (N ++ [accN])) P O' L' ρ4 σ6 H8/\H8 p=none/\H9=upd H8 p (.tup (kk.map kV))) I7 ⟨P,O',L',ρ2,ws0,ρ3,rp7,e4,fun us H8 r8 l8=>?_⟩) (fun u8 s8 ⟨v8,H9,I9,r9,p,H8,ev8,rp8,hp8,eh9⟩=>?_) fun _ _ z=>z
       ·obtain ⟨r9,l9,_⟩:=k8 r8 e5 l8;refine ⟨?_,fun p hp=>⟨p,H8,rfl,r9,hp,by rw [a0N e6 l9]⟩⟩
        rw [<-b6 l9];exact zY hl.2 t3
       ·subst ev8 eh9;cases (show u8=Value.ref p from r9);have rp9:=rp8.grow (j6 hp8 (.tup (kk.map kV)));obtain ⟨v10,sv,dv⟩:=rp9.slot j _ e7;refine zG (hv C _ s8 σ6 _ (fun v H10=>v=v10/\H10=upd H8 p (.tup (kk.map kV))) I9 ⟨v10,sv,rfl,rfl⟩) (fun u10 s10 ⟨v11,H10,I10,r10,ev11,eh10⟩=>?_) fun _ _ z=>z;subst ev11 eh10;obtain ⟨d0,q1,q2⟩:=rp9.lnd js.length Dd hL;have e8':=e8;unfold ownAt at e8';rw [q1] at e8';cases e8';obtain ⟨a,h1,vs,h4,hkl,lz⟩:=rp9.obj q1 rfl;rw [q2] at h1;cases h1;have hlv:kz.length=vs.length:=by rw [hkl,b6 lz]
        have kl:(kz.zip vs).length < sizeLine:=by
         rw [List.length_zip,hlv,Nat.min_self,<-hlv];exact zB hl.1 t3
        refine a8d (X:=(blk X scope cl s2 H2 fp C (N ++ [accN]))) (A:=X.A) hu I10 h4 (k:=kk) (b:=p) m7 kl r10 fun s11 I11=>?_;rw [b2h hlv] at I11;have g0:∀u,Go (AvO O' ρ4 σ6) (AvO O' ρ4 σ6) (fun b=>b=Dd) (upd H8 p (.tup (kk.map kV))) (upd (upd H8 p (.tup (kk.map kV))) Dd u):=fun u=>⟨fun b o eb nb=>by rw [c7 nb];exact eb,fun b z=>by rw [z];exact ⟨.inr ⟨js.length,_,_,q1,rfl,q2⟩,_,h4,trivial⟩,fun b z=>.inl z⟩
        exact back I11 (rp9.mut (d:=.dT (putKs kz kk) (putX kz zs kk d)) e8 q2 (fun b o eb nb=>by rw [c7 nb];exact eb) ⟨_,m7,a4P hkl,t5 (g0 _) _ _ (b0u lz dv)⟩)
      ·cases e1
     ·cases e1
    ·cases e1) hcalm I2 T st2 f2 b r hl wk.b hg ht e fin
end
section
variable {X:Cx}{pins:List (Addr×PySem.Obj)}{σ σe:L2.St}{H2 He:Hp}{s2:Shared}{scope:Scope}{cl:List (Str×Addr)}{N:List Str}{js:List (Option Nat)}{fp:List Addr}{Dd C:Addr}{vx tg iter:Expr}{es:List Expr}{kt:Nat}{kp0:Pos}{fa:FA}{j:Nat}{kz:List (List Key)}{ifs:List Expr}{pos:Pos}{P:List (D×V)}{O:Av}{L:List (Option Nat×Addr)}{ρ ρe:Ev}{w:W}{ys:List D}{fi:FI}{gf:FG}{t:FT}{li:Option (Nat×Nat)}
theorem a7Z {Q:VK}{Qq:Value->Shared->Prop}{use:Option (Value->Sem Unit)}{H:Hp}{s:Shared}{newPos:Pos}(hc:X.calm=true)(b:Blk X scope cl N js)(hj:liJ li js=true)(hi:QI X tg iter fi)
  (hg:∀s2 H2 fp C,QG (blk X scope cl s2 H2 fp C (N ++ [accN])) tg gf) (ht:∀s2 H2 fp C,Tst (blk X scope cl s2 H2 fp C (N ++ [accN])) ifs t) (hu:X.A.units + 1 < cLine) (hka:∀s2 H2 fp C,QA (blk X scope cl s2 H2 fp C (N ++ [accN])) es fa) (hv:∀s2 H2 fp C,PE (blk X scope cl s2 H2 fp C (N ++ [accN])) vx (tVar j)) (hs:∀x,foldedSetIterable iter X.env x=pure x)
  (I:Inv X pins σ H s) (h:tX X (fDComp fi li js gf t fa j) σ H Q)
  (fin:∀(C:Addr) (v:V) (He:Hp) (s1:Shared),Q v He->(∀h9:Heap,(∀y,y≠C->h9.get? y=s1.heap.get? y)->Inv X pins σ He {s1 with heap:=h9})->FpOk X pins He C->(∃m,s1.heap.Ns C m)->∀vv,RelV v vv->compPost (model X.prog X.w) X.A X.xe use Qq vv C (.ok .next) s1):
  wpAny (model X.prog X.w) X.A (comprehension (.DictComp (.Tuple es kt kp0) vx [⟨tg,iter,ifs,0⟩] scope pos) scope X.env newPos newDict false (eval iter X.env) use) Qq X.xe s:=by
 obtain ⟨P,O,L,ρ,w,ρ',r,e,q⟩:=h;unfold fDComp at e;obtain ⟨⟨xs,ρ1⟩,e1,e⟩:=obs e;dsimp only at e;split at e
 ·rename_i hb;cases e2:loopC (turnCD js.length gf t fa j) xs (capE (li.map (·.2)) js ρ1 ++ [some (.l (.dT [] []))]) with
  | none=>rw [e2] at e;cases e
  | some ρe=>
   rw [e2] at e;simp only [bind_some] at e;split at e
   ·rename_i kz ys ey;have hl:=b0b hj hb;refine xV rfl hs b.clos b.kind b.nms ?_;refine zG (hi.to pins s σ H _ I ⟨P,O,L,ρ,xs,ρ1,r,e1,fun J H1 P' r1 hh wk=>(⟨P',r1,hh,wk⟩:∃P',Rep X P' O L ρ1 σ H1/\Holds P' P/\Wks X.K P' xs J)⟩) (fun v s1 h1=>zG h1 (fun itv s2 h2=>?_) fun _ _ z=>z) fun _ _ z=>z;obtain ⟨it,fp,tn,J,H2,rfl,I2,T,st2,f2,P',r1,hh,wk⟩:=h2;refine a77 hc I2 T st2 f2 b r1 hl wk (hg s2 H2 fp) (ht s2 H2 fp) hu (hka s2 H2 fp) (hv s2 H2 fp) e2 fun Dd C σe He s3 hn leC I1 rp=>?_;obtain ⟨Hx,rx,sx,dx⟩:=a1p r1 hl hn rp ey e;obtain ⟨m,hm,_⟩:=id I1.loc;refine fin C (.ref Dd) He s3 (q _ Hx He (rx.holds hh) sx dx) (fun h9 k9=>a2f I2 f2 leC I1 k9) ?_ ⟨m,hm⟩ (.ref Dd) rfl;exact I2.fpOk leC I1.free
   ·cases e
 ·cases e
theorem a84 {k:Nat}(j:Nat){x:Str}{px:Pos}(hr:Room k X.A)(hc:X.calm=true)(b:Blk X scope cl N js)(hi:QI X tg iter fi)(hg:∀s2 H2 fp C,QG (blk X scope cl s2 H2 fp C (N ++ [accN])) tg gf)(ht:∀s2 H2 fp C,Tst (blk X scope cl s2 H2 fp C (N ++ [accN])) ifs t)(hka:∀s2 H2 fp C,QA (blk X scope cl s2 H2 fp C (N ++ [accN])) es fa)
  (hv:∀s2 H2 fp C,PE (blk X scope cl s2 H2 fp C (N ++ [accN])) (.Name x px) (tVar j)) (hj:liJ li js=true:=by rfl) (hs:∀x,foldedSetIterable iter X.env x=pure x:=by intro _;rfl):QX X (.DictComp (.Tuple es kt kp0) (.Name x px) [⟨tg,iter,ifs,0⟩] scope pos) (fDComp fi li js gf t fa j):=⟨fun pins s σ H Q I h=>by
 rw [arm_eval_DictComp];refine a7Z (use:=none) hc b hj hi hg ht (a6K hr) hka hv hs I h fun C v He s1 hq back fp ⟨m,hm⟩ vv rv=>?_
 exact ⟨m,hm,fun h9 k9=>⟨v,He,back h9 fun y ny=>k9.2 y ny,rv,hq⟩⟩⟩
end
section
variable {X:Cx}{a b e o:Expr}{pos p:Pos}{f g h:FX}{t u:FT}{x:Str}
theorem a6n:OpR X (binaryOp .Mult) (fun x y H Q=>∃l k xs,x= .ref l/\y= .int k/\SqL X.K H l xs/\-(2 ^ 63)<=k/\k < 2 ^ 63/\xs.length * k.toNat<=sizeLine/\∀p,H p=none->Q (.ref p) (upd H p (.lst (List.replicate k.toNat xs).flatten))):=by
 intro pins s σ H x y v u Q I rx ry h;obtain ⟨l,k,xs,rfl,rfl,hH,h1,h2,hz,q⟩:=h;cases rx;obtain ⟨t,rfl⟩:=ry;obtain ⟨its,r,⟨⟨c1,d1,e1,s1⟩,n,e,k1,_,w1⟩,_⟩:=I.list hH;simp only at k1 w1;subst k1 w1;have hl:=r.length;have hlen:its.toArray.size * k.toNat<=sizeLine:=by rw [zR,<-hl];exact hz
 have hcap:¬its.toArray.size * k.toNat > (2 ^ 63 - 1) / 8:=by
  have:(sizeLine:Nat)<=(2 ^ 63 - 1) / 8:=by decide
  walk_at "o"
 have hfit:¬(!Builtin.List.listFitsIndex k)=true:=by rw [fitsIndex_both h1 h2];exact zQ
 have hlong:¬Builtin.List.listTooLong (its.toArray.size * k.toNat)=true:=by rw [notLongL hlen];exact zQ
 have hnew:List.foldl (fun x1 x2=>x1 ++ x2) #[] (List.replicate (if its.toArray.isEmpty=true then 0 else k.toNat) its.toArray)=(List.replicate k.toNat its).flatten.toArray:=by
  have f0:∀m:Nat,List.foldl (fun x1 x2=>x1 ++ x2) #[] (List.replicate m its.toArray)=(List.replicate m its).flatten.toArray:=fun m=>by
   have:=a2I its m []
   rw [nil_append] at this;exact this
  rw [f0];cases its with
  | nil=>simp
  | cons a r'=>rw [if_neg (by simp)]
 refine wpAny_binaryOp_repeat_ref (T:="list") (U:="int") (by decide) ⟨_,e,rfl⟩ (fun s'=>typeIs_int s' k t) noFill_list_mul F.fills_int_mul F.slot_int_rmul repeat_list F.slot_int_index.lookup
  (call_meets F.slot_int_rmul (typeIs_int s k t) F.entry_int_rmul (F.args_int_rmul_2 _ _) (lm_int_rmul_list_any k t l its.toArray n d1 s1)
   ⟨e,rfl,⟨_,e,rfl⟩,call_meets F.slot_list_mul ⟨_,e,rfl⟩ F.entry_list_mul (F.args_list_mul_2 _ _) (lm_list_mul_any l its.toArray n d1 s1 k t hfit hcap hlong) ⟨e,?_⟩⟩)
 rw [hnew];exact ⟨.ref _,_,I.lnew (t':=s.toks) (r.rep k.toNat) (by rw [b18,Nat.mul_comm];exact hz),rfl,q _ I.fresh⟩
def oRep (x y:D):Option W:=match x,y with
 | .lst xs,.int k=>if (-(2 ^ 63)<=k/\k < 2 ^ 63)/\xs.length * k.toNat<=lim then some (.o (.lst (List.replicate k.toNat xs).flatten)) else none
 | _,_=>none
theorem a1R {K:PySem.W.Frag}{A:Av}{H:Hp}{xs:List D}{vs:List V}(l:DenL K A H xs vs):∀n:Nat,DenL K A H (List.replicate n xs).flatten (List.replicate n vs).flatten
 | 0=>by simp;exact i0
 | n + 1=>by rw [xQ,xQ,xJ,xJ];exact l7 l (a1R l n)
theorem b4o (ha:QX X a f)(hb:QX X b g):QX X (.BinOp a .Mult b pos) (fBin oRep f g):=V0 a6n (by
 intro A x y w v u H Q _ e hx hy q;unfold oRep at e;split at e
 ·rename_i xs k;split at e
  ·rename_i hk;cases e;obtain ⟨a,vs,rfl,hq,l⟩:=hx;exact ⟨a,k,vs,rfl,j4 hy,hq,hk.1.1,hk.1.2,by rw [<-b6 l];exact zY hk.2 t3,fun p hp=>q _ _ (j6 hp _) (w8 hp (a1R l _))⟩
  ·cases e
 ·cases e) ha hb
def GlT (mg:Str->Option Value) (K:PySem.W.Frag) (x:Str) (ns:List Int):Prop:=∃a,mg x=some (.ref a)/\SqT K Emp a (ns.map V.int)
theorem a19 {ns:List Int}(hm:GlT X.mg X.K x ns)(hg:Gl X x:=by rfl)(hd:(x == ("__debug__":Str))=false:=by decide):QX X (.Name x pos) (fC (.tup (ns.map D.int))):=by
 obtain ⟨a,hm,hq⟩:=hm;refine ⟨PE.weak (b1C (v:=.ref a) hg hm rfl hd) (a6T fun A H=>?_)⟩;rw [Den];refine ⟨a,_,rfl,?_,F4 ns⟩;rcases hq with (q | ⟨o,q⟩) | q
 ·cases q
 ·cases q
 ·exact .inr q
def oBits:D->Option W
 | .int i=>some (.v (.int (Builtin.Int.intBits i:Nat)))
 | _=>none
def fDPutT (fd:FX) (fk:FA) (fv:FX):FS:=fun ρ=>(fv ρ).bind fun p=>(fd p.2).bind fun q=>match q.1 with
 | .r i=>(fk q.2).bind fun z=>(takeAll z.2 (p.1.fz :: z.1)).bind fun y=>match y.1 with
  | d :: ds=>(dkeys ds).bind fun k=>match ownAt y.2 i with
   | some (.dT ks xs)=>if ks.length < lim/\ds.length<=lim then some (.nx (setOwn y.2 i (.dT (putKs ks k) (putX ks xs k d)))) else none
   | _=>none
  | _=>none
 | _=>none
end
def kd1:Key->D
 | .inl i=>.int i
 | .inr x=>.str x
def keyD (k:List Key):D:=.tup (k.map kd1)
theorem b17 {K:PySem.W.Frag}{A:Av}{H:Hp}(k:Key):Den K A H (kd1 k) (kV k):=by
 cases k with
 | inl i=>exact u7.mpr rfl
 | inr x=>exact a37.mpr rfl
theorem a4R {K:PySem.W.Frag}{A:Av}{H:Hp}:∀ks:List Key,DenL K A H (ks.map kd1) (ks.map kV)
 | []=>i0
 | k :: ks=>by rw [zK,zK];exact g9 (b17 k) (a4R ks)
inductive KeysAt (H:Hp):List (List Key)->List Addr->Prop where
 | nil:KeysAt H [] []
 | cons {k:List Key} {ks:List (List Key)} {b:Addr} {bs:List Addr} (q:H b=some (.tup (k.map kV))) (r:KeysAt H ks bs):KeysAt H (k :: ks) (b :: bs)
theorem a3g {H:Hp}:∀{kvs:List (List Key×V)} {xs:List (List Key×Addr×Value)},KT H kvs xs->KeysAt H (kvs.map (·.1)) (xs.map (·.2.1))
 | _,_,.nil=>.nil
 | _,_,.cons h t=>.cons h.2.1 (a3g t)
theorem KeysAt.den {K:PySem.W.Frag}{A:Av}{H:Hp}:∀{ks:List (List Key)} {bs:List Addr},KeysAt H ks bs->DenL K A H (ks.map keyD) (bs.map V.ref)
 | _,_,.nil=>i0
 | _,_,.cons q r=>by
  rw [zK,zK];refine g9 ?_ r.den;unfold keyD;rw [Den];exact ⟨_,_,rfl,.inl (.inl q),a4R _⟩
section
variable {X:Cx}{a b e e' o:Expr}{es:List Expr}{pos p apos:Pos}{f g h:FX}{u:FT}{fa:FA}{x:Str}
theorem a5d (hc:X.calm=true):CallR X (.type "list") (fun vs H Q=>∃(p:Addr) (kvs:List (List Key×V)),vs=[.ref p]/\H p=some (.dT kvs)/\∀l bs,H l=none->KeysAt H (kvs.map (·.1)) bs->Q (.ref l) (upd H l (.lst (bs.map V.ref)))):=by
 intro pins s σ H vs us Q I r h;obtain ⟨p,kvs,rfl,hq,q⟩:=h;obtain ⟨u,rfl,ru⟩:=vals1 r;cases ru;obtain ⟨z,hs,xs,rel,o,es,ep,h1,h2,h3,h4,h5⟩:=(show ObjOk X.prog X.w H s.heap p (.dT kvs) from I.hok p _ hq);have len:kvs.length=xs.length:=Paired.length rel;have sz:es.size=xs.length:=by rw [<-jB,h4,zD]
 have szl:es.size<=sizeLine:=by rw [sz,<-len];exact z
 refine PySem.W.kdl_call (a6E (es:=es) (ep:=ep) hs) (I.ok.hd hc) ⟨o,h1,h2,h3⟩ szl fun h' tk acc c' hk hS hacc=>?_;have ea:acc.toList=(xs.map (·.2.1)).map Value.ref:=by
  have e0:(xs.map (·.2.1)).map Value.ref=es.toList.map (·.key):=by rw [h4,qG,qG];rfl
  rw [e0];apply xT;intro i;rw [jS,qA,jS]
  by_cases hi:i < es.size
  ·have hi2:i < acc.size:=by rw [hacc.1];exact hi
   obtain ⟨e,he,hv⟩:=hacc.2 i acc[i] (by simp [hi2])
   rw [he,Array.getElem?_eq_getElem hi2,hv];rfl
  ·rw [xH (by rw [hacc.1];walk_at "o"),xH (by walk_at "o")];rfl
 refine ⟨.ref s.heap.objs.size,_,I.laid (t':=tk) (o:=.lst ((xs.map (·.2.1)).map V.ref)) hk (zE _) ⟨?_,acc.toList,c',?_,by rw [Array.toArray_toList];exact hS⟩,rfl,q _ _ (I.hok.fresh (zE _)) (a3g rel)⟩
 ·rw [zD,zD,<-len];exact z
 ·rw [ea];exact a0H _
def gListD:D->Option W
 | .dT ks _=>some (.o (.lst (ks.map keyD)))
 | d=>gList d
theorem a6d {α:Type}:∀{ks:List α} {vs:List V},ks.length=vs.length->(ks.zip vs).map (·.1)=ks
 | [],_,_=>by simp
 | _ :: _,[],h=>by simp at h
 | k :: ks,v :: vs,h=>by rw [jO,zK,a6d (by simpa using h)]
theorem a8E:PrA X (k1 gListD) (fun xs H Q=>(∃p ys,xs=[.ref p]/\(SqL X.K H p ys\/SqT X.K H p ys)/\∀l,H l=none->Q (.ref l) (upd H l (.lst ys)))\/
  ∃(p:Addr) (kvs:List (List Key×V)),xs=[.ref p]/\H p=some (.dT kvs)/\∀l bs,H l=none->KeysAt H (kvs.map (·.1)) bs->Q (.ref l) (upd H l (.lst (bs.map V.ref)))):=fun A ds w vs H Q hA e l q=>by
 match ds,e,l with
 | [d],e,l=>
  have e:gListD d=some w:=e
  by_cases hd:∃ks xs,d= .dT ks xs
  ·obtain ⟨ks,xs,rfl⟩:=hd;cases e;obtain ⟨v,rfl,h⟩:=denRL1 l;obtain ⟨a,us,rfl,hq,hl,lu⟩:=h;refine .inr ⟨a,_,rfl,hq,fun l bs hp hk=>q _ _ (j6 hp _) (w8 hp ?_)⟩;rw [a6d (by rw [hl,b6 lu])] at hk
   exact hk.den
  ·have e':gList d=some w:=by
    cases d <;> first | exact e | exact absurd ⟨_,_,rfl⟩ hd
   exact .inl (b1b A [d] w vs H Q hA e' l q)
theorem a4Y (hc:X.calm=true)(hm:X.mg "list"=none)(ha:QA X (e :: es) fa)(hv:bootBuiltins "list"=some (.type "list"):=by rfl)(hg:Gl X "list":=by rfl)
  (he:starEach (e :: es) X.env=(false,eval e X.env) :: starEach es X.env:=by rfl) (hpl:(backTo pos (starEach es X.env)).any (·.1)=false:=by rfl):QX X (.Call (.Name "list" p) (e :: es) [] pos) (fCall (k1 gListD) fa):=a4G (a3m.or (a5d hc)) a8E hv hm ha hg (by decide) (by decide) he hpl
theorem a58 {id:String}{m:Str}{r:V->List V->Hp->VK->Prop}{op:List D->List D->Option (W×List D)}(hs0:Slot "list" m id)(ht0:typeOf (.builtin id)=pure (.type "method_descriptor"))(hm:MtR X id r)(hk:PrM X op r)(hw:∀xs ds w ys,op xs ds=some (w,ys)->∃d,w= .v d)
  (ho:QX X o f) (ha:QA X (e :: es) fa) (hbase:attributeBase o m X.env (eval o X.env)=eval o X.env)
  (hfew:((backTo pos (starEach (e :: es) X.env)).all (fun x=>!x.1) && (backToKw pos (keywordEach [] X.env)).all (fun x=>x.1.isSome) && decide ((e :: es).length + ([]:List Keyword).length + (if ([]:List Keyword).isEmpty then 0 else 1) < 30))=true)
  (hline:(apos.endLine == pos.line)=true) (hs:starEach (e :: es) X.env=(false,eval e X.env) :: starEach es X.env) (hpl:(backTo pos (starEach es X.env)).any (·.1)=false):QX X (.Call (.Attribute o m apos) (e :: es) [] pos) (fMut op f fa):=
 ⟨PE.weak (b0r PySem.F.plainAttrs_list hs0 ht0 hm ho.to ha.to hbase hfew hline hs hpl) (a4p hk hw)⟩
theorem a8f (T:String)(hT:T="list"\/T="tuple")(l b:Addr)(items items2:Array Value)(n n2:Nat)(dd:Option Addr)(sl:Array (Option Value))(h0:¬(!items.isEmpty && Builtin.List.listTooLong (items.size + items2.size))=true)(h1:items.size<=sizeLine)(h2:items.size + items2.size<=sizeLine + 1):
  Meets (Builtin.«list.extend» ⟨[.ref l,.ref b],[]⟩) (fun _ R s=>s.heap.get? l=some {cls:=.type "list",dict:=none,data:=.seq items n,slots:= #[]}/\s.heap.get? b=some {cls:=.type T,dict:=dd,data:=.seq items2 n2,slots:=sl}/\
   R (.ok (.ret Value.none)) {s with heap:=s.heap.update l (PySem.Obj.mapSeq fun x=>x ++ items2),toks:=s.toks}):=
 .of_wp fun prog w A R s hh=>by
  obtain ⟨hp,g,d,tk,os⟩:=s;obtain ⟨hl,hb,hr⟩:=hh;have f1:=PySem.AutoSeq1.idx_int;have f2:=PySem.AutoSeq1.sub_tuple_tuple;have f3:=PySem.AutoSeq1.sub_list_list;have f4:=PySem.AutoSeq1.sub_tuple_list;have f5:=PySem.AutoSeq1.sub_list_tuple;have hz:(items ++ items2).size<=sizeLine + 1:=by rw [Array.size_append];exact h2
  rcases hT with rfl | rfl
  ·wp_walk using (wpAny_updateSeq hl rfl (hz:=h1) (_hz':=hz)),xD hl,xD hb
   exact ⟨_,rfl,hr⟩
  ·wp_walk using (wpAny_updateSeq hl rfl (hz:=h1) (_hz':=hz)),xD hl,xD hb
   exact ⟨_,rfl,hr⟩
def rExt (K:PySem.W.Frag):V->List V->Hp->VK->Prop:=fun x vs H Q=>∃l b xs zs,x= .ref l/\vs=[.ref b]/\H l=some (.lst xs)/\(SqL K H b zs\/SqT K H b zs)/\xs.length + zs.length<=sizeLine/\Q .non (upd H l (.lst (xs ++ zs)))
theorem b37:MtR X "list.extend" (rExt X.K):=by
 intro pins s σ H x vs v us Q I rx rv ⟨l,b,xs,zs,ex,ev,hH,hB,hz,q⟩;subst ex ev;cases rx;obtain ⟨u,rfl,ru⟩:=rv.one;cases ru;obtain ⟨z,its,n,r,hl,el⟩:=I.lstM hH;have src:∃(T:String) (its2:List Value) (n2:Nat) (dd:Option Addr) (sl:Array (Option Value)),(T="list"\/T="tuple")/\Vals zs its2/\s.heap.get? b=some {cls:=.type T,dict:=dd,data:=.seq its2.toArray n2,slots:=sl}:=by
  rcases hB with hB | hB
  ·obtain ⟨its2,r2,⟨⟨oc,od,oda,osl⟩,n2,ho,hc,_,hd⟩,_⟩:=I.list hB;dsimp only at hc hd;subst hc hd;exact ⟨"list",its2,n2,od,osl,.inl rfl,r2,ho⟩
  ·obtain ⟨its2,r2,⟨⟨oc,od,oda,osl⟩,ho,hc,n2,hd⟩,_⟩:=I.tuple hB;dsimp only at hc hd;subst hc hd;exact ⟨"tuple",its2,n2,od,osl,.inr rfl,r2,ho⟩
 obtain ⟨T,its2,n2,od,osl,hT,r2,ho⟩:=src;have hl2:=r2.length;have hsz:its.toArray.size + its2.toArray.size<=sizeLine:=by rw [zR,zR];walk_at "o"
 refine call_meets F.slot_list_extend ⟨_,el,rfl⟩ F.entry_list_extend (F.args_list_extend_2 _ _) (a8f T hT l b its.toArray its2.toArray n n2 od osl (fun w=>?_) (by rw [zR];walk_at "o") (by walk_at "o")) ⟨el,ho,?_⟩
 ·rw [notLongL hsz,Bool.and_false] at w;cases w
 ·exact ⟨.non,_,I.lset (its':=its ++ its2) hH el (by simp) (r.append r2) (by rw [zT];walk_at "o"),rfl,q⟩
def mExt (xs ds:List D):Option (W×List D):=match ds with
 | [d]=>(items d).bind fun ys=>if xs.length + ys.length<=lim then some (.v .non,xs ++ ys) else none
 | _=>none
theorem b3D:PrM X mExt (rExt X.K):=fun A a xs ds w ys us vs H Q h l l' e q _=>by
 unfold mExt at e;split at e
 ·rename_i d;cases e1:items d with
  | none=>rw [e1] at e;cases e
  | some zs=>
   rw [e1] at e;simp only [bind_some] at e;split at e
   ·rename_i hl;cases e;obtain ⟨v,rfl,hv⟩:=denL1 l';obtain ⟨b,ws,rfl,hq,lz⟩:=F2 e1 (E7 hv);exact ⟨a,b,us,ws,rfl,rfl,h,hq,by rw [<-b6 l,<-b6 lz];exact zY hl t3,q _ _ (l7 l lz) F5⟩
   ·cases e
 ·cases e
theorem b3F:∀xs ds w ys,mExt xs ds=some (w,ys)->∃d,w= .v d:=fun xs ds w ys e=>by
 unfold mExt at e;split at e
 ·rename_i d;cases e1:items d with
  | none=>rw [e1] at e;cases e
  | some zs=>
   rw [e1] at e;simp only [bind_some] at e;split at e
   ·cases e;exact ⟨_,rfl⟩
   ·cases e
 ·cases e
theorem a7N (ho:QX X o f)(ha:QA X (e :: es) fa)(hbase:attributeBase o "extend" X.env (eval o X.env)=eval o X.env:=by rfl)
  (hfew:((backTo pos (starEach (e :: es) X.env)).all (fun x=>!x.1) && (backToKw pos (keywordEach [] X.env)).all (fun x=>x.1.isSome) && decide ((e :: es).length + ([]:List Keyword).length + (if ([]:List Keyword).isEmpty then 0 else 1) < 30))=true:=by rfl)
  (hline:(apos.endLine == pos.line)=true:=by rfl) (hs:starEach (e :: es) X.env=(false,eval e X.env) :: starEach es X.env:=by rfl) (hpl:(backTo pos (starEach es X.env)).any (·.1)=false:=by rfl):QX X (.Call (.Attribute o "extend" apos) (e :: es) [] pos) (fMut mExt f fa):=
 a58 PySem.F.slot_list_extend PySem.F.type_list_extend b37 b3D b3F ho ha hbase hfew hline hs hpl
theorem a1K {K:PySem.W.Frag}{A:Av}{H:Hp}:∀{ds:List D} {vs:List V} (n:Nat),DenL K A H ds vs->DenL K A H (ds.eraseIdx n) (vs.eraseIdx n)
 | [],_,n,h=>by rw [DenL] at h;subst h;exact i0
 | d :: ds,_,0,h=>by
  rw [DenL] at h;obtain ⟨v,r,rfl,_,l⟩:=h;exact l
 | d :: ds,_,n + 1,h=>by
  rw [DenL] at h;obtain ⟨v,r,rfl,hv,l⟩:=h;exact g9 hv (a1K n l)
def mPopAt (xs ds:List D):Option (W×List D):=match ds with
 | [.int i]=>if 0<=i/\i < 2 ^ 62 then (xs[i.toNat]?).map fun d=>(.v d,xs.eraseIdx i.toNat) else none
 | _=>none
theorem a9W:PrM X mPopAt rPopAt:=fun A a xs ds w ys us vs H Q h l l' e q _=>by
 unfold mPopAt at e;split at e
 ·rename_i i;split at e
  ·rename_i hi;obtain ⟨d,e1,e⟩:=oms e;cases e;obtain ⟨v,rfl,hv⟩:=denL1 l';obtain ⟨z,hz,dz⟩:=z6 l e1;have lt:=(zJ.mp e1).1;refine ⟨a,us,i,i.toNat,z,rfl,by rw [u7.mp hv],h,by walk_at "o",by walk_at "o",?_,hz,q _ _ (a1K _ l) dz⟩
   rw [seqIndex_of hi.1 (by rw [<-b6 l];walk_at "o")]
  ·cases e
 ·cases e
theorem a8B:∀xs ds w ys,mPopAt xs ds=some (w,ys)->∃d,w= .v d:=fun xs ds w ys e=>by
 unfold mPopAt at e;split at e
 ·rename_i i;split at e
  ·cases e1:xs[i.toNat]? with
   | none=>rw [e1] at e;cases e
   | some d=>rw [e1] at e;cases e;exact ⟨_,rfl⟩
  ·cases e
 ·cases e
theorem a9u (ho:QX X o f)(ha:QA X (e :: es) fa)(hbase:attributeBase o "pop" X.env (eval o X.env)=eval o X.env:=by rfl)
  (hfew:((backTo pos (starEach (e :: es) X.env)).all (fun x=>!x.1) && (backToKw pos (keywordEach [] X.env)).all (fun x=>x.1.isSome) && decide ((e :: es).length + ([]:List Keyword).length + (if ([]:List Keyword).isEmpty then 0 else 1) < 30))=true:=by rfl)
  (hline:(apos.endLine == pos.line)=true:=by rfl) (hs:starEach (e :: es) X.env=(false,eval e X.env) :: starEach es X.env:=by rfl) (hpl:(backTo pos (starEach es X.env)).any (·.1)=false:=by rfl):QX X (.Call (.Attribute o "pop" apos) (e :: es) [] pos) (fMut mPopAt f fa):=
 a58 PySem.F.slot_list_pop PySem.F.type_list_pop a9Y a9W a8B ho ha hbase hfew hline hs hpl
end
theorem b1r {X:Cx}(i:Nat){x:Str}{pos:Pos}(hN:X.N[i]? =some x:=by rfl)(hv:Vis X.env.scope x:=by first | exact Or.inl rfl | exact Or.inr (Or.inl rfl) | exact Or.inr (Or.inr rfl))(hd:(x == ("__debug__":Str))=false:=by decide)(hcd:(x == ("__classdict__":Str))=false:=by decide):PE X (.Name x pos) (tVar i):=a3s hN hv hd hcd
section
variable {f g h:FX}{t:FT}{fa:FA}{ρ ρ1:Ev}{w z:W}{ws:List W}{d e x y:D}{ds xs ys:List D}{i j k:Nat}{m n:Int}{b:Bool}{kl:List (List Key)}{kk:List Key}{kq:List Key}
theorem b0R:oIxG (.tup xs) d=oIx (.tup xs) d:=rfl
theorem a8T:oIxG (.lst xs) d=oIx (.lst xs) d:=rfl
theorem b1g {ns:List Int}(hi:intsOf xs=some ns):oInG b (.int n) (.tup xs)=some (nb b (decide (n∈ns))):=by
 unfold oInG;simp only [isDi,qX,jW,items,bind_some,hi,qZ]
theorem b1q {ns:List Int}{js:List (List Int)}(hx:intsOf ds=some ns)(hi:tupsOf xs=some js):oInG b (.tup ds) (.lst xs)=some (nb b (decide (ns∈js))):=by
 unfold oInG;simp only [isDi,qX,jW,hx,items,bind_some,hi,qZ]
theorem nb_f {k:Bool}:nb false k= .v (.bl k):=rfl
theorem nb_t {k:Bool}:nb true k= .v (.bl (!k)):=rfl
def ge2 (fa:FA):Option (W×Ev)->Option (W×Ev)
 | some p=>fGet (fun _=>some p) fa p.2
 | none=>none
def ge3 (fa:FA) (w:W) (ρ:Ev):Option D->Option (W×Ev)
 | some d=>if isDi d=true then (fa ρ).bind fun q=>(takeAll q.2 q.1).bind fun z=>(dr z.2 w.fz).bind fun x=>match z.1 with
  | [y,e]=>(lookG x y).map fun r=>(.v (r.getD e),z.2)
  | _=>none
  else none
 | none=>none
def ge4 (w:W):Option (List W×Ev)->Option (W×Ev)
 | some q=>(takeAll q.2 q.1).bind fun z=>(dr z.2 w.fz).bind fun x=>match z.1 with
  | [y,e]=>(lookG x y).map fun r=>(.v (r.getD e),z.2)
  | _=>none
 | none=>none
def ge5 (w:W):Option (List D×Ev)->Option (W×Ev)
 | some z=>(dr z.2 w.fz).bind fun x=>match z.1 with
  | [y,e]=>(lookG x y).map fun r=>(.v (r.getD e),z.2)
  | _=>none
 | none=>none
def ge6 (y e:D) (ρ:Ev):Option D->Option (W×Ev)
 | some x=>(lookG x y).map fun r=>(.v (r.getD e),ρ)
 | none=>none
theorem r_ge:fGet f fa ρ=ge2 fa (f ρ):=by unfold ge2;cases e:f ρ with
 | none=>unfold fGet;rw [e];rfl
 | some p=>unfold fGet;rw [e]
theorem b2E:ge2 fa (some (w,ρ))=ge3 fa w ρ (dr ρ w.fz):=by unfold ge2 ge3 fGet;dsimp only [bind_some];cases dr ρ w.fz <;> rfl
theorem a7s:ge3 fa w ρ (some (.dT kl xs))=ge4 w (fa ρ):=by unfold ge3 ge4;simp only [isDi,qQ];cases fa ρ <;> rfl
theorem r_ge3_K:ge3 fa w ρ (some (.dK kq xs))=ge4 w (fa ρ):=by unfold ge3 ge4;simp only [isDi,qQ];cases fa ρ <;> rfl
theorem b3A:ge4 w (some (ws,ρ))=ge5 w (takeAll ρ ws):=by unfold ge4 ge5;dsimp only;cases takeAll ρ ws <;> rfl
theorem b3g:ge5 w (some ([y,e],ρ))=ge6 y e ρ (dr ρ w.fz):=by unfold ge5 ge6;dsimp only;cases dr ρ w.fz <;> rfl
theorem a7m (hk:tkey y=some kk):ge6 y e ρ (some (.dT kl xs))=some (.v ((look kl xs kk).getD e),ρ):=by unfold ge6;simp only [lookG,hk,qZ]
theorem a1U:∀ns:List Int,dkeys (ns.map D.int)=some (ns.map Sum.inl)
 | []=>rfl
 | n :: ns=>by rw [zK,dkeys,a1U ns];rfl
theorem a66 (ns:List Int):tkey (tupI ns)=some (ns.map Sum.inl):=a1U ns
def dp2 (fd:FX) (fk:FA):Option (W×Ev)->Option R
 | some p=>fDPutT fd fk (fun _=>some p) p.2
 | none=>none
def dp3 (w:W) (fk:FA):Option (W×Ev)->Option R
 | some q=>match q.1 with
  | .r i=>(fk q.2).bind fun z=>(takeAll z.2 (w.fz :: z.1)).bind fun y=>match y.1 with
   | d :: ds=>(dkeys ds).bind fun k=>match ownAt y.2 i with
    | some (.dT ks xs)=>if ks.length < lim/\ds.length<=lim then some (.nx (setOwn y.2 i (.dT (putKs ks k) (putX ks xs k d)))) else none
    | _=>none
   | _=>none
  | _=>none
 | none=>none
def dp4 (w:W) (i:Nat):Option (List W×Ev)->Option R
 | some z=>(takeAll z.2 (w.fz :: z.1)).bind fun y=>match y.1 with
   | d :: ds=>(dkeys ds).bind fun k=>match ownAt y.2 i with
    | some (.dT ks xs)=>if ks.length < lim/\ds.length<=lim then some (.nx (setOwn y.2 i (.dT (putKs ks k) (putX ks xs k d)))) else none
    | _=>none
   | _=>none
 | none=>none
def dp5 (i:Nat):Option (List D×Ev)->Option R
 | some y=>match y.1 with
   | d :: ds=>(dkeys ds).bind fun k=>match ownAt y.2 i with
    | some (.dT ks xs)=>if ks.length < lim/\ds.length<=lim then some (.nx (setOwn y.2 i (.dT (putKs ks k) (putX ks xs k d)))) else none
    | _=>none
   | _=>none
 | none=>none
def dp6 (i:Nat) (d:D) (ds:List D) (ρ:Ev):Option (List Key)->Option D->Option R
 | some k,some (.dT ks xs)=>if ks.length < lim/\ds.length<=lim then some (.nx (setOwn ρ i (.dT (putKs ks k) (putX ks xs k d)))) else none
 | _,_=>none
theorem r_dp:fDPutT f fa g ρ=dp2 f fa (g ρ):=by unfold dp2;cases e:g ρ with
 | none=>unfold fDPutT;rw [e];rfl
 | some p=>unfold fDPutT;rw [e]
theorem r_dp2:dp2 f fa (some (w,ρ))=dp3 w fa (f ρ):=by unfold dp2 dp3 fDPutT;dsimp only [bind_some];cases f ρ <;> rfl
theorem r_dp3:dp3 w fa (some (.r i,ρ))=dp4 w i (fa ρ):=by unfold dp3 dp4;dsimp only;cases fa ρ <;> rfl
theorem r_dp4:dp4 w i (some (ws,ρ))=dp5 i (takeAll ρ (w.fz :: ws)):=by unfold dp4 dp5;dsimp only;cases takeAll ρ (w.fz :: ws) <;> rfl
theorem r_dp5:dp5 i (some (d :: ds,ρ))=dp6 i d ds ρ (dkeys ds) (ownAt ρ i):=by
 unfold dp5 dp6;dsimp only;cases dkeys ds with
 | none=>cases ownAt ρ i <;> rfl
 | some k=>
  dsimp only [bind_some];cases ownAt ρ i with
  | none=>rfl
  | some x=>cases x <;> rfl
theorem r_dp6:dp6 i d ds ρ (some kk) (some (.dT kl xs))=if kl.length < lim/\ds.length<=lim then some (.nx (setOwn ρ i (.dT (putKs kl kk) (putX kl xs kk d)))) else none:=rfl
theorem b2l:dkeys []=some []:=rfl
theorem b2S:dkeys (.int m :: ds)=(dkeys ds).map fun ks=>Sum.inl m :: ks:=by rw [dkeys];rfl
theorem r_dnT:fDNewT ρ=some (.o (.dT [] []),ρ):=rfl
theorem b1s (h:kk∉kl):putKs kl kk=kl ++ [kk]/\putX kl xs kk d=xs ++ [d]:=⟨if_neg h,if_neg h⟩
theorem b2H (h:(-(2 ^ 63)<=n/\n < 2 ^ 63)/\xs.length * n.toNat<=lim):oRep (.lst xs) (.int n)=some (.o (.lst (List.replicate n.toNat xs).flatten)):=if_pos h
theorem o_bits:oBits (.int n)=some (.v (.int (Builtin.Int.intBits n:Nat))):=by cases n <;> exact rfl
theorem b2U:mExt xs [d]=(items d).bind fun ys=>if xs.length + ys.length<=lim then some (.v .non,xs ++ ys) else none:=rfl
theorem b4E:gListD (.dT kl xs)=some (.o (.lst (kl.map keyD))):=rfl
theorem a2R:gListD (.lst xs)=some (.o (.lst xs)):=rfl
theorem a2W:gListD (.tup xs)=some (.o (.lst xs)):=rfl
theorem b15 {ks:List (List Int)}(hi:gSortI (.lst xs)=none)(ht:tupsOf xs=some ks)(h64:ks.length < 64)(ne:∀k∈ks,k≠[]):gSort (.lst xs)=some (.o (.lst ((sortK ks).map tupI))):=by
 unfold gSort gSortT;rw [hi];simp only [keysOf,ht,bind_some];exact if_pos ⟨h64,ne⟩
theorem a8s {k:List Int}{ks:List (List Int)}:gSortI (.lst ((k :: ks).map tupI))=none:=rfl
theorem a1b {ks:List (List Int)}(h64:ks.length < 64)(ne:∀k∈ks,k≠[]):gSort (.lst (ks.map tupI))=some (.o (.lst ((sortK ks).map tupI))):=by
 cases ks with
 | nil=>simp [gSort,gSortI,intsOf,sortI,sortK]
 | cons k ks=>exact b15 a8s (X8 _) h64 ne
theorem a13 {k:Nat}{gf:FG}(I:Ev->Prop)(hI:∀B,I B->B.length=k)(key:D->List Key)(val:D->D):∀(xs:List D),(∀x∈xs,∀B ks zs,I B->ks.length < lim->∃B',I B'/\turnCD k gf t fa j x (B ++ [some (.l (.dT ks zs))])=some (B' ++ [some (.l (.dT (putKs ks (key x)) (putX ks zs (key x) (val x))))]))->
  ∀(B:Ev) (ks:List (List Key)) (zs:List D),ks.length=zs.length->ks.length + xs.length<=lim->I B->(ks ++ xs.map key).Nodup->∃B',I B'/\loopC (turnCD k gf t fa j) xs (B ++ [some (.l (.dT ks zs))])=some (B' ++ [some (.l (.dT (ks ++ xs.map key) (zs ++ xs.map val)))])
 | [],st,B,ks,zs,hz,hl,i,nd=>⟨B,i,by simp [loopC]⟩
 | x :: xs,st,B,ks,zs,hz,hl,i,nd=>by
  rw [qI] at hl;obtain ⟨B1,i1,e1⟩:=st x zH B ks zs i (by walk_at "o")
  have nin:key x∉ks:=fun z=>by
   rw [zK] at nd;exact (nodup_append.mp nd).2.2 _ z _ zH rfl
  obtain ⟨p1,p2⟩:=b1s (xs:=zs) (d:=val x) nin;rw [p1,p2] at e1;obtain ⟨B2,i2,e2⟩:=a13 I hI key val xs (fun y hy=>st y (zI _ hy)) B1 (ks ++ [key x]) (zs ++ [val x]) (by simp [hz]) (by rw [zT,jQ];walk_at "o") i1 (by rw [jX];exact nd)
  exact ⟨B2,i2,by rw [loopC,e1];simp only [bind_some];rw [e2,jX,jX];rfl⟩
theorem a7G {fi:FI}{js:List (Option Nat)}{gf:FG}{ρ ρ1:Ev}(I:Ev->Prop)(key:D->List Key)(val:D->D)(ei:fi ρ=some (xs,ρ1))(hI:∀B,I B->B.length=js.length)(h0:I (capE none js ρ1))(hl:xs.length<=lim)(hf:lfL (xs.map val)=true)(nd:(xs.map key).Nodup)
  (st:∀x∈xs,∀B ks zs,I B->ks.length < lim->∃B',I B'/\turnCD js.length gf t fa j x (B ++ [some (.l (.dT ks zs))])=some (B' ++ [some (.l (.dT (putKs ks (key x)) (putX ks zs (key x) (val x))))])):
  fDComp fi none js gf t fa j ρ=some (.o (.dT (xs.map key) (xs.map val)),ρ1):=by
 obtain ⟨B',i',e⟩:=a13 I hI key val xs st (capE none js ρ1) [] [] rfl (by rw [jP];walk_at "o") h0 (by simpa using nd)
 unfold fDComp;rw [ei];simp only [bind_some,liB,qQ,Option.map_none];rw [e];have ha:ownAt (B' ++ [some (.l (.dT ([] ++ xs.map key) ([] ++ xs.map val)))]) js.length=some (.dT (xs.map key) (xs.map val)):=by
  unfold ownAt;rw [qJ (by rw [hI B' i'];exact zE _),hI B' i',xB];rfl
 simp only [bind_some,ha,backG,lfC,hf,qQ]
def td2 (k j:Nat) (t:FT) (fa:FA):Option Ev->Option Ev
 | some ρ1=>(t ρ1).bind fun p=>if p.1=true then (fa p.2).bind (putTo k j) else some p.2
 | none=>none
def td3 (k j:Nat) (fa:FA):Option (Bool×Ev)->Option Ev
 | some p=>if p.1=true then (fa p.2).bind (putTo k j) else some p.2
 | none=>none
def td4 (k j:Nat):Option (List W×Ev)->Option Ev
 | some p=>putTo k j p
 | none=>none
def pt2 (k j:Nat):Option (List D×Ev)->Option Ev
 | some q=>(dkeys q.1).bind fun kk=>match q.2[j]? with
  | some (some (.v d))=>match ownAt q.2 k with
   | some (.dT ks zs)=>if ks.length < lim/\q.1.length<=lim then some (setOwn q.2 k (.dT (putKs ks kk) (putX ks zs kk d))) else none
   | _=>none
  | _=>none
 | none=>none
def pt3 (k:Nat) (n:Nat) (ρ:Ev):Option (List Key)->Option (Option W)->Option D->Option Ev
 | some kk,some (some (.v d)),some (.dT ks zs)=>if ks.length < lim/\n<=lim then some (setOwn ρ k (.dT (putKs ks kk) (putX ks zs kk d))) else none
 | _,_,_=>none
theorem r_td {gf:FG}:turnCD k gf t fa j d ρ=td2 k j t fa (gf d ρ):=by unfold turnCD td2;cases gf d ρ <;> rfl
theorem b3t:td2 k j t fa (some ρ)=td3 k j fa (t ρ):=by unfold td2 td3;dsimp only;cases t ρ <;> rfl
theorem b2Z:td3 k j fa (some (true,ρ))=td4 k j (fa ρ):=by unfold td3 td4;simp only [qQ];cases fa ρ <;> rfl
theorem b2W:td4 k j (some (ws,ρ))=pt2 k j (takeAll ρ ws):=by unfold td4 putTo pt2;dsimp only;cases takeAll ρ ws <;> rfl
theorem b2Y:pt2 k j (some (ds,ρ))=pt3 k ds.length ρ (dkeys ds) ρ[j]? (ownAt ρ k):=by
 unfold pt2 pt3;dsimp only;cases dkeys ds with
 | none=>rfl
 | some kk=>
  dsimp only [bind_some];cases ρ[j]? with
  | none=>rfl
  | some o=>
   cases o with
   | none=>rfl
   | some w=>
    cases w with
    | v d=>
     cases ownAt ρ k with
     | none=>rfl
     | some x=>cases x <;> rfl
    | _=>rfl
theorem b20 {n:Nat}:pt3 k n ρ (some kk) (some (some (.v d))) (some (.dT kl xs))=if kl.length < lim/\n<=lim then some (setOwn ρ k (.dT (putKs kl kk) (putX kl xs kk d))) else none:=rfl
end
abbrev Tie:=Int×Int×Int
def tieD (t:Tie):D:=.tup [.int t.1,.int t.2.1,.int t.2.2]
def webD (n:Int) (ts:List Tie):D:=.tup [.int n,.tup (ts.map tieD)]
def tkK (t:Tie):List Key:=[Sum.inl t.1,Sum.inl t.2.1]
def parK (n:Int) (ts:List Tie):List (List Int):=((List.range n.toNat).map fun (i:Nat)=>[(i:Int)]) ++ ts.map fun t=>[t.1,t.2.1]
structure WebOk (n:Int) (ts:List Tie):Prop where
 n1:1<=n/\n<=8
 t:∀t∈ts,0<=t.1/\t.1 < t.2.1/\t.2.1 < n/\1<=t.2.2/\t.2.2<=10 ^ 12
 nd:(ts.map fun t=>(t.1,t.2.1)).Nodup
 len:ts.length<=55
def gainOf:List Tie->List Int->Int
 | [],_=>0
 | t :: ts,k=>if [t.1,t.2.1]=k then t.2.2 else gainOf ts k
theorem b1e {a b:List Int}(h:a.map (Sum.inl:Int->Key)=b.map Sum.inl):a=b:=by
 induction a generalizing b with
 | nil=>cases b with | nil=>rfl | cons _ _=>cases h
 | cons x a ih=>cases b with
  | nil=>cases h
  | cons y b=>rw [zK,zK] at h;injection h with h1 h2;injection h1 with h1;rw [h1,ih h2]
theorem b4A (t:Tie):tkK t=[t.1,t.2.1].map Sum.inl:=rfl
theorem a0A:∀(ts:List Tie) (k:List Int),(look (ts.map tkK) (ts.map fun t=>D.int t.2.2) (k.map Sum.inl)).getD (.int 0)= .int (gainOf ts k)
 | [],k=>rfl
 | t :: ts,k=>by
  rw [zK,zK,look,gainOf]
  by_cases h:[t.1,t.2.1]=k
  ·rw [if_pos (by rw [b4A,h]),if_pos h];rfl
  ·rw [if_neg (show ¬tkK t=k.map Sum.inl from fun z=>h (b1e z)),if_neg h];exact a0A ts k
theorem A3 (i:Int):∀ts:List Tie,gainOf ts [i]=0
 | []=>rfl
 | t :: ts=>by rw [gainOf,if_neg (by simp),A3 i ts]
theorem a0r {n:Int}{ts:List Tie}(h:∀t∈ts,0<=t.1/\t.1 < t.2.1/\t.2.1 < n/\1<=t.2.2/\t.2.2<=10 ^ 12)(k:List Int):0<=gainOf ts k/\gainOf ts k<=10 ^ 12:=by
 induction ts with
 | nil=>exact ⟨Int.le_refl _,by show (0:Int)<=10 ^ 12;decide⟩
 | cons t ts ih=>
  rw [gainOf]
  split
  ·have:=h t zH;omega
  ·exact ih fun t ht=>h t (zI _ ht)
theorem Y3 {n:Int}{ts:List Tie}(h:WebOk n ts):(parK n ts).length<=63/\∀k∈parK n ts,k≠[]:=by
 unfold parK;refine ⟨by rw [zT,zD,zD,List.length_range];have:=h.n1;have:=h.len;walk_at "o",fun k hk=>?_⟩
 rcases jC.mp hk with h | h
 ·obtain ⟨i,_,rfl⟩:=zW.mp h;simp
 ·obtain ⟨t,_,rfl⟩:=zW.mp h;simp
theorem P7 {n:Int}{ts:List Tie}(h:WebOk n ts){k:List Int}(hk:k∈parK n ts):(∀i∈k,0<=i/\i < n)/\1<=k.length/\k.length<=2:=by
 unfold parK at hk;rcases jC.mp hk with z | z
 ·obtain ⟨i,hi,rfl⟩:=zW.mp z;rw [xE] at hi;exact ⟨fun j hj=>by rw [zU.mp hj];omega,by simp⟩
 ·obtain ⟨t,ht,rfl⟩:=zW.mp z
  have:=h.t t ht
  refine ⟨fun j hj=>?_,by simp⟩
  simp only [zS,xG,or_false] at hj;rcases hj with rfl | rfl <;> omega
theorem b0X {n:Int}{ts:List Tie}(h:WebOk n ts):(ts.map tkK).Nodup:=by
 have:=h.nd
 rw [List.Nodup,xL] at this ⊢;refine this.imp fun {a b} hab z=>hab ?_;unfold tkK at z;injection z with z1 z2
 injection z2 with z2 _
 injection z1 with z1
 injection z2 with z2
 rw [z1,z2]
theorem a0l (ts:List Tie):lfL (ts.map tieD)=true:=w4 fun x hx=>by
 obtain ⟨t,_,rfl⟩:=zW.mp hx;rfl
theorem b4a (n:Int)(ts:List Tie):lf (webD n ts)=true:=by
 unfold webD;simp only [lf,lfL,a0l,Bool.and_self]
theorem b1p (k:List Int):lf (tupI k)=true:=t7 k
theorem D2 (ks:List (List Int)):lfL (ks.map tupI)=true:=w4 fun x hx=>by
 obtain ⟨k,_,rfl⟩:=zW.mp hx;exact b1p k
theorem a1P (g:Int):ratD (g:Rat)= .tup [.int g,.int 1]:=rfl
theorem A6 (q:Rat):lf (ratD q)=true:=rfl
theorem a11 (p q:Rat):Rat.divInt (p.num * q.den - q.num * p.den) (p.den * q.den)=p - q:=by
 rw [Rat.sub_eq_add_neg,<-W5 p (-q),Rat.neg_num,Rat.neg_den,Int.neg_mul,Int.sub_eq_add_neg]
theorem a42 (p q:Rat):0 < (p.den:Int) * q.den:=Int.mul_pos (by have:=p.den_pos;walk_at "o") (by have:=q.den_pos;walk_at "o")
theorem b2F {p q:Rat}{m n:Nat}(hp:Sz m p)(hq:Sz n q){t:Int}(ht:t.natAbs<=(p.num * q.den).natAbs + (q.num * p.den).natAbs):Sz (m + n + 1) (Rat.divInt t (p.den * q.den)):=by
 have e:(2:Nat) ^ (m + n + 1)=2 ^ m * 2 ^ n + 2 ^ n * 2 ^ m:=by rw [Nat.pow_succ,Nat.pow_add,Nat.mul_comm (2 ^ n)];walk_at "o"
 have a1:(p.num * (q.den:Int)).natAbs < 2 ^ m * 2 ^ n:=by
  rw [xS,qY];exact jR hp.1 hq.2
 have a2:(q.num * (p.den:Int)).natAbs < 2 ^ n * 2 ^ m:=by
  rw [xS,qY];exact jR hq.1 hp.2
 have a3:((p.den:Int) * (q.den:Int)).natAbs < 2 ^ m * 2 ^ n:=by
  rw [xS,qY,qY];exact jR hp.2 hq.2
 exact P5 (a42 p q) (by walk_at "o") (by walk_at "o")
theorem a3W {p q:Rat}{m n:Nat}(hp:Sz m p)(hq:Sz n q):Sz (m + n + 1) (p + q):=by
 rw [<-W5];exact b2F hp hq (by omega)
theorem b3Q {p q:Rat}{m n:Nat}(hp:Sz m p)(hq:Sz n q):Sz (m + n + 1) (p - q):=by
 rw [<-a11];exact b2F hp hq (by omega)
theorem sz_0:Sz 1 0:=⟨by decide,by decide⟩
theorem a5S {g:Int}{m:Nat}(h:g.natAbs < 2 ^ m)(hm:1<=m):Sz m (g:Rat):=⟨h,zB (by decide:1 < 2 ^ 1) (qD (by decide) hm)⟩
theorem a5s {p q:Rat}{m n:Nat}(hp:Sz m p)(hq:Sz n q)(h:m + n<=8000):mOk p.num q.den/\mOk q.num p.den/\mOk p.den q.den/\(0 < (p.den:Int) * q.den)/\((p.den:Int) * q.den).natAbs < big:=by
 have a1:=hp.1;have a2:=hp.2;have b1:=hq.1;have b2:=hq.2;exact ⟨D5 a1 (by simpa using b2) (by walk_at "o") (by walk_at "o"),D5 b1 (by simpa using a2) (by walk_at "o") (by walk_at "o"),D5 (m:=m) (n:=n) (by simpa using a2) (by simpa using b2) (by walk_at "o") (by walk_at "o"),a42 p q,b1I (m:=m) (n:=n) (by simpa using a2) (by simpa using b2) h⟩
def sumR:List Rat->Rat->Rat
 | [],r=>r
 | q :: qs,r=>sumR qs (r + q)
theorem a1m (t b:Int):Int.gcd (if t < 0 then -t else t) b=Int.gcd t b:=by
 unfold Int.gcd;congr 1
 split <;> walk_at "o"
theorem a6P {t b:Int}(hb:0 < b)(hs:b.natAbs < big):dOk ((Int.gcd t b:Nat):Int):=by
 have h1:0 < Int.gcd t b:=Int.gcd_pos_iff.mpr (.inr (by walk_at "o"))
 have h2:Int.gcd t b<=b.natAbs:=Int.gcd_le_natAbs_right t (by walk_at "o")
 exact ⟨by walk_at "o",by walk_at "o"⟩
theorem J1 {C:Prop}{b:D->FS}{xs:List D}{ρ:Ev}{r:Option R}(e:loopF b xs ρ=r)(I:Nat->Ev->Prop)(h0:I 0 ρ)(st:∀i x ρ,xs[i]? =some x->I i ρ->∃ρ',b x ρ=some (.nx ρ')/\I (i + 1) ρ')(c:∀ρ',r=some (.nx ρ')->I xs.length ρ'->C):C:=by
 have key:∀(ys:List D) (k:Nat) (ρ:Ev),xs.drop k=ys->I k ρ->k<=xs.length->∃ρ',loopF b ys ρ=some (.nx ρ')/\I xs.length ρ':=by
  intro ys
  induction ys with
  | nil=>
   intro k ρ hk h hl
   have:k=xs.length:=by
    have:=List.drop_eq_nil_iff.mp hk;walk_at "o"
   exact ⟨ρ,rfl,this▸h⟩
  | cons y ys ih=>
   intro k ρ hk h hl;have hx:xs[k]? =some y:=by
    have:=congrArg (·[0]?) hk
    simpa using this
   have lt:=(zJ.mp hx).1;obtain ⟨ρ1,e1,i1⟩:=st k y ρ hx h;obtain ⟨ρ2,e2,i2⟩:=ih (k + 1) ρ1 (by rw [<-List.drop_drop,hk];rfl) i1 lt
   exact ⟨ρ2,by rw [loopF,e1];exact e2,i2⟩
 obtain ⟨ρ',e',i⟩:=key xs 0 ρ (by simp) h0 (jK _)
 exact c ρ' (e.symm.trans e') i
theorem a1B {m:Int}{n i:Nat}{x:D}(h:(rngD m n)[i]? =some x):x= .int (m + i)/\i < n:=by
 unfold rngD at h;rw [qA] at h
 by_cases hi:i < n
 ·rw [xR hi] at h;cases h;exact ⟨rfl,hi⟩
 ·rw [jI (by simpa using hi)] at h;cases h
def Sm (n:Int):Prop:=0 < n/\n.natAbs < 2 ^ 390
theorem Sm.pos {n:Int}(h:Sm n):0 < n:=h.1
def Pot (b:Nat) (d:D):Prop:=∃r c s:Int,d= .lst [.int r,.int c,.int s]/\0<=c/\c<=b/\0<=s/\s < 2147483647
theorem Pot.mono {b b':Nat}{d:D}(h:Pot b d)(hb:b<=b'):Pot b' d:=by
 obtain ⟨r,c,s,e,h1,h2,h3⟩:=h;exact ⟨r,c,s,e,h1,by walk_at "o",h3⟩
theorem Pot.lf {b:Nat}{d:D}(h:Pot b d):lfC d=true:=by obtain ⟨r,c,s,rfl,_⟩:=h;rfl
abbrev G2 (elt t1 i1 t2 i2:Expr) (scope:Scope) (pos:Pos):Expr:=.ListComp elt [⟨t1,i1,[],0⟩,⟨t2,i2,[],0⟩] scope pos
theorem b0A (elt t1 i1 t2 i2:Expr)(scope:Scope)(pos:Pos)(it acc:Value)(env:Env):
  compTurn (G2 elt t1 i1 t2 i2 scope pos) 0 it acc env=(standAt i1.pos >>=fun _=>pyNext it >>=fun r=>match r with
   | none=>pure (.done .next)
   | some v=>letOwnedTupleGo t1 it v >>=fun _=>assign t1 env v >>=fun _=>
    eval i2 env >>=fun x=>standAt i2.pos >>=fun _=>foldedSetIterable i2 env x >>=fun x=>holding [x] (pyIter x) >>=fun y=>runOwn (.compStart (G2 elt t1 i1 t2 i2 scope pos) 1 y acc env) env >>=fun _=>
     again (.compLoop (G2 elt t1 i1 t2 i2 scope pos) 0 it acc env)):=by rfl
theorem b1E (elt t1 i1 t2 i2:Expr)(scope:Scope)(pos:Pos)(it acc:Value)(env:Env):
  compTurn (G2 elt t1 i1 t2 i2 scope pos) 1 it acc env=(standAt i2.pos >>=fun _=>pyNext it >>=fun r=>match r with
   | none=>pure (.done .next)
   | some v=>letOwnedTupleGo t2 it v >>=fun _=>assign t2 env v >>=fun _=>
    (eval elt env >>=fun x=>call (.builtin "list.append") [acc,x] >>=fun _=>pure ()) >>=fun _=>
     again (.compLoop (G2 elt t1 i1 t2 i2 scope pos) 1 it acc env)):=by rfl
section
variable {prog:Program}{w:World}{A:Around}{R:Result->Shared->Prop}{s:Shared}{elt t1 i1 t2 i2:Expr}{scope:Scope}{pos:Pos}{it acc:Value}{env:Env}
theorem b1z (I:Nat->Shared->Prop)
  (turn:∀n s,I n s->wpAny (model prog w) A (pyNext it) (fun r s1=>match r with
   | none=>R (.ok .next) s1
   | some v=>wpAny (model prog w) A (letOwnedTupleGo t2 it v) (fun _ s2=>wpAny (model prog w) A (assign t2 env v) (fun _ s3=>
     wpAny (model prog w) A (eval elt env) (fun x s5=>wpAny (model prog w) A (call (.builtin "list.append") [acc,x]) (fun _ s6=>∃m,m < n/\I m s6) Fa s5) Fa s3) Fa s2) Fa s1) Fa s)
  (n:Nat) (h:I n s):codeAny (model prog w) A (.compLoop (G2 elt t1 i1 t2 i2 scope pos) 1 it acc env) R s:=by
 refine codeAny_loop rfl I (fun n s hI=>?_) n h;show wpAny _ A ((compTurn (G2 elt t1 i1 t2 i2 scope pos) 1 it acc env).onRaise (fun x=>do noteFrame x env;theTreesLotGoes x)) _ _ s
 refine wpAny_noted ?_;rw [b1E];refine zA (jG (zA (zG (turn n s hI) (fun r s1 h1=>?_) fun _ _ z=>z.elim)));cases r with
 | none=>exact zC h1
 | some v=>exact zA (zG h1 (fun _ s2 h2=>zA (zG h2 (fun _ s3 h3=>zA (zA (zG h3 (fun x s5 h5=>zA (zG h5 (fun _ s6 h6=>zC (zC ⟨rfl,h6⟩)) fun _ _ z=>z.elim)) fun _ _ z=>z.elim))) fun _ _ z=>z.elim)) fun _ _ z=>z.elim)
theorem b0I (hs:∀x,foldedSetIterable i2 env x=pure x)(I:Nat->Shared->Prop)
  (turn:∀n s,I n s->wpAny (model prog w) A (pyNext it) (fun r s1=>match r with
   | none=>R (.ok .next) s1
   | some v=>wpAny (model prog w) A (letOwnedTupleGo t1 it v) (fun _ s2=>wpAny (model prog w) A (assign t1 env v) (fun _ s3=>
     wpAny (model prog w) A (eval i2 env) (fun x s4=>wpAny (model prog w) A (pyIter x) (fun y s5=>codeAny (model prog w) A (.compStart (G2 elt t1 i1 t2 i2 scope pos) 1 y acc env) (fun r s6=>r= .ok .next/\∃m,m < n/\I m s6) s5) Fa s4) Fa s3) Fa s2) Fa s1) Fa s)
  (n:Nat) (h:I n s):codeAny (model prog w) A (.compLoop (G2 elt t1 i1 t2 i2 scope pos) 0 it acc env) R s:=by
 refine codeAny_loop rfl I (fun n s hI=>?_) n h;show wpAny _ A ((compTurn (G2 elt t1 i1 t2 i2 scope pos) 0 it acc env).onRaise (fun x=>do noteFrame x env;theTreesLotGoes x)) _ _ s
 refine wpAny_noted ?_;rw [b0A];refine zA (jG (zA (zG (turn n s hI) (fun r s1 h1=>?_) fun _ _ z=>z.elim)));cases r with
 | none=>exact zC h1
 | some v=>
  refine zA (zG h1 (fun _ s2 h2=>zA (zG h2 (fun _ s3 h3=>zA (zG h3 (fun x s4 h4=>zA (jG ?_)) fun _ _ z=>z.elim)) fun _ _ z=>z.elim)) fun _ _ z=>z.elim);rw [hs];refine zA (zC (zA (jD (zG h4 (fun y s5 h5=>zA (wpAny_runOwn ?_)) fun _ _ z=>z.elim))));refine codeAny_mono (show codeAny (model prog w) (A.mark none) _ _ _ from h5) fun r s6 h6=>?_;obtain ⟨rfl,h6⟩:=h6;exact zC ⟨rfl,h6⟩
theorem a8W (h0:codeAny (model prog w) A (.compLoop (G2 elt t1 i1 t2 i2 scope pos) 1 it acc env) R s)
  (h:wpAny (model prog w) A (pyIter it) (fun it' s'=>codeAny (model prog w) A (.compLoop (G2 elt t1 i1 t2 i2 scope pos) 1 it' acc env) R s') (notedBy (model prog w) A env fun x s'=>R (.error x) s') s):
  codeAny (model prog w) A (.compStart (G2 elt t1 i1 t2 i2 scope pos) 1 it acc env) R s:=by
 refine codeAny_of_tree ?_;show wpAny _ A ((compStart (G2 elt t1 i1 t2 i2 scope pos) 1 it acc env).onRaise (fun x=>do noteFrame x env;standAt theWindowsPlace)) _ _ s
 refine wpAny_notedAt ?_;unfold compStart;show wpAny _ A (ask >>=_) _ _ s;refine zA (wpAny_askSetting (wpAny_ite ?_))
 split
 ·first
   | exact zA (zC (zC (And.intro rfl h0)))
   | exact zC (And.intro rfl h0)
 ·first
   | exact zA (wpAny_rule (zA (jG (zA (zG h (fun it' s' h'=>zC (And.intro rfl h')) fun _ _ x=>x)))))
   | (refine zA (wpAny_rule ?_);show wpAny _ _ (standAt i2.pos >>=_) _ _ s;exact zA (jG (zA (zG h (fun it' s' h'=>zC (And.intro rfl h')) fun _ _ x=>x))))
end
def turnC2 (k:Nat) (gf:FG) (fi2:FI) (gf2:FG) (fe:FX):D->Ev->Option Ev:=fun x ρ=>(gf x ρ).bind fun ρ1=>(fi2 ρ1).bind fun p=>loopC (turnC k gf2 (fun ρ=>some (true,ρ)) fe) p.1 p.2
def fComp2 (fi:FI) (js:List (Option Nat)) (gf:FG) (fi2:FI) (gf2:FG) (fe:FX):FX:=fun ρ=>(fi ρ).bind fun p=>
  (loopC (turnC2 js.length gf fi2 gf2 fe) p.1 (capE none js p.2 ++ [some (.l (.lst []))])).bind fun ρe=>match ownAt ρe js.length with
   | some (.lst ys)=>backG none js ρe p.2 (.lst ys)
   | _=>none
section
variable {X:Cx}{pins:List (Addr×PySem.Obj)}{σ:L2.St}{H2:Hp}{s2:Shared}{scope:Scope}{cl:List (Str×Addr)}{N:List Str}{js:List (Option Nat)}{fp:List Addr}{it:Addr}{tn:Nat->Heap->Prop}{J:It}{elt tg iter t2 i2:Expr}{pos:Pos}{P:List (D×V)}{O:Av}{L:List (Option Nat×Addr)}{ρ ρe:Ev}{xs:List D}{gf gf2:FG}{fi fi2:FI}{fe:FX}{Qq:Value->Shared->Prop}{use:Option (Value->Sem Unit)}
theorem a78 (hcalm:X.calm=true)(I2:Inv X pins σ H2 s2)(T:Turn X.prog X.w X.K tg J fp it tn)(st2:tn 0 s2.heap)(f2:∀y∈fp,FpOk X pins H2 y)(b:Blk X scope cl N js)(r:Rep X P O L ρ σ H2)(wk:WksB none X.K P O ρ σ H2 xs J)
  (hg:∀C,QG (blk X scope cl s2 H2 fp C (N ++ [accN])) tg gf) (hi2:∀C,QI (blk X scope cl s2 H2 fp C (N ++ [accN])) t2 i2 fi2) (hg2:∀C,QG (blk X scope cl s2 H2 fp C (N ++ [accN])) t2 gf2) (he:∀C,QX (blk X scope cl s2 H2 fp C (N ++ [accN])) elt fe)
  (hs2:∀C x,foldedSetIterable i2 (compEnvC scope cl C X.env) x=pure x)
  (e:loopC (turnC2 js.length gf fi2 gf2 fe) xs (capE none js ρ ++ [some (.l (.lst []))])=some ρe)
  (fin:∀(Dd C:Addr) (σe:L2.St) (He:Hp) (s1:Shared),H2 Dd=none->s2.heap.objs.size<=C->Inv (blk X scope cl s2 H2 fp C (N ++ [accN])) [] σe He s1->Rep (blk X scope cl s2 H2 fp C (N ++ [accN])) P (fun b=>AvO O ρ σ b/\¬Capd ρ σ js b) ((some js.length,Dd) :: lentL none σ) ρe σe He->
   compPost (model X.prog X.w) X.A X.xe use Qq (.ref Dd) C (.ok .next) s1):
  wpAny (model X.prog X.w) X.A (newList []) (fun acc s3=>wpAny (model X.prog X.w) X.A (newFunctionEnv scope X.env.globals cl [] X.env.qual none .none (some X.env)) (fun cenv s4=>
   codeAny (model X.prog X.w) X.A (.compStart (G2 elt tg iter t2 i2 scope pos) 0 (.ref it) acc {cenv with scope:=relabel scope X.env}) (compPost (model X.prog X.w) X.A X.xe use Qq acc cenv.locals) s4) X.xe s3) X.xe s2:=by
 have hl:LiOk none js ρ:=⟨nofun,nofun,nofun⟩
 have fl:∀y∈fp,y < s2.heap.objs.size:=fun y hy=>by obtain ⟨o,eo,_⟩:=T.obj _ _ st2 y hy;exact zV eo
 refine qH (wpAny_newFunctionEnv b.cell (by intro y hy;simp at hy) (fun h' hns hsb=>?_) b.kind)
 dsimp only at hns hsb ⊢;generalize hH:s2.heap.push {cls:=.type "list",dict:=none,data:=.seq ([]:List Value).toArray}=H3 at hns hsb ⊢;have hC:H3.objs.size=s2.heap.objs.size + 1:=by rw [<-hH,size_push]
 have ne:s2.heap.objs.size≠H3.objs.size:=by rw [hC];exact zN (xU _)
 have leC:s2.heap.objs.size<=H3.objs.size:=by rw [hC];exact Nat.le_succ _
 have kp3:∀y o,s2.heap.get? y=some o->H3.get? y=some o:=fun y o e=>hH▸zF _ e;have kp4:∀y o,H3.get? y=some o->h'.get? y=some o:=fun y o e=>hsb.extBut y o (zN (zV e)) (zF _ e);have hDn:H2 s2.heap.objs.size=none:=I2.hok.fresh (zE _);have ok3:HOk X.prog X.w (upd H2 s2.heap.objs.size (.lst [])) H3:=I2.hok.laid kp3 (zE _) ⟨jK _,[],0,.nil,by rw [<-hH];exact qB _ rfl⟩
 have I4:=a6I (s4:={s2 with heap:=h',toks:=s2.toks + ([]:List (Str×Value)).length}) (Dd:=s2.heap.objs.size) (C:=H3.objs.size) I2 b f2 fl leC (zE _) ne rfl I2.bare (fun y o e=>kp4 y o (kp3 y o e)) hns (ok3.kept kp4)
 have R4:=a3A (d0:=.lst []) (o0:=.lst []) (fun _ _ e=>⟨[],e,i0⟩) (li:=none) (scope:=scope) (cl:=cl) (N:=N) (s2:=s2) (fp:=fp) (C:=H3.objs.size) (Dd:=s2.heap.objs.size) r hl hDn;have hfree:∀{H':Hp},(∀y∈fp,H' y=none)->∀y∈fp,FpOk (blk X scope cl s2 H2 fp H3.objs.size (N ++ [accN])) [] H' y:=fun hn y hy=>
  ⟨hn y hy,zN (zB (fl y hy) leC),fun z=>(zS.mp (I2.stkSub y z)).elim (f2 y hy).2.1 (f2 y hy).2.2.1,.inl hy,fun x c ec=>(f2 y hy).2.2.2.2.1 x c (b.sub x c ec),fun p hp=>absurd (show p∈([]:List (Addr×PySem.Obj)) from hp) (by simp)⟩
 obtain ⟨gg,pg,kg⟩:=(hg H3.objs.size).to;obtain ⟨gg2,pg2,kg2⟩:=(hg2 H3.objs.size).to;have loop:∀s5:Shared,s5={s2 with heap:=h',toks:=s2.toks + ([]:List (Str×Value)).length}->
   codeAny (model X.prog X.w) X.A (.compLoop (G2 elt tg iter t2 i2 scope pos) 0 (.ref it) (.ref s2.heap.objs.size) (compEnvC scope cl H3.objs.size X.env))
    (compPost (model X.prog X.w) X.A X.xe use Qq (.ref s2.heap.objs.size) H3.objs.size) s5:=by
  rintro s5 rfl
  let Y:=blk X scope cl s2 H2 fp H3.objs.size (N ++ [accN])
  let O':Av:=fun b=>AvO O ρ σ b/\¬Capd ρ σ js b
  let L':=(some js.length,s2.heap.objs.size) :: lentL none σ
  refine b0I (hs2 _) (fun n s=>∃i σ' H' ρ',n=xs.length - i/\i<=xs.length/\Inv Y [] σ' H' s/\tn i s.heap/\(∀y∈fp,H' y=none)/\Rep Y P O' L' ρ' σ' H'/\loopC (turnC2 js.length gf fi2 gf2 fe) (xs.drop i) ρ'=some ρe) ?_ xs.length
   ⟨0,_,_,_,by simp,jK _,I4,T.keep 0 _ _ st2 fun y hy o eo=>kp4 y o (kp3 y o eo),fun y hy=>by rw [c7 (zN (fl y hy))];exact (f2 y hy).1,R4,by simpa using e⟩
  rintro n s ⟨i,σ',H',ρ',rfl,hi,I,st,fr,rp,el⟩;obtain ⟨wi,ws⟩:=wk Y O' L' ρ' σ' H' rfl rfl rp (fun b z=>z.1) (fun _ i b m=>(zS.mp m).elim (fun m=>by cases m;exact hDn) (fun m=>by cases m))
  by_cases hlt:i < xs.length
  ·obtain ⟨go,yl⟩:=wi i xs[i] (by simp [hlt])
   refine zG (T.item Y rfl rfl rfl hcalm i [] s σ' H' Fa I (hfree fr) st go) (fun r s1 ⟨u,hr,h1⟩=>?_) fun _ _ z=>z;subst hr;refine zG h1 (fun _ s3 ⟨x,H5,I5,r5,y5,st5,fr5⟩=>?_) fun _ _ z=>z;obtain ⟨sm5,dx⟩:=yl x H5 y5
   replace rp:=rp.grow sm5
   rw [jY hlt,loopC] at el;cases e1:turnC2 js.length gf fi2 gf2 fe xs[i] ρ' with
   | none=>rw [e1] at el;cases el
   | some ρt=>
    rw [e1] at el;simp only [bind_some] at el;unfold turnC2 at e1;cases e2:gf xs[i] ρ' with
    | none=>rw [e2] at e1;cases e1
    | some ρ1=>
     rw [e2] at e1;simp only [bind_some] at e1;have I5':=I5.pinned (hfree fr5) (T.obj _ _ st5);have gq:=kg P O' L' xs[i] x ρ' ρ1 σ' H5 (fun σ2 Hh=>Rep Y P O' L' ρ1 σ2 Hh) rp dx e2 (fun σ2 H2' rp2=>rp2);refine zG (pg _ s3 σ' H5 x u _ I5' r5 gq) (fun _ s6 ⟨σ6,H6,I6,rp6⟩=>?_) fun _ _ z=>z;have back:∀{s7:Shared} {σ7:L2.St} {H7:Hp},Inv Y ([] ++ pinsAt fp s3.heap) σ7 H7 s7->Rep Y P O' L' ρt σ7 H7->
       ∃m,m < xs.length - i/\∃i σ' H' ρ',m=xs.length - i/\i<=xs.length/\Inv Y [] σ' H' s7/\tn i s7.heap/\(∀y∈fp,H' y=none)/\Rep Y P O' L' ρ' σ' H'/\loopC (turnC2 js.length gf fi2 gf2 fe) (xs.drop i) ρ'=some ρe:=fun {s7 σ7 H7} I7 rp7=>by
      refine ⟨xs.length - (i + 1),by omega,i + 1,σ7,H7,ρt,rfl,hlt,I7.unpinned,T.keep _ _ _ st5 fun y hy o eo=>(I7.pin (y,o) (zP _ (zP _ (t8 hy eo)))).1,fun y hy=>?_,rp7,el⟩
      obtain ⟨o,eo,_⟩:=T.obj _ _ st5 y hy;exact (I7.pin (y,o) (zP _ (zP _ (t8 hy eo)))).2.1
     obtain ⟨⟨zs,ρ2⟩,e3,e1⟩:=obs e1;dsimp only at e1;refine zG ((hi2 H3.objs.size).to _ s6 σ6 H6 _ I6 ⟨P,O',L',ρ1,zs,ρ2,rp6,e3,fun J2 H7 P' r7 hh wk2=>(⟨P',r7,hh,wk2⟩:∃P',Rep Y P' O' L' ρ2 σ6 H7/\Holds P' P/\Wks Y.K P' zs J2)⟩) (fun v s7 h7=>zG h7 (fun itv s8 h8=>?_) fun _ _ z=>z) fun _ _ z=>z;obtain ⟨it2,fp2,tn2,J2,H8,rfl,I8,T2,st8,f8,P',rp8,hh,wk2⟩:=h8;have free2:∀{H':Hp},(∀y∈fp2,H' y=none)->∀y∈fp2,FpOk Y ([] ++ pinsAt fp s3.heap) H' y:=fun hn y hy=>⟨hn y hy,(f8 y hy).2⟩;have inner:codeAny (model X.prog X.w) X.A (.compLoop (G2 elt tg iter t2 i2 scope pos) 1 (.ref it2) (.ref s2.heap.objs.size) (compEnvC scope cl H3.objs.size X.env)) (fun r s'=>r= .ok .next/\∃m,m < xs.length - i/\∃i σ' H' ρ',m=xs.length - i/\i<=xs.length/\Inv Y [] σ' H' s'/\tn i s'.heap/\(∀y∈fp,H' y=none)/\Rep Y P O' L' ρ' σ' H'/\loopC (turnC2 js.length gf fi2 gf2 fe) (xs.drop i) ρ'=some ρe) s8:=by
      refine b1z (fun n s=>∃j σ' H' ρ',n=zs.length - j/\j<=zs.length/\Inv Y ([] ++ pinsAt fp s3.heap) σ' H' s/\tn2 j s.heap/\(∀y∈fp2,H' y=none)/\Rep Y P' O' L' ρ' σ' H'/\loopC (turnC js.length gf2 (fun ρ=>some (true,ρ)) fe) (zs.drop j) ρ'=some ρt) ?_ zs.length
       ⟨0,σ6,H8,ρ2,by simp,jK _,I8,st8,fun y hy=>(f8 y hy).1,rp8,by simpa using e1⟩
      rintro n s ⟨j,σj,Hj,ρj,rfl,hj,Ij,stj,frj,rpj,elj⟩;obtain ⟨wj,wsj⟩:=wk2 Y O' L' ρj σj Hj rfl rpj
      by_cases hjl:j < zs.length
      ·obtain ⟨go2,yl2⟩:=wj j zs[j] (by simp [hjl])
       refine zG (T2.item Y rfl rfl rfl hcalm j _ s σj Hj Fa Ij (free2 frj) stj go2) (fun r sa ⟨ua,hra,ha⟩=>?_) fun _ _ z=>z;subst hra;refine zG ha (fun _ sb ⟨xb,Hb,Ib,rb,yb,stb,frb⟩=>?_) fun _ _ z=>z;obtain ⟨smb,dxb⟩:=yl2 xb Hb yb
       replace rpj:=rpj.grow smb
       rw [jY hjl,loopC] at elj;cases et:turnC js.length gf2 (fun ρ=>some (true,ρ)) fe zs[j] ρj with
       | none=>rw [et] at elj;cases elj
       | some ρk=>
        rw [et] at elj;simp only [bind_some] at elj;unfold turnC at et;cases eg:gf2 zs[j] ρj with
        | none=>rw [eg] at et;cases et
        | some ρ3=>
         rw [eg] at et;simp only [bind_some,qQ] at et;have Ib':=Ib.pinned (free2 frb) (T2.obj _ _ stb);have gk:=kg2 P' O' L' zs[j] xb ρj ρ3 σj Hb (fun σ2 Hh=>Rep Y P' O' L' ρ3 σ2 Hh) rpj dxb eg (fun σ2 H2' rp2=>rp2);refine zG (pg2 _ sb σj Hb xb ua _ Ib' rb gk) (fun _ sc ⟨σc,Hc,Ic,rpc⟩=>?_) fun _ _ z=>z;cases e4:fe ρ3 with
         | none=>rw [e4] at et;cases et
         | some p=>
          obtain ⟨w,ρ4⟩:=p;rw [e4] at et;simp only [bind_some,appTo] at et;cases e5:takeAll ρ4 [w.fz] with
          | none=>rw [e5] at et;cases et
          | some p=>
           obtain ⟨ds,ρ5⟩:=p;rw [e5] at et;simp only [bind_some] at et;split at et
           ·rename_i d zz e6;split at et
            ·rename_i hl;cases et;refine zG ((he H3.objs.size).to _ sc σc Hc (fun v H8=>Rep Y P' O' L' ρ5 σc H8/\Den X.K (AvO O' ρ5 σc) H8 d v) Ic ⟨P',O',L',ρ3,w,ρ4,rpc,e4,fun v H8 H8' r8 s8 d8=>?_⟩) (fun u8 s8 ⟨v8,H8,I8,r8,rp8,d8⟩=>?_) fun _ _ z=>z
             ·obtain ⟨r9,l9,_⟩:=k8 (vs:=[v]) (r8.grow s8) e5 ⟨v,[],rfl,d8.fz r8 s8,rfl⟩;obtain ⟨v',ev,h'⟩:=denL1 l9;cases ev;exact ⟨r9,h'⟩
             ·obtain ⟨d0,q1,q2⟩:=rp8.lnd js.length s2.heap.objs.size zH;have e6':=e6;unfold ownAt at e6';rw [q1] at e6';cases e6';obtain ⟨a,h1,vs,h4,lz⟩:=rp8.obj q1 rfl;rw [q2] at h1;cases h1;have h9:=U1 (X:=Y) _ s8 σc H8 (.ref s2.heap.objs.size) [v8] (.ref s2.heap.objs.size) [u8] (fun v H9=>H9=upd H8 s2.heap.objs.size (.lst (vs ++ [v8]))) I8 rfl (.cons r8 .nil) ⟨_,vs,v8,rfl,rfl,h4,by rw [<-b6 lz];exact zB hl t3,rfl⟩
              refine zG h9 (fun _ s9 ⟨v9,H9,I9,_,e9⟩=>?_) fun _ _ z=>z;subst e9;have g0:Go (AvO O' ρ5 σc) (AvO O' ρ5 σc) (fun b=>b=s2.heap.objs.size) H8 (upd H8 s2.heap.objs.size (.lst (vs ++ [v8]))):=⟨fun b o eb nb=>by rw [c7 nb];exact eb,fun b z=>by rw [z];exact ⟨.inr ⟨js.length,_,_,q1,rfl,q2⟩,_,h4,trivial⟩,fun b z=>.inl z⟩
              refine ⟨zs.length - (j + 1),by omega,j + 1,σc,_,_,rfl,hjl,I9.unpinned,T2.keep _ _ _ stb fun y hy o eo=>(I9.pin (y,o) (zP _ (zP _ (t8 hy eo)))).1,fun y hy=>?_,rp8.mut (d:=.lst (zz ++ [d])) e6 q2 (fun b o eb nb=>by rw [c7 nb];exact eb) ⟨_,m7,t5 g0 _ _ (l7 lz (g9 d8 i0))⟩,elj⟩
              obtain ⟨o,eo,_⟩:=T2.obj _ _ stb y hy;exact (I9.pin (y,o) (zP _ (zP _ (t8 hy eo)))).2.1
            ·cases et
           ·cases et
      ·have hje:j=zs.length:=by omega
       subst hje;refine zG (T2.done Y rfl rfl rfl hcalm _ _ s σj Hj Fa Ij (free2 frj) stj wsj) (fun r sa ⟨hra,Ia⟩=>?_) fun _ _ z=>z;subst hra;rw [yN (zE _),loopC] at elj;cases elj;exact ⟨rfl,back Ia (rpj.holds hh)⟩
     exact a8W inner (T2.self _ 0 _ _ _ st8 inner)
  ·have hie:i=xs.length:=by omega
   subst hie;refine zG (T.done Y rfl rfl rfl hcalm _ [] s σ' H' Fa I (hfree fr) st ws) (fun r s1 ⟨hr,I1⟩=>?_) fun _ _ z=>z;subst hr;rw [yN (zE _),loopC] at el;cases el;exact fin _ _ σ' H' s1 hDn leC I1 rp
 exact codeAny_compStart_list (loop _ rfl) (T.self _ 0 _ _ _ (T.keep 0 _ _ st2 fun y hy o eo=>kp4 y o (kp3 y o eo)) (loop _ rfl))
theorem a8b {Q:VK}{H:Hp}{s:Shared}{newPos:Pos}(hc:X.calm=true)(b:Blk X scope cl N js)(hi:QIB X none tg iter fi)
  (hg:∀s2 H2 fp C,QG (blk X scope cl s2 H2 fp C (N ++ [accN])) tg gf) (hi2:∀s2 H2 fp C,QI (blk X scope cl s2 H2 fp C (N ++ [accN])) t2 i2 fi2) (hg2:∀s2 H2 fp C,QG (blk X scope cl s2 H2 fp C (N ++ [accN])) t2 gf2) (he:∀s2 H2 fp C,QX (blk X scope cl s2 H2 fp C (N ++ [accN])) elt fe) (hs:∀x,foldedSetIterable iter X.env x=pure x) (hs2:∀C x,foldedSetIterable i2 (compEnvC scope cl C X.env) x=pure x)
  (I:Inv X pins σ H s) (h:tX X (fComp2 fi js gf fi2 gf2 fe) σ H Q)
  (fin:∀(C:Addr) (v:V) (He:Hp) (s1:Shared),Q v He->(∀h9:Heap,(∀y,y≠C->h9.get? y=s1.heap.get? y)->Inv X pins σ He {s1 with heap:=h9})->FpOk X pins He C->(∃m,s1.heap.Ns C m)->∀vv,RelV v vv->compPost (model X.prog X.w) X.A X.xe use Qq vv C (.ok .next) s1):
  wpAny (model X.prog X.w) X.A (comprehension (G2 elt tg iter t2 i2 scope pos) scope X.env newPos (newList []) false (eval iter X.env) use) Qq X.xe s:=by
 obtain ⟨P,O,L,ρ,w,ρ',r,e,q⟩:=h;unfold fComp2 at e;obtain ⟨⟨xs,ρ1⟩,e1,e⟩:=obs e;dsimp only at e;cases e2:loopC (turnC2 js.length gf fi2 gf2 fe) xs (capE none js ρ1 ++ [some (.l (.lst []))]) with
 | none=>rw [e2] at e;cases e
 | some ρe=>
  rw [e2] at e;simp only [bind_some] at e;split at e
  ·rename_i ys ey;have hl:LiOk none js ρ1:=⟨nofun,nofun,nofun⟩
   refine xV rfl hs b.clos b.kind b.nms ?_;refine zG (hi.to pins s σ H _ I ⟨P,O,L,ρ,xs,ρ1,r,e1,fun J H1 P' r1 hh wk=>(⟨P',r1,hh,wk⟩:∃P',Rep X P' O L ρ1 σ H1/\Holds P' P/\WksB none X.K P' O ρ1 σ H1 xs J)⟩) (fun v s1 h1=>zG h1 (fun itv s2 h2=>?_) fun _ _ z=>z) fun _ _ z=>z;obtain ⟨it,fp,tn,J,H2,rfl,I2,T,st2,f2,P',r1,hh,wk⟩:=h2;refine a78 hc I2 T st2 f2 b r1 wk (hg s2 H2 fp) (hi2 s2 H2 fp) (hg2 s2 H2 fp) (he s2 H2 fp) hs2 e2 fun Dd C σe He s3 hn leC I1 rp=>?_;obtain ⟨Hx,rx,sx,dx⟩:=a1p r1 hl hn rp ey e;obtain ⟨m,hm,_⟩:=id I1.loc;refine fin C (.ref Dd) He s3 (q _ Hx He (rx.holds hh) sx dx) (fun h9 k9=>a2f I2 f2 leC I1 k9) ?_ ⟨m,hm⟩ (.ref Dd) rfl;exact I2.fpOk leC I1.free
  ·cases e
theorem a9N (hc:X.calm=true)(b:Blk X scope cl N js)(hi:QIB X none tg iter fi)(hg:∀s2 H2 fp C,QG (blk X scope cl s2 H2 fp C (N ++ [accN])) tg gf)(hi2:∀s2 H2 fp C,QI (blk X scope cl s2 H2 fp C (N ++ [accN])) t2 i2 fi2)(hg2:∀s2 H2 fp C,QG (blk X scope cl s2 H2 fp C (N ++ [accN])) t2 gf2)(he:∀s2 H2 fp C,QX (blk X scope cl s2 H2 fp C (N ++ [accN])) elt fe)
  (hs:∀x,foldedSetIterable iter X.env x=pure x:=by intro _;rfl) (hs2:∀C x,foldedSetIterable i2 (compEnvC scope cl C X.env) x=pure x:=by intro _ _;rfl):QX X (G2 elt tg iter t2 i2 scope pos) (fComp2 fi js gf fi2 gf2 fe):=⟨fun pins s σ H Q I h=>by
 rw [eval_ListComp];refine a8b (use:=none) hc b hi hg hi2 hg2 he hs hs2 I h fun C v He s1 hq back fp ⟨m,hm⟩ vv rv=>?_
 exact ⟨m,hm,fun h9 k9=>⟨v,He,back h9 fun y ny=>k9.2 y ny,rv,hq⟩⟩⟩
end
section
variable {ρ:Ev}{i:Nat}{d:D}{xs:List D}
def fn2 (ρ:Ev):Option (Option W)->Option (List D×Ev)
 | some (some (.v d))=>(items d).map fun xs=>(xs,ρ)
 | some (some (.r _))=>none
 | some (some w)=>match w.own with
  | some (.lst xs)=>some (xs,ρ)
  | _=>none
 | _=>none
def fn3 (ρ:Ev):Option (List D)->Option (List D×Ev)
 | some xs=>some (xs,ρ)
 | none=>none
theorem r_fn:fiName i ρ=fn2 ρ ρ[i]?:=by
 unfold fiName fn2;cases ρ[i]? with
 | none=>rfl
 | some o=>cases o with
  | none=>rfl
  | some w=>cases w <;> rfl
theorem b0P:fn2 ρ (some (some (.v d)))=fn3 ρ (items d):=by
 show (items d).map _=_;unfold fn3;cases items d <;> rfl
theorem a8P:fn2 ρ (some (some (.o (.lst xs))))=some (xs,ρ):=rfl
theorem r_fn_l:fn2 ρ (some (some (.l (.lst xs))))=some (xs,ρ):=rfl
theorem b3a:fn3 ρ (some xs)=some (xs,ρ):=rfl
end
mutual
def toP:D->PyData
 | .non=>.none
 | .bl b=>.bool b
 | .int i=>.int i
 | .str x=>.str x
 | .tup xs=>.tuple (toPs xs)
 | .lst xs=>.list (toPs xs)
 | _=>.none
def toPs:List D->List PyData
 | []=>[]
 | x :: xs=>toP x :: toPs xs
end
section
open Classical in
end
section
variable {X:Cx}{a:Expr}{f:FX}{pos:Pos}
theorem b1S {ta:TE}(ha:PE X a ta):PE X (.UnaryOp .Not a pos) (fun σ H Q=>ta σ H fun x H'=>∃k,TruV X.K x H' k/\Q (.bl (!k)) H'):=by
 intro pins s σ H Q I h;refine UnaryOp_ (thn (ha pins s σ H _ I h) fun v s1 ⟨x,H1,I1,r1,q1⟩=>?_);obtain ⟨k,q1,q2⟩:=q1;exact not_of (zG (a9b pins s1 σ H1 x v (fun k' H'=>Q (.bl (!k')) H') I1 r1 ⟨k,q1,q2⟩) (fun b s2 ⟨H2,I2,q3⟩=>⟨.bl (!b),H2,I2,rfl,q3⟩) (fun _ _ z=>z))
def fNotT (f:FX):FX:=fun ρ=>(fTru f ρ).map fun p=>(.v (.bl (!p.1)),p.2)
theorem a1n (ha:QX X a f):QX X (.UnaryOp .Not a pos) (fNotT f):=⟨PE.weak (b1S ha.to) fun σ H Q h0=>tXe h0 fun P O L ρ w0 ρ' r e q=>by
 unfold fNotT fTru at e;cases e1:f ρ with
 | none=>rw [e1] at e;cases e
 | some p=>
  obtain ⟨w,ρ1⟩:=p;rw [e1] at e;simp only [bind_some] at e;cases e2:dr ρ1 w.fz with
  | none=>rw [e2] at e;cases e
  | some d=>
   rw [e2] at e;simp only [bind_some] at e;cases e3:truth d with
   | none=>rw [e3] at e;cases e
   | some k'=>
    rw [e3] at e;cases e
    exact ⟨P,O,L,ρ,w,_,r,e1,fun v H1 H' r1 s1 d1=>⟨k',a68 e3 (G6 (r1.grow s1) e2 (d1.fz r1 s1)),q _ H' H' (r1.grow s1) (Same.refl _) A4⟩⟩⟩
end
section
variable {f:FX}{ρ:Ev}{k:Bool}
def nt2:Option (Bool×Ev)->Option (W×Ev)
 | some p=>some (.v (.bl (!p.1)),p.2)
 | none=>none
theorem r_nt:fNotT f ρ=nt2 (tru2 (f ρ)):=by unfold fNotT;rw [a9q];unfold nt2;cases tru2 (f ρ) <;> rfl
theorem b3n:nt2 (some (k,ρ))=some (.v (.bl (!k)),ρ):=rfl
end
def key2 (t:Tie):List Int:=[t.1,t.2.1]
theorem a9H {t u:Tie}(h:key2 t=key2 u):t.1=u.1/\t.2.1=u.2.1:=by
 unfold key2 at h;injection h with h1 h2
 injection h2 with h2 _
 exact ⟨h1,h2⟩
theorem b1D {ts:List Tie}:(ts.map fun t=>(t.1,t.2.1)).Nodup↔(ts.map key2).Nodup:=by
 rw [List.Nodup,xL,List.Nodup,xL];constructor
 ·exact fun h=>h.imp fun {a b} hab z=>hab (by obtain ⟨z1,z2⟩:=a9H z;rw [z1,z2])
 ·exact fun h=>h.imp fun {a b} hab z=>hab (by injection z with z1 z2;unfold key2;rw [z1,z2])
theorem a5i {n:Int}{ts:List Tie}{k:List Int}:k∈parK n ts↔(∃i:Nat,i < n.toNat/\k=[(i:Int)])\/k∈ts.map key2:=by
 unfold parK;rw [jC];refine or_congr ?_ Iff.rfl;rw [zW];constructor
 ·rintro ⟨i,hi,rfl⟩;exact ⟨i,xE.mp hi,rfl⟩
 ·rintro ⟨i,hi,rfl⟩;exact ⟨i,xE.mpr hi,rfl⟩
theorem WebOk.nk {n:Int}{ts:List Tie}(h:WebOk n ts):(ts.map key2).Nodup:=b1D.mp h.nd
structure Bq (m:Nat) (q:Rat):Prop where
 nn:0<=q
 le:q<=((10 ^ 12:Int):Rat)
 dn:q.den < 2 ^ m
theorem Bq.sz {m:Nat}{q:Rat}(h:Bq m q):Sz (m + 41) q:=by
 refine ⟨?_,zB h.dn (qD (by decide) (by walk_at "o"))⟩
 have h1:=Rat.num_nonneg.mpr h.nn;have h2:=(Rat.le_iff _ _).mp h.le;rw [Rat.num_intCast,Rat.den_intCast] at h2;have h3:q.num<=10 ^ 12 * (q.den:Int):=by
  have:q.num * ((1:Nat):Int)=q.num:=by walk_at "o"
  rw [this] at h2;exact h2
 have h4:(q.num.natAbs:Int)<=10 ^ 12 * (q.den:Int):=by walk_at "o"
 have h5:q.num.natAbs<=10 ^ 12 * q.den:=by exact_mod_cast h4
 have h6:10 ^ 12 * q.den < 2 ^ 41 * 2 ^ m:=jR (by decide) h.dn
 rw [<-Nat.pow_add,Nat.add_comm] at h6;walk_at "o"
theorem a2m {C:Prop}{c:FT}{b:FS}{ρ:Ev}{r:Option R}(e:whileV c b ρ=r)(I J:Ev->Prop)(μ:Ev->Nat)(h0:I ρ)(st:∀ρ,I ρ->(∃ρ1,c ρ=some (false,ρ1)/\J ρ1)\/∃ρ1 ρ2,c ρ=some (true,ρ1)/\b ρ1=some (.nx ρ2)/\I ρ2/\μ ρ2 < μ ρ)(fin:∀ρ',r=some (.nx ρ')->J ρ'->C):C:=by
 have key:∀(k:Nat) (ρ:Ev),μ ρ<=k->I ρ->∃m ρ',whileF c b m ρ=some (.nx ρ')/\J ρ':=by
  intro k
  induction k with
  | zero=>
   intro ρ hk hi;rcases st ρ hi with ⟨ρ1,e1,j⟩ | ⟨ρ1,ρ2,e1,e2,i2,lt⟩
   ·exact ⟨1,ρ1,by rw [whileF,e1];rfl,j⟩
   ·walk_at "o"
  | succ k ih=>
   intro ρ hk hi;rcases st ρ hi with ⟨ρ1,e1,j⟩ | ⟨ρ1,ρ2,e1,e2,i2,lt⟩
   ·exact ⟨1,ρ1,by rw [whileF,e1];rfl,j⟩
   ·obtain ⟨m,ρ',e3,j⟩:=ih ρ2 (by walk_at "o") i2
    exact ⟨m + 1,ρ',by rw [whileF,e1];simp only [bind_some,qQ,e2];exact e3,j⟩
 obtain ⟨m,ρ',e',j⟩:=key _ ρ (zE _) h0;exact fin ρ' (e.symm.trans (a2x e')) j
theorem a28 {α β:Type}(f:α->β):∀(l:List α) (j:Nat),(l.map f).eraseIdx j=(l.eraseIdx j).map f
 | [],j=>by simp
 | x :: l,0=>rfl
 | x :: l,j + 1=>by rw [zK,List.eraseIdx_cons_succ,List.eraseIdx_cons_succ,zK,a28 f l j]
def up (m:Nat):List Int:=(List.range m).map fun (i:Nat)=>0 + (i:Int)
theorem a5X (m:Nat):rngD 0 m=(up m).map D.int:=by unfold rngD up;rw [qG];rfl
theorem E5 {m:Nat}{x:Int}:x∈up m↔0<=x/\x < m:=by
 unfold up;rw [zW];constructor
 ·rintro ⟨i,hi,rfl⟩;rw [xE] at hi;walk_at "o"
 ·intro h;exact ⟨x.toNat,xE.mpr (by walk_at "o"),by walk_at "o"⟩
theorem C1 (m:Nat):(up m).length=m:=by unfold up;simp
theorem a8j (m:Nat):(up m).Pairwise (· < ·):=by
 unfold up;rw [xL];exact List.pairwise_lt_range.imp fun h=>by walk_at "o"
theorem a1Z (m:Nat):(up m).Nodup:=(a8j m).imp fun h=>by walk_at "o"
theorem a5G {m i:Nat}(h:i < m):(up m).getD i 0=(i:Int):=by
 unfold up;rw [zL,qA,xR h];show 0 + (i:Int)=i;walk_at "o"
theorem Vals.take {xs:List V}{us:List Value}(n:Nat)(r:Vals xs us):Vals (xs.take n) (us.take n):=by
 induction r generalizing n with
 | nil=>simp;exact .nil
 | cons h t ih=>
  cases n with
  | zero=>exact .nil
  | succ n=>exact .cons h (ih n)
theorem Vals.drop {xs:List V}{us:List Value}(n:Nat)(r:Vals xs us):Vals (xs.drop n) (us.drop n):=by
 induction r generalizing n with
 | nil=>simp;exact .nil
 | cons h t ih=>
  cases n with
  | zero=>exact .cons h t
  | succ n=>exact ih n
def insL {α:Type} (xs:List α) (i:Nat) (x:α):List α:=xs.take i ++ x :: xs.drop i
theorem a4F {α:Type}(xs:List α)(i:Nat)(x:α):(insL xs i x).length=xs.length + 1:=by
 unfold insL;rw [zT,qI,length_take,length_drop];walk_at "o"
theorem b0C {α:Type}{xs:List α}{i:Nat}{x y:α}:y∈insL xs i x↔y=x\/y∈xs:=by
 unfold insL;rw [jC,zS];constructor
 ·rintro (h | h | h)
  ·exact .inr (List.mem_of_mem_take h)
  ·exact .inl h
  ·exact .inr (List.mem_of_mem_drop h)
 ·rintro (h | h)
  ·exact .inr (.inl h)
  ·rw [<-List.take_append_drop i xs,jC] at h;exact h.elim .inl fun h=>.inr (.inr h)
def rIns:V->List V->Hp->VK->Prop:=fun x vs H Q=>∃l xs y i,x= .ref l/\vs=[.int i,y]/\H l=some (.lst xs)/\xs.length < sizeLine/\(0<=i/\i < 2 ^ 62)/\Q .non (upd H l (.lst (insL xs i.toNat y)))
section
variable {X:Cx}{o e:Expr}{es:List Expr}{pos apos:Pos}{f:FX}{fa:FA}
theorem b3J:MtR X "list.insert" rIns:=by
 intro pins s σ H x vs v us Q I rx rv ⟨l,xs,y,i,ex,ev,hH,hz,hi,q⟩;subst ex ev;cases rx;cases rv with
 | cons r1 rv=>
  cases rv with
  | cons r2 rv=>
   cases rv;obtain ⟨t,rfl⟩:=r1;rename_i u2;obtain ⟨z,its,n,r,hl,el⟩:=I.lstM hH;have hlen:=r.length;refine call_meets F.slot_list_insert ⟨_,el,rfl⟩ F.entry_list_insert (F.args_list_insert_3 _ _ _) (PySem.AutoListH.list_insert_list_int_val_1 l its.toArray n i t u2 (fun w=>?_) (by rw [zR];walk_at "o")) ⟨el,?_⟩
   ·unfold Builtin.List.listFitsIndex at w;rw [qE (show -(2 ^ 63:Int)<=i by walk_at "o"),qE (show i < 2 ^ 63 by walk_at "o")] at w
    cases w
   ·refine ⟨.non,_,I.lset (its':=insL its i.toNat u2) hH el ?_ ?_ (by rw [a4F];walk_at "o"),rfl,q⟩
    ·dsimp only;rw [if_neg (by walk_at "o")]
     apply Array.toList_inj.mp;unfold insL
     by_cases hc:i.toNat<=its.length
     ·rw [show min i.toNat its.toArray.size=i.toNat by rw [zR];walk_at "o"]
      simp [Array.toList_extract,List.extract];exact List.take_of_length_le (by rw [length_drop];exact zE _)
     ·rw [show min i.toNat its.toArray.size=its.length by rw [zR];walk_at "o",List.take_of_length_le (by walk_at "o"),yN (by walk_at "o")]
      simp [Array.toList_extract,List.extract]
    ·unfold insL;exact (Vals.take _ r).append (.cons r2 (Vals.drop _ r))
def mIns (xs ds:List D):Option (W×List D):=match ds with
 | [.int i,d]=>if (0<=i/\i < 2 ^ 62)/\xs.length < lim then some (.v .non,insL xs i.toNat d) else none
 | _=>none
theorem b3N:PrM X mIns rIns:=fun A a xs ds w ys us vs H Q h l l' e q _=>by
 unfold mIns at e;split at e
 ·rename_i i d;split at e
  ·rename_i hi;cases e;rw [DenL] at l';obtain ⟨v1,r,rfl,h1,l'⟩:=l';obtain ⟨v,rfl,hv⟩:=denL1 l';refine ⟨a,us,v,i,rfl,by rw [u7.mp h1],h,by rw [<-b6 l];exact zB hi.2 t3,hi.1,q _ _ ?_ F5⟩
   exact l7 (a0U _ l) (g9 hv (a0K _ l))
  ·cases e
 ·cases e
theorem b4v:∀xs ds w ys,mIns xs ds=some (w,ys)->∃d,w= .v d:=fun xs ds w ys e=>by
 unfold mIns at e;split at e
 ·split at e
  ·cases e;exact ⟨_,rfl⟩
  ·cases e
 ·cases e
theorem a8u (ho:QX X o f)(ha:QA X (e :: es) fa)(hbase:attributeBase o "insert" X.env (eval o X.env)=eval o X.env:=by rfl)
  (hfew:((backTo pos (starEach (e :: es) X.env)).all (fun x=>!x.1) && (backToKw pos (keywordEach [] X.env)).all (fun x=>x.1.isSome) && decide ((e :: es).length + ([]:List Keyword).length + (if ([]:List Keyword).isEmpty then 0 else 1) < 30))=true:=by rfl)
  (hline:(apos.endLine == pos.line)=true:=by rfl) (hs:starEach (e :: es) X.env=(false,eval e X.env) :: starEach es X.env:=by rfl) (hpl:(backTo pos (starEach es X.env)).any (·.1)=false:=by rfl):QX X (.Call (.Attribute o "insert" apos) (e :: es) [] pos) (fMut mIns f fa):=
 a58 PySem.F.slot_list_insert PySem.F.type_list_insert b3J b3N b4v ho ha hbase hfew hline hs hpl
theorem r_ins {xs:List D}{i:Int}{d:D}:mIns xs [.int i,d]=if (0<=i/\i < 2 ^ 62)/\xs.length < lim then some (.v .non,insL xs i.toNat d) else none:=rfl
end
abbrev FP:=Ev->Option W
def tP (X:Cx) (f:FP):TE:=fun σ H Q=>∃P O L ρ w,Rep X P O L ρ σ H/\f ρ=some w/\∀v H1 H',Same H H1->Same H1 H'->DenW X.K (AvO O ρ σ) σ H1 H' w v->Q v H'
structure QP (X:Cx) (e:Expr) (f:FP):Prop where
 to:PE X e (tP X f)
section
variable {X:Cx}{e:Expr}{pos:Pos}
def fpVar (i:Nat):FP:=fun ρ=>match ρ[i]? with
 | some (some (.v d))=>some (.v d)
 | _=>none
theorem b1t (i:Nat){x:Str}(hN:X.N[i]? =some x:=by rfl)(hv:Vis X.env.scope x:=by first | exact Or.inl rfl | exact Or.inr (Or.inl rfl) | exact Or.inr (Or.inr rfl))(hd:(x == ("__debug__":Str))=false:=by decide)(hcd:(x == ("__classdict__":Str))=false:=by decide):QP X (.Name x pos) (fpVar i):=by
 refine ⟨PE.weak (a3s hN hv hd hcd) fun σ H Q h0=>?_⟩;obtain ⟨P,O,L,ρ,w,r,e,q⟩:=h0;unfold fpVar at e;split at e
 ·rename_i d0 e0;cases e;obtain ⟨v,h1,h2⟩:=r.slot i _ e0;exact ⟨v,h1,q v H H (Same.refl H) (Same.refl H) h2⟩
 ·cases e
def fpC (d:D):FP:=fun _=>some (.v d)
end
def fpv:Option (Option W)->Option W
 | some (some (.v d))=>some (.v d)
 | _=>none
section
variable {i:Nat}{ρ:Ev}{d:D}
theorem r_fpc:fpC d ρ=some (.v d):=id rfl
theorem r_fpv:fpVar i ρ=fpv ρ[i]?:=by unfold fpVar fpv;rfl
theorem b3Y:fpv (some (some (.v d)))=some (.v d):=id rfl
end
theorem a4E {K:PySem.W.Frag}{A:Av}{H:Hp}:∀{ds:List D} {vs:List V},DenL K A H ds vs->DenL K A H ds.reverse vs.reverse
 | [],_,h=>by rw [DenL] at h;subst h;exact i0
 | d :: ds,_,h=>by
  rw [DenL] at h;obtain ⟨v,r,rfl,q,l⟩:=h;rw [reverse_cons,reverse_cons];exact l7 (a4E l) (g9 q i0)
section
open Classical in
end
def ownC (names:List (Str×NameKind)) (x:Str):Bool:=names.any fun q=>q.1 == x && q.2 == .cell
theorem a23 {n x:Str}{k:NameKind}{r:List (Str×NameKind)}:ownC ((n,k) :: r) x=((n == x && k == .cell) || ownC r x):=rfl
theorem a2n:∀{names:List (Str×NameKind)} {n:Nat} {acc:List (Str×Addr)} {x:Str},ownC names x=false->(cellsFrom n names acc).lookup x=acc.lookup x
 | [],_,_,_,_=>rfl
 | (m,k) :: r,n,acc,x,h=>by
  rw [a23,Bool.or_eq_false_iff] at h;unfold cellsFrom
  split
  ·rename_i hk;rw [a2n h.2,yK]
   have:(x == m)=false:=by
    cases q:x == m with
    | false=>rfl
    | true=>
     have e:x=m:=by simpa using q
     have z:=h.1;rw [e,hk] at z;simp at z
   rw [this]
  ·exact a2n h.2
theorem b27:∀{names:List (Str×NameKind)} {n:Nat} {acc:List (Str×Addr)} {x:Str},ownC names x=true->∃c,(cellsFrom n names acc).lookup x=some c
 | [],_,_,_,h=>by cases h
 | (m,k) :: r,n,acc,x,h=>by
  cases q:ownC r x with
  | true=>unfold cellsFrom;split <;> exact b27 q
  | false=>
   rw [a23,q,Bool.or_false,jH] at h;unfold cellsFrom;rw [if_pos h.2,a2n q,yK];have e:m=x:=by simpa using h.1
   subst e;simp
theorem a7t:∀{names:List (Str×NameKind)} {n:Nat} {acc:List (Str×Addr)} {x:Str} {c:Addr},(cellsFrom n names acc).lookup x=some c->n<=c\/acc.lookup x=some c
 | [],_,_,_,_,h=>.inr h
 | (m,k) :: r,n,acc,x,c,h=>by
  unfold cellsFrom at h;split at h
  ·rcases a7t h with z | z
   ·exact .inl (by walk_at "o")
   ·rw [yK] at z;cases q:x == m with
    | true=>rw [q] at z;cases z;exact .inl (zE _)
    | false=>rw [q] at z;exact .inr z
  ·exact a7t h
theorem a5U:∀{names:List (Str×NameKind)} {n:Nat} {acc:List (Str×Addr)},(∀x c,acc.lookup x=some c->c < n)->(∀x y c,acc.lookup x=some c->acc.lookup y=some c->x=y)->∀x y c,(cellsFrom n names acc).lookup x=some c->(cellsFrom n names acc).lookup y=some c->x=y
 | [],_,_,_,h=>h
 | (m,k) :: r,n,acc,hl,hi=>by
  unfold cellsFrom
  split
  ·refine a5U (fun x c e=>?_) fun x y c e1 e2=>?_
   ·rw [yK] at e;cases q:x == m with
    | true=>rw [q] at e;cases e;exact xU _
    | false=>rw [q] at e;exact Nat.lt_succ_of_lt (hl x c e)
   ·rw [yK] at e1 e2;cases q1:x == m with
    | true=>
     rw [q1] at e1;cases e1;cases q2:y == m with
     | true=>
      have a:x=m:=by simpa using q1
      have b:y=m:=by simpa using q2
      rw [a,b]
     | false=>rw [q2] at e2;exact absurd (hl y _ e2) (qS _)
    | false=>
     rw [q1] at e1;cases q2:y == m with
     | true=>rw [q2] at e2;cases e2;exact absurd (hl x _ e1) (qS _)
     | false=>rw [q2] at e2;exact hi x y c e1 e2
  ·exact a5U hl hi
theorem a3L:∀{names:List (Str×NameKind)} {h:Heap} {acc:List (Str×Addr)},(∀x c,acc.lookup x=some c->∃v,h.IsCell c v)->∀x c,(cellsFrom h.objs.size names acc).lookup x=some c->∃v,(pushCells h names).IsCell c v
 | [],_,_,h=>h
 | (m,k) :: r,h,acc,hc=>by
  unfold cellsFrom pushCells
  split
  ·have z:=a3L (names:=r) (h:=h.push {cls:=.type "cell",data:=.cell none}) (acc:=(m,h.objs.size) :: acc) fun x c e=>by
    rw [yK] at e;cases q:x == m with
    | true=>rw [q] at e;cases e;exact ⟨none,_,qB _ rfl,rfl⟩
    | false=>
     rw [q] at e;obtain ⟨v,w⟩:=hc x c e;exact ⟨v,w.keeps fun b o e=>zF _ e⟩
   rwa [size_push] at z
  ·exact a3L hc
theorem a4K {M:Model}{A:Around}{E:Value->Shared->Prop}{s:Shared}{scope:Scope}{globals:Addr}{closure:List (Str×Addr)}{qual:Str}{func:Option Addr}{code:Value}{around:Env}{builtins:Addr}{Q:Env->Shared->Prop}
  (hQ:Q (newEnv scope s.heap.objs.size globals (cellsFrom (s.heap.objs.size + 1) scope.names closure) qual func code (some around) builtins) {s with heap:=pushCells (s.heap.push {cls:=.type "dict",data:=.dict #[]}) scope.names}):
  wpAny M A (newFunctionEnv scope globals closure [] qual func code (some around) builtins) Q E s:=by
 simp only [newFunctionEnv,Option.isSome_some,qQ];refine zA (wpAny_alloc ?_);refine zA (wpAny_layCells _ (fun name kind cells=>by cases hkc:kind == NameKind.cell <;> simp [hkc]) _ _ _ _ ?_)
 rw [show ({s with heap:=s.heap.push {cls:=.type "dict",data:=.dict #[]}}:Shared).heap.objs.size=s.heap.objs.size + 1 from size_push ..]
 refine zA ?_;rw [List.forIn_nil];exact zC (zC hQ)
def blkC (X:Cx) (scope:Scope) (cl:List (Str×Addr)) (s2:Shared) (H2:Hp) (fp:List Addr) (C:Addr) (N:List Str):Cx where
 prog:=X.prog
 w:=X.w
 K:=X.K
 mg:=X.mg
 base:=X.base
 A:=X.A
 N:=N
 s₀:=s2
 H₀:=H2
 env:=compEnvC scope (cellsFrom (C + 1) scope.names cl) C X.env
 outer:=X.stack
 stack:=X.stack
 ex:=fp
 fn:=ownC scope.names
 calm:=X.calm
 pn:=[]
 xe:=fun _ _=>False
structure BlkC (X:Cx) (scope:Scope) (cl:List (Str×Addr)) (N:List Str) (js:List (Option Nat)):Prop where
 clos:closureFor scope X.env=pure cl
 kind:scope.kind= .function
 apart:∀y c,cl.lookup y=some c->ownC scope.names y=false
 nms:∀y∈scope.names,y.2= .local->scope.names.lookup y.1=some .local
 cap:Cap X (relabel scope X.env) cl N js
 sub:∀y c,cl.lookup y=some c->X.env.cells.lookup y=some c
 has:∀y,((relabel scope X.env).names.lookup y=some .cell\/(relabel scope X.env).names.lookup y=some .free)->(∃c,cl.lookup y=some c)\/ownC scope.names y=true
 acc:∀k,(relabel scope X.env).names.lookup accN≠some k
section
variable {X:Cx}{pins:List (Addr×PySem.Obj)}{σ:L2.St}{H2:Hp}{s2 s4:Shared}{scope:Scope}{cl:List (Str×Addr)}{N:List Str}{js:List (Option Nat)}{fp:List Addr}{Dd C:Addr}{m:Str->Option Value}
theorem BlkC.lo (b:BlkC X scope cl N js){n:Nat}{x:Str}{c:Addr}(e:(cellsFrom n scope.names cl).lookup x=some c):n<=c\/X.env.cells.lookup x=some c:=(a7t e).imp id (b.sub x c)
theorem BlkC.lt (I:Inv X pins σ H2 s2){x:Str}{c:Addr}(e:X.env.cells.lookup x=some c):c < s2.heap.objs.size:=by
 obtain ⟨v,z⟩:=I.cell x c e;exact z.lt
theorem b1J (I:Inv X pins σ H2 s2)(b:BlkC X scope cl N js)(f2:∀y∈fp,FpOk X pins H2 y)(fl:∀y∈fp,y < s2.heap.objs.size)(hC:s2.heap.objs.size<=C):(blkC X scope cl s2 H2 fp C (N ++ [accN])).Ok where
 mod:=I.ok.mod
 kind:=b.kind
 glob:=I.ok.glob
 blt:=I.ok.blt
 above:=hC
 inj:=a5U (fun x c e=>Nat.lt_succ_of_lt (zB (BlkC.lt I (b.sub x c e)) hC)) fun x y c e1 e2=>I.ok.inj x y c (b.sub x c e1) (b.sub y c e2)
 has:=fun x h=>by
  rcases b.has x h with ⟨c,e⟩ | e
  ·exact ⟨c,(a2n (b.apart x c e)).trans e⟩
  ·exact b27 e
 cab:=fun x c h e=>by
  rcases a7t e with z | z
  ·exact zY hC (yO z)
  ·have h':ownC scope.names x=true:=h;rw [b.apart x c z] at h';cases h'
 hd:=I.ok.hd
 frames:=I.ok.frames
 stk:=.inl rfl
 exf:=fun y hy=>⟨zN (zB (fl y hy) hC),fun x c e=>by
  rcases b.lo e with z | z
  ·exact yP (zB (fl y hy) (zY hC (yO z)))
  ·exact (f2 y hy).2.2.2.2.1 x c z⟩
 bs:=I.bs
 bsz:=zY I.ok.bsz I.sz
 noex:=fun y o e hy=>by
  rcases (f2 y hy).2.2.2.1 with z | z
  ·exact I.ok.noex y o e z
  ·exact absurd (zB (zV e) (zY I.ok.bsz z)) (qS _)
 exfs:=fun y hy z=>(zS.mp (I.stkSub y z)).elim (f2 y hy).2.1 (f2 y hy).2.2.1
 funs:=I.stack
 frf:=I.stkFree
theorem b04 (I:Inv X pins σ H2 s2)(b:BlkC X scope cl N js)(f2:∀y∈fp,FpOk X pins H2 y)(fl:∀y∈fp,y < s2.heap.objs.size)(hC:s2.heap.objs.size<=C)(hD:s2.heap.objs.size<=Dd)(ne:Dd < C)
  (ho:s4.os=s2.os) (hg:AllBare s4.gens) (kp:∀y o,s2.heap.get? y=some o->s4.heap.get? y=some o) (hn:s4.heap.Ns C m) (hk:HOk X.prog X.w (upd H2 Dd (.lst [])) s4.heap)
  (hc:∀x c,(cellsFrom (C + 1) scope.names cl).lookup x=some c->∃v,s4.heap.IsCell c v):
  Inv (blkC X scope cl s2 H2 fp C (N ++ [accN])) [] (capS js σ ++ [some (.ref Dd)]) (upd H2 Dd (.lst [])) s4:=by
 have nD:∀y o,s2.heap.get? y=some o->y≠Dd:=fun y o e=>zN (zB (zV e) hD);have nH:∀y u,H2 y=some u->y≠Dd:=fun y u e=>zN (zB (I.hok.lt e) hD);have cD:∀x c,(cellsFrom (C + 1) scope.names cl).lookup x=some c->c≠Dd:=fun x c e=>by
  rcases b.lo e with z | z
  ·exact yP (zB ne (yO z))
  ·exact zN (zB (BlkC.lt I z) hD)
 refine ⟨b1J I b f2 fl hC,ho,hg,⟨fun y o e _ _ _=>kp y o e,fun y o e _ _ _=>⟨o.slots,kp y o e⟩,fun y o e n _=>?_,fun y o e _=>⟨o,kp y o e⟩,fun y xs e=>?_,fun y o u e=>?_,fun y ps e=>?_⟩,⟨m,hn,fun i x v e1 e2 e3=>?_⟩,hc,?_,fun x c e=>?_,fun p hp=>absurd (show p∈([]:List (Addr×PySem.Obj)) from hp) (by simp),hk,?_⟩
 ·rw [c7 (nD y o e)];exact n
 ·rw [c7 (nH _ _ e)];exact e
 ·rw [c7 (nH _ _ e)];exact e
 ·have e':H2 y=some (.tbl ps):=e;exact ⟨#[],by rw [c7 (nH _ _ e'),e'];simp⟩
 ·have hl:js.length=N.length:=b.cap.len
  by_cases hi:i < N.length
  ·have e1':N[i]? =some x:=by
    have z:(N ++ [accN])[i]? =some x:=e1;rw [qC hi] at z;exact z
   rw [qC (by unfold capS;simp;walk_at "o")] at e2
   unfold capS at e2;rw [qA] at e2;cases ej:js[i]? with
   | none=>rw [ej] at e2;cases e2
   | some o=>
    rw [ej] at e2;cases o with
    | none=>cases e2
    | some j=>
     obtain ⟨c1,c2,c3,c4⟩:=b.cap.get e1' ej;simp only [qZ,bind_some] at e2;have e2':σ[j]? =some (some v):=by
      cases q:σ[j]? with
      | none=>rw [q] at e2;cases e2
      | some o=>rw [q] at e2;simp at e2;rw [e2]
     obtain ⟨m2,_,hl2⟩:=I.loc;obtain ⟨u,r,lk⟩:=hl2 j x v c1 e2' (.inr (.inl c2));refine ⟨u,r,.inr ⟨.inl c3,?_⟩⟩;rcases lk with ⟨k,_⟩ | ⟨_,c,e,z⟩
     ·have k':X.env.scope.names.lookup x=some .local:=k;rw [c2] at k';cases k'
     ·exact ⟨c,(a2n (b.apart x c (c4.trans e))).trans (c4.trans e),z.keeps kp⟩
  ·have hx:x=accN:=by
    have z:(N ++ [accN])[i]? =some x:=e1;rw [qJ (by walk_at "o")] at z
    cases q:i - N.length with
    | zero=>rw [q] at z;simp at z;exact z.symm
    | succ k=>rw [q] at z;simp at z
   subst hx;rcases e3 with z | z | z
   ·exact absurd z (b.acc _)
   ·exact absurd z (b.acc _)
   ·exact absurd z (b.acc _)
 ·show upd H2 Dd (.lst []) C=none;rw [c7 (yP ne)];exact I.hok.fresh hC
 ·rw [c7 (cD x c e)];rcases b.lo e with z | z
  ·exact I.hok.fresh (zY hC (yO z))
  ·exact I.freeC x c z
 ·show (capS js σ ++ [some (V.ref Dd)]).length=(N ++ [accN]).length;unfold capS;simp [b.cap.len]
end
section
variable {X:Cx}{scope:Scope}{cl:List (Str×Addr)}{N:List Str}{js:List (Option Nat)}
theorem b10 (cap:Cap X (relabel scope X.env) cl N js)(clos:closureFor scope X.env=pure cl)(sub:AllC X cl)(has:(relabel scope X.env).names.all (fun p=>(p.2 != .cell && p.2 != .free) || (cl.lookup p.1).isSome || ownC scope.names p.1)=true)(apart:cl.all (fun p=>!ownC scope.names p.1)=true)(kind:scope.kind= .function:=by rfl)
  (nms:scope.names.all (fun y=>y.2 != .local || scope.names.lookup y.1 == some .local)=true:=by decide +kernel) (acc:(relabel scope X.env).names.lookup accN=none:=by rfl):BlkC X scope cl N js where
 clos:=clos
 kind:=kind
 apart:=fun y c h=>by have:=jN.mp apart (y,c) (N1 h);simpa using this
 nms:=fun y hy hl=>by have:=jN.mp nms y hy;rw [hl] at this;simpa using this
 cap:=cap
 sub:=sub.sub
 has:=fun y h=>by
  have key:∀k,(relabel scope X.env).names.lookup y=some k->k= .cell\/k= .free->(∃c,cl.lookup y=some c)\/ownC scope.names y=true:=fun k e hk=>by
   have:=jN.mp has (y,k) (N1 e)
   rcases hk with rfl | rfl <;> simpa [isSome_iff_exists] using this
  rcases h with h | h
  ·exact key _ h (.inl rfl)
  ·exact key _ h (.inr rfl)
 acc:=fun k e=>by rw [acc] at e;cases e
variable {s2:Shared}{H2:Hp}{fp:List Addr}{C:Addr}{M:List Str}{P:List (D×V)}{O:Av}{L:List (Option Nat×Addr)}{ρ:Ev}{σ:L2.St}{H:Hp}
theorem b1X (r:Rep (blk X scope cl s2 H2 fp C M) P O L ρ σ H):Rep (blkC X scope cl s2 H2 fp C M) P O L ρ σ H:=⟨r.1,r.2,r.3,r.4,r.5,r.6,r.7,r.8,r.9,r.10⟩
theorem b1o (r:Rep (blkC X scope cl s2 H2 fp C M) P O L ρ σ H):Rep (blk X scope cl s2 H2 fp C M) P O L ρ σ H:=⟨r.1,r.2,r.3,r.4,r.5,r.6,r.7,r.8,r.9,r.10⟩
end
section
variable {X:Cx}{pins:List (Addr×PySem.Obj)}{σ:L2.St}{H2:Hp}{s2:Shared}{scope:Scope}{cl:List (Str×Addr)}{N:List Str}{js:List (Option Nat)}{fp:List Addr}{it:Addr}{tn:Nat->Heap->Prop}{J:It}{elt tg iter:Expr}{ifs:List Expr}{pos:Pos}{P:List (D×V)}{O:Av}{L:List (Option Nat×Addr)}{ρ ρe:Ev}{xs:List D}{gf:FG}{t:FT}{fe:FX}{Qq:Value->Shared->Prop}{use:Option (Value->Sem Unit)}{li:Option (Nat×Nat)}
theorem a7P (hcalm:X.calm=true)(I2:Inv X pins σ H2 s2)(T:Turn X.prog X.w X.K tg J fp it tn)(st2:tn 0 s2.heap)(f2:∀y∈fp,FpOk X pins H2 y)(b:BlkC X scope cl N js)(r:Rep X P O L ρ σ H2)(hl:LiOk li js ρ)(wk:WksB li X.K P O ρ σ H2 xs J)
  (hg:∀C,QG (blkC X scope cl s2 H2 fp C (N ++ [accN])) tg gf) (ht:∀C,Tst (blkC X scope cl s2 H2 fp C (N ++ [accN])) ifs t) (he:∀C,QX (blkC X scope cl s2 H2 fp C (N ++ [accN])) elt fe)
  (e:loopC (turnC js.length gf t fe) xs (capE (li.map (·.2)) js ρ ++ [some (.l (.lst []))])=some ρe)
  (fin:∀(Dd C:Addr) (σe:L2.St) (He:Hp) (s1:Shared),H2 Dd=none->s2.heap.objs.size<=C->Inv (blkC X scope cl s2 H2 fp C (N ++ [accN])) [] σe He s1->Rep (blkC X scope cl s2 H2 fp C (N ++ [accN])) P (fun b=>AvO O ρ σ b/\¬Capd ρ σ js b) ((some js.length,Dd) :: lentL li σ) ρe σe He->
   compPost (model X.prog X.w) X.A X.xe use Qq (.ref Dd) C (.ok .next) s1):
  wpAny (model X.prog X.w) X.A (newList []) (fun acc s3=>wpAny (model X.prog X.w) X.A (newFunctionEnv scope X.env.globals cl [] X.env.qual none .none (some X.env)) (fun cenv s4=>
   codeAny (model X.prog X.w) X.A (.compStart (.ListComp elt [⟨tg,iter,ifs,0⟩] scope pos) 0 (.ref it) acc {cenv with scope:=relabel scope X.env}) (compPost (model X.prog X.w) X.A X.xe use Qq acc cenv.locals) s4) X.xe s3) X.xe s2:=by
 have fl:∀y∈fp,y < s2.heap.objs.size:=fun y hy=>by obtain ⟨o,eo,_⟩:=T.obj _ _ st2 y hy;exact zV eo
 refine qH (a4K ?_);dsimp only;generalize hH:s2.heap.push {cls:=.type "list",dict:=none,data:=.seq ([]:List Value).toArray}=H3;generalize hh':pushCells (H3.push {cls:=.type "dict",data:=.dict #[]}) scope.names=h';have kpc:∀y o,(H3.push {cls:=.type "dict",data:=.dict #[]}).get? y=some o->h'.get? y=some o:=fun y o e=>hh'▸pushCells_keeps scope.names _ y o e;have hC:H3.objs.size=s2.heap.objs.size + 1:=by rw [<-hH,size_push]
 have ne:s2.heap.objs.size≠H3.objs.size:=by rw [hC];exact zN (xU _)
 have leC:s2.heap.objs.size<=H3.objs.size:=by rw [hC];exact Nat.le_succ _
 have kp3:∀y o,s2.heap.get? y=some o->H3.get? y=some o:=fun y o e=>hH▸zF _ e;have kp4:∀y o,H3.get? y=some o->h'.get? y=some o:=fun y o e=>kpc y o (zF _ e);have hns:h'.Ns H3.objs.size (fun _=>none):=(Heap.Ns.new ..).keeps kpc;have hDn:H2 s2.heap.objs.size=none:=I2.hok.fresh (zE _);have ok3:HOk X.prog X.w (upd H2 s2.heap.objs.size (.lst [])) H3:=I2.hok.laid kp3 (zE _) ⟨jK _,[],0,.nil,by rw [<-hH];exact qB _ rfl⟩
 have I4:=b04 (s4:={s2 with heap:=h'}) (Dd:=s2.heap.objs.size) (C:=H3.objs.size) I2 b f2 fl leC (zE _) (by rw [hC];exact xU _) rfl I2.bare (fun y o e=>kp4 y o (kp3 y o e)) hns (ok3.kept kp4) (by
  have z:=a3L (names:=scope.names) (h:=H3.push {cls:=.type "dict",data:=.dict #[]}) (acc:=cl) fun x c e=>by
   obtain ⟨v,q⟩:=I2.cell x c (b.sub x c e);exact ⟨v,q.keeps fun y o e=>zF _ (kp3 y o e)⟩
  rw [size_push] at z;rw [<-hh']
  exact z)
 have R4:=b1X <| a3A (d0:=.lst []) (o0:=.lst []) (fun _ _ e=>⟨[],e,i0⟩) (scope:=scope) (cl:=cl) (N:=N) (s2:=s2) (fp:=fp) (C:=H3.objs.size) (Dd:=s2.heap.objs.size) r hl hDn;have hfree:∀{H':Hp},(∀y∈fp,H' y=none)->∀y∈fp,FpOk (blkC X scope cl s2 H2 fp H3.objs.size (N ++ [accN])) [] H' y:=fun hn y hy=>
  ⟨hn y hy,zN (zB (fl y hy) leC),fun z=>(zS.mp (I2.stkSub y z)).elim (f2 y hy).2.1 (f2 y hy).2.2.1,.inl hy,fun x c ec=>by
   rcases b.lo ec with z | z
   ·exact yP (zB (fl y hy) (zY leC (yO z)))
   ·exact (f2 y hy).2.2.2.2.1 x c z,fun p hp=>absurd (show p∈([]:List (Addr×PySem.Obj)) from hp) (by simp)⟩
 obtain ⟨gg,pg,kg⟩:=(hg H3.objs.size).to;have loop:∀s5:Shared,s5={s2 with heap:=h'}->
   codeAny (model X.prog X.w) X.A (.compLoop (.ListComp elt [⟨tg,iter,ifs,0⟩] scope pos) 0 (.ref it) (.ref s2.heap.objs.size) (compEnvC scope (cellsFrom (H3.objs.size + 1) scope.names cl) H3.objs.size X.env))
    (compPost (model X.prog X.w) X.A X.xe use Qq (.ref s2.heap.objs.size) H3.objs.size) s5:=by
  rintro s5 rfl
  let Y:=blkC X scope cl s2 H2 fp H3.objs.size (N ++ [accN])
  let O':Av:=fun b=>AvO O ρ σ b/\¬Capd ρ σ js b
  let L':=(some js.length,s2.heap.objs.size) :: lentL li σ
  refine a2Z (fun n s=>∃i σ' H' ρ',n=xs.length - i/\i<=xs.length/\Inv Y [] σ' H' s/\tn i s.heap/\(∀y∈fp,H' y=none)/\Rep Y P O' L' ρ' σ' H'/\loopC (turnC js.length gf t fe) (xs.drop i) ρ'=some ρe) ?_ xs.length
   ⟨0,_,_,_,by simp,jK _,I4,T.keep 0 _ _ st2 fun y hy o eo=>kp4 y o (kp3 y o eo),fun y hy=>by rw [c7 (zN (fl y hy))];exact (f2 y hy).1,R4,by simpa using e⟩
  rintro n s ⟨i,σ',H',ρ',rfl,hi,I,st,fr,rp,el⟩;obtain ⟨wi,ws⟩:=wk Y O' L' ρ' σ' H' rfl rfl rp (fun b z=>z.1) (fun z i b m=>by subst z;exact (zS.mp m).elim (fun m=>by cases m;exact hDn) (fun m=>by cases m))
  by_cases hlt:i < xs.length
  ·obtain ⟨go,yl⟩:=wi i xs[i] (by simp [hlt])
   refine zG (T.item Y rfl rfl rfl hcalm i [] s σ' H' Fa I (hfree fr) st go) (fun r s1 ⟨u,hr,h1⟩=>?_) fun _ _ z=>z;subst hr;refine zG h1 (fun _ s3 ⟨x,H5,I5,r5,y5,st5,fr5⟩=>?_) fun _ _ z=>z;obtain ⟨sm5,dx⟩:=yl x H5 y5
   replace rp:=rp.grow sm5
   rw [jY hlt,loopC] at el;cases e1:turnC js.length gf t fe xs[i] ρ' with
   | none=>rw [e1] at el;cases el
   | some ρt=>
    rw [e1] at el;simp only [bind_some] at el;unfold turnC at e1;cases e2:gf xs[i] ρ' with
    | none=>rw [e2] at e1;cases e1
    | some ρ1=>
     rw [e2] at e1;simp only [bind_some] at e1;obtain ⟨⟨k,ρ2⟩,e3,e1⟩:=obs e1;dsimp only at e1;have I5':=I5.pinned (hfree fr5) (T.obj _ _ st5);have gq:=kg P O' L' xs[i] x ρ' ρ1 σ' H5 (fun σ2 Hh=>Rep Y P O' L' ρ1 σ2 Hh) rp dx e2 (fun σ2 H2' rp2=>rp2);refine zG (pg _ s3 σ' H5 x u _ I5' r5 gq) (fun _ s6 ⟨σ6,H6,I6,rp6⟩=>?_) fun _ _ z=>z;have back:∀{s7:Shared} {H7:Hp} {ρ7:Ev},Inv Y ([] ++ pinsAt fp s3.heap) σ6 H7 s7->Rep Y P O' L' ρ7 σ6 H7->loopC (turnC js.length gf t fe) (xs.drop (i + 1)) ρ7=some ρe->
       ∃m,m < xs.length - i/\∃i σ' H' ρ',m=xs.length - i/\i<=xs.length/\Inv Y [] σ' H' s7/\tn i s7.heap/\(∀y∈fp,H' y=none)/\Rep Y P O' L' ρ' σ' H'/\loopC (turnC js.length gf t fe) (xs.drop i) ρ'=some ρe:=fun {s7 H7 ρ7} I7 rp7 e7=>by
      refine ⟨xs.length - (i + 1),by walk_at "o",i + 1,σ6,H7,ρ7,rfl,hlt,I7.unpinned,T.keep _ _ _ st5 fun y hy o eo=>(I7.pin (y,o) (zP _ (zP _ (t8 hy eo)))).1,fun y hy=>?_,rp7,e7⟩
      obtain ⟨o,eo,_⟩:=T.obj _ _ st5 y hy;exact (I7.pin (y,o) (zP _ (zP _ (t8 hy eo)))).2.1
     refine zG ((ht H3.objs.size).to _ s6 σ6 H6 P O' L' ρ1 ρ2 k (fun k' Hh=>k'=k/\Rep Y P O' L' ρ2 σ6 Hh) I6 rp6 e3 (fun H' rr=>⟨rfl,rr⟩)) (fun ok s7 ⟨H7,I7,hk,rp7⟩=>?_) fun _ _ z=>z;subst hk;cases ok with
     | false=>
      rw [if_neg zQ] at e1 ⊢;cases e1;exact back I7 rp7 el
     | true=>
      rw [if_pos rfl] at e1 ⊢;obtain ⟨⟨w,ρ3⟩,e4,e1⟩:=obs e1;simp only [appTo] at e1;obtain ⟨⟨ds,ρ4⟩,e5,e1⟩:=obs e1;dsimp only at e1;split at e1
      ·rename_i d zs e6;split at e1
       ·rename_i hl;cases e1;refine zG ((he H3.objs.size).to _ s7 σ6 H7 (fun v H8=>Rep Y P O' L' ρ4 σ6 H8/\Den X.K (AvO O' ρ4 σ6) H8 d v) I7 ⟨P,O',L',ρ2,w,ρ3,rp7,e4,fun v H8 H8' r8 s8 d8=>?_⟩) (fun u8 s8 ⟨v8,H8,I8,r8,rp8,d8⟩=>?_) fun _ _ z=>z
        ·obtain ⟨r9,l9,_⟩:=k8 (vs:=[v]) (r8.grow s8) e5 ⟨v,[],rfl,d8.fz r8 s8,rfl⟩;obtain ⟨v',ev,h'⟩:=denL1 l9;cases ev;exact ⟨r9,h'⟩
        ·obtain ⟨d0,q1,q2⟩:=rp8.lnd js.length s2.heap.objs.size zH;have e6':=e6;unfold ownAt at e6';rw [q1] at e6';cases e6';obtain ⟨a,h1,vs,h4,lz⟩:=rp8.obj q1 rfl;rw [q2] at h1;cases h1;have h9:=U1 (X:=Y) _ s8 σ6 H8 (.ref s2.heap.objs.size) [v8] (.ref s2.heap.objs.size) [u8] (fun v H9=>H9=upd H8 s2.heap.objs.size (.lst (vs ++ [v8]))) I8 rfl (.cons r8 .nil) ⟨_,vs,v8,rfl,rfl,h4,by rw [<-b6 lz];exact zB hl t3,rfl⟩
         refine zG h9 (fun _ s9 ⟨v9,H9,I9,_,e9⟩=>?_) fun _ _ z=>z;subst e9;have g0:Go (AvO O' ρ4 σ6) (AvO O' ρ4 σ6) (fun b=>b=s2.heap.objs.size) H8 (upd H8 s2.heap.objs.size (.lst (vs ++ [v8]))):=⟨fun b o eb nb=>by rw [c7 nb];exact eb,fun b z=>by rw [z];exact ⟨.inr ⟨js.length,_,_,q1,rfl,q2⟩,_,h4,trivial⟩,fun b z=>.inl z⟩
         exact back I9 (rp8.mut (d:=.lst (zs ++ [d])) e6 q2 (fun b o eb nb=>by rw [c7 nb];exact eb) ⟨_,m7,t5 g0 _ _ (l7 lz (g9 d8 i0))⟩) el
       ·cases e1
      ·cases e1
  ·have hie:i=xs.length:=by walk_at "o"
   subst hie;refine zG (T.done Y rfl rfl rfl hcalm _ [] s σ' H' Fa I (hfree fr) st ws) (fun r s1 ⟨hr,I1⟩=>?_) fun _ _ z=>z;subst hr;rw [yN (zE _),loopC] at el;cases el;exact fin _ _ σ' H' s1 hDn leC I1 rp
 exact codeAny_compStart_list (loop _ rfl) (T.self _ 0 _ _ _ (T.keep 0 _ _ st2 fun y hy o eo=>kp4 y o (kp3 y o eo)) (loop _ rfl))
theorem a8x {C:Addr}{σe:L2.St}{He:Hp}{s1:Shared}{h9:Heap}(I2:Inv X pins σ H2 s2)(f2:∀y∈fp,FpOk X pins H2 y)(leC:s2.heap.objs.size<=C)(I1:Inv (blkC X scope cl s2 H2 fp C (N ++ [accN])) [] σe He s1)(hs9:∀y,y≠C->h9.get? y=s1.heap.get? y):
  Inv X pins σ He {s1 with heap:=h9}:=by
 have neC:∀y,He y≠none->y≠C:=fun y z w=>z (by rw [w];exact I1.free)
 have inS:∀y o,s2.heap.get? y=some o->y≠C:=fun y o e0=>zN (zB (zV e0) leC);have B:=I1.base
 have un:Un (frs X.stack) fp H2 He s2.heap h9:=⟨fun y o e0 n hb hx=>(hs9 y (inS y o e0)).trans (B.keep y o e0 n hb hx),fun y o e0 n hb hx=>by
   obtain ⟨sl',z⟩:=B.slot y o e0 n hb hx;exact ⟨sl',(hs9 y (inS y o e0)).trans z⟩,B.free,fun y o e0 hx=>by
   obtain ⟨o',z⟩:=B.there y o e0 hx
   exact ⟨o',(hs9 y (inS y o e0)).trans z⟩,B.tups,B.frzs,B.tbls⟩
 have hok:HOk X.prog X.w He h9:=fun y u0 q0=>(I1.hok y u0 q0).stay (fun c v hc z=>(hs9 c (neC c (by
   rcases hc with w | w
   ·rw [w,q0];exact fun z=>nomatch z
   ·rw [w];exact fun z=>nomatch z))).trans z) (fun _ z=>z) fun _ _ z=>z
 exact I2.call' (s':={s1 with heap:=h9}) (ch:=fp) I1.os un hok I1.bare (fun y hy=>⟨(f2 y hy).2.2.2.1,(f2 y hy).2.1,(f2 y hy).2.2.2.2.1,(f2 y hy).2.2.2.2.2⟩)
end
section
variable {X:Cx}{pins:List (Addr×PySem.Obj)}{σ σe:L2.St}{H2 He:Hp}{s2:Shared}{scope:Scope}{cl:List (Str×Addr)}{N:List Str}{js:List (Option Nat)}{fp:List Addr}{Dd C:Addr}{elt tg iter:Expr}{ifs:List Expr}{pos:Pos}{P:List (D×V)}{O:Av}{L:List (Option Nat×Addr)}{ρ ρe:Ev}{w:W}{ys:List D}{fi:FI}{gf:FG}{t:FT}{fe:FX}{li:Option (Nat×Nat)}
theorem a8l {Q:VK}{Qq:Value->Shared->Prop}{use:Option (Value->Sem Unit)}{H:Hp}{s:Shared}{newPos:Pos}(hc:X.calm=true)(b:BlkC X scope cl N js)(hj:liJ li js=true)(hi:QIB X li tg iter fi)
  (hg:∀s2 H2 fp C,QG (blkC X scope cl s2 H2 fp C (N ++ [accN])) tg gf) (ht:∀s2 H2 fp C,Tst (blkC X scope cl s2 H2 fp C (N ++ [accN])) ifs t) (he:∀s2 H2 fp C,QX (blkC X scope cl s2 H2 fp C (N ++ [accN])) elt fe) (hs:∀x,foldedSetIterable iter X.env x=pure x)
  (I:Inv X pins σ H s) (h:tX X (fComp fi li js gf t fe) σ H Q)
  (fin:∀(C:Addr) (v:V) (He:Hp) (s1:Shared),Q v He->(∀h9:Heap,(∀y,y≠C->h9.get? y=s1.heap.get? y)->Inv X pins σ He {s1 with heap:=h9})->FpOk X pins He C->(∃m,s1.heap.Ns C m)->∀vv,RelV v vv->compPost (model X.prog X.w) X.A X.xe use Qq vv C (.ok .next) s1):
  wpAny (model X.prog X.w) X.A (comprehension (.ListComp elt [⟨tg,iter,ifs,0⟩] scope pos) scope X.env newPos (newList []) false (eval iter X.env) use) Qq X.xe s:=by
 obtain ⟨P,O,L,ρ,w,ρ',r,e,q⟩:=h;unfold fComp at e;obtain ⟨⟨xs,ρ1⟩,e1,e⟩:=obs e;dsimp only at e;split at e
 ·rename_i hb;cases e2:loopC (turnC js.length gf t fe) xs (capE (li.map (·.2)) js ρ1 ++ [some (.l (.lst []))]) with
  | none=>rw [e2] at e;cases e
  | some ρe=>
   rw [e2] at e;simp only [bind_some] at e;split at e
   ·rename_i ys ey;have hl:=b0b hj hb;refine xV rfl hs b.clos b.kind b.nms ?_;refine zG (hi.to pins s σ H _ I ⟨P,O,L,ρ,xs,ρ1,r,e1,fun J H1 P' r1 hh wk=>(⟨P',r1,hh,wk⟩:∃P',Rep X P' O L ρ1 σ H1/\Holds P' P/\WksB li X.K P' O ρ1 σ H1 xs J)⟩) (fun v s1 h1=>zG h1 (fun itv s2 h2=>?_) fun _ _ z=>z) fun _ _ z=>z;obtain ⟨it,fp,tn,J,H2,rfl,I2,T,st2,f2,P',r1,hh,wk⟩:=h2;refine a7P hc I2 T st2 f2 b r1 hl wk (hg s2 H2 fp) (ht s2 H2 fp) (he s2 H2 fp) e2 fun Dd C σe He s3 hn leC I1 rp=>?_;obtain ⟨Hx,rx,sx,dx⟩:=a1p r1 hl hn (b1o rp) ey e;obtain ⟨m,hm,_⟩:=id I1.loc;refine fin C (.ref Dd) He s3 (q _ Hx He (rx.holds hh) sx dx) (fun h9 k9=>a8x I2 f2 leC I1 k9) ?_ ⟨m,hm⟩ (.ref Dd) rfl;exact I2.fpOk leC I1.free
   ·cases e
 ·cases e
theorem a76 (hc:X.calm=true)(b:BlkC X scope cl N js)(hi:QIB X li tg iter fi)(hg:∀s2 H2 fp C,QG (blkC X scope cl s2 H2 fp C (N ++ [accN])) tg gf)(ht:∀s2 H2 fp C,Tst (blkC X scope cl s2 H2 fp C (N ++ [accN])) ifs t)(he:∀s2 H2 fp C,QX (blkC X scope cl s2 H2 fp C (N ++ [accN])) elt fe)
  (hj:liJ li js=true:=by rfl) (hs:∀x,foldedSetIterable iter X.env x=pure x:=by intro _;rfl):QXU X (.ListComp elt [⟨tg,iter,ifs,0⟩] scope pos) (fComp fi li js gf t fe):=⟨fun pins s σ H Q u Rr I h hU=>by
 refine a86 (a8l (use:=some u) hc b hj hi hg ht he hs I h fun C v He s1 hq back fp ⟨m,hm⟩ vv rv=>?_)
 exact hU C m s1 He v vv fp hm (back s1.heap fun y _=>rfl) rv hq⟩
end
section
variable {X:Cx}{a b c e:Expr}{pos:Pos}{f g:FP}{ff:FX}
theorem b4k {j}:QP X (.Constant .none j pos) (fpC .non):=⟨PE.weak a5Q fun σ H Q h0=>by
 obtain ⟨P,O,L,ρ,w,r,e,q⟩:=h0;cases e
 exact q _ H H (Same.refl H) (Same.refl H) F5⟩
def fpRepN (g:FP):FP:=fun ρ=>(g ρ).bind fun w=>match w with
 | .v (.int n)=>oRep (.lst [.non]) (.int n)
 | _=>none
theorem b1j {j}{p1 p2:Pos}(hb:QP X b g)(he:starEach [.Constant .none j p1] X.env=(false,eval (.Constant .none j p1) X.env) :: starEach [] X.env:=by rfl):QP X (.BinOp (.List [.Constant .none j p1] p2) .Mult b pos) (fpRepN g):=⟨PE.weak (b2r a6n (a9G (D6 a5Q a0P he)) hb.to) fun σ H Q h0=>by
 obtain ⟨P,O,L,ρ,w,r,e,q⟩:=h0;unfold fpRepN at e;obtain ⟨w1,e1,e⟩:=obs e;split at e
 ·rename_i n;unfold oRep at e;dsimp only at e;split at e
  ·rename_i hk;cases e;refine ⟨by decide,fun p hp=>?_⟩
   have sp:=j6 hp (.lst [.non]);have r1:=r.grow sp;refine ⟨P,O,L,ρ,_,r1,e1,fun v H1 H1' s1 s1' d1=>?_⟩;have sq:SqL X.K H1' p [.non]:=.inl (.inl ((s1.trans s1') _ _ m7));have dn:Den X.K (AvO O ρ σ) H1' .non .non:=by rw [Den]
   have d1:Den X.K (AvO O ρ σ) H1' (.int n) v:=d1;exact ⟨p,n,[.non],rfl,u7.mp d1,sq,hk.1.1,hk.1.2,zY hk.2 t3,fun p' hp'=>q _ H1' _ ((sp.trans s1).trans s1') (j6 hp' _) (w8 hp' (a1R (g9 dn i0) _))⟩
  ·cases e
 ·cases e⟩
def fpLen (f:FP):FP:=fun ρ=>(f ρ).bind fun w=>match w with
 | .v d=>gLen d
 | _=>none
theorem b4f {p:Pos}(hm:X.mg "len"=none)(ha:QP X e f)(hv:bootBuiltins "len"=some (.builtin "len"):=by rfl)(hg:Gl X "len":=by rfl)
  (he:starEach [e] X.env=(false,eval e X.env) :: starEach [] X.env:=by rfl) (hpl:(backTo pos (starEach [] X.env)).any (·.1)=false:=by rfl):QP X (.Call (.Name "len" p) [e] [] pos) (fpLen f):=⟨PE.weak (a2l l5 hg hm hv (D6 ha.to a0P he) (by decide) (by decide) he hpl) fun σ H Q h0=>by
 obtain ⟨P,O,L,ρ,w,r,e,q⟩:=h0;unfold fpLen at e;obtain ⟨w1,e1,e⟩:=obs e;split at e
 ·rename_i d;refine ⟨P,O,L,ρ,_,r,e1,fun v H1 H1' s1 s1' d1=>?_⟩;have r1:=r.grow (s1.trans s1');exact G7 _ [d] w [v] H1' Q (fun b z=>r1.there z) e ⟨v,[],rfl,E7 d1,rfl⟩ fun z H' s d=>q z H1' H' (s1.trans s1') s d.st
 ·cases e⟩
def tPar3 (i j k:Nat) (ta:TA):TS:=fun D σ H=>ta σ H fun vs H1=>∃u v w,vs=[u,v,w]/\D.nx (((σ.set i (some u)).set j (some v)).set k (some w)) H1
theorem a6z {i j k:Nat}{x y z:Str}{ta:TA}{px py pz pt:Pos}{kt k2 pt2}(hc:X.calm=true)(hN:X.N.Nodup)(hi:X.N[i]? =some x)(hj:X.N[j]? =some y)(hk:X.N[k]? =some z)(hij:i≠j)(hik:i≠k)(hjk:j≠k)
  (hx:X.env.scope.names.lookup x=some .local) (hy:X.env.scope.names.lookup y=some .local) (hz:X.env.scope.names.lookup z=some .local) (ha:PA X [a,b,c] ta)
  (hw:swappedStores [.Tuple [.Name x px,.Name y py,.Name z pz] kt pt] (.Tuple [a,b,c] k2 pt2) X.env=pure (some [x,y,z]))
  (hs:swapsWithSole [.Tuple [.Name x px,.Name y py,.Name z pz] kt pt] (.Tuple [a,b,c] k2 pt2) pos.line X.env=pure false):
  PS X (.Assign [.Tuple [.Name x px,.Name y py,.Name z pz] kt pt] (.Tuple [a,b,c] k2 pt2) pos) (tPar3 i j k ta):=by
 intro pins s σ H D I h;rw [exec_Assign_arm];refine zA (jG ?_);rw [hs];refine zA (zC ?_);rw [if_neg (by decide)]
 refine zA (Tuple_ (thn (ha _ pins s σ H _ I h) fun us s1 ⟨vs,H1,I1,r1,q1⟩=>?_));obtain ⟨v1,v2,v3,e1,q1⟩:=q1;subst e1;obtain ⟨u1,u2,u3,rfl,ra,rb,rc⟩:∃u1 u2 u3,us=[u1,u2,u3]/\RelV v1 u1/\RelV v2 u2/\RelV v3 u3:=by
  cases r1 with
  | cons p q=>cases q with
   | cons p' q'=>cases q' with
    | cons p'' q''=>cases q'';exact ⟨_,_,_,rfl,p,p',p''⟩
 refine qH ?_ (by show 3<=sizeLine;decide)
 have I2:Inv X pins σ H1 {s1 with heap:=s1.heap.push {cls:=.type "tuple",data:=.seq [u1,u2,u3].toArray}}:=I1.kept (t':=s1.toks) fun b o e=>zF _ e
 rw [hw];refine zA (zC ?_);show wpAny (model X.prog X.w) X.A (do rule "assign.swapped-stores";let items <-unpackItems (.ref s1.heap.objs.size) 3 none;assignInOrder [fun v=>bindName X.env z v,fun v=>bindName X.env y v,fun v=>bindName X.env x v] items.reverse;pure Flow.next) _ _ _
 refine zA (wpAny_rule (zA (unpackItems_tuple (items:= #[u1,u2,u3]) (I.ok.hd hc) (IsTup.new s1.heap _) fun h' hx'=>?_)));have I3:=I2.kept (h':=h') (t':=s1.toks) fun b o e=>hx' b o (zN (zV e)) e;show wpAny _ _ (assignInOrder [fun v=>bindName X.env z v,fun v=>bindName X.env y v,fun v=>bindName X.env x v] [u3,u2,u1] >>=fun _=>pure Flow.next) _ _ _;refine zA (xI (wpAny_bindName (F8 I3 hN hk (.inl hz) rc (fun s2 I4=>?_) (.inr hz))));refine xI (wpAny_bindName (F8 I4 hN hj (.inl hy) rb (fun s3 I5=>?_) (.inr hy)));refine xI (wpAny_bindName (F8 I5 hN hi (.inl hx) ra (fun s4 I6=>assignInOrder_nil (zC ?_)) (.inr hx)));rw [set_comm _ _ (qO hij),set_comm _ _ (qO hik),set_comm _ _ (qO hjk)] at I6;exact ⟨_,H1,I6,q1⟩
def fPar3 (i j k:Nat) (fa:FA):FS:=fun ρ=>(fa ρ).bind fun p=>(takeAll p.2 p.1).bind fun q=>match q.1 with
 | [d,d',d'']=>if freeSlot q.2 i=true/\freeSlot (q.2.set i (some (.v d))) j=true/\freeSlot ((q.2.set i (some (.v d))).set j (some (.v d'))) k=true then some (.nx (((q.2.set i (some (.v d))).set j (some (.v d'))).set k (some (.v d'')))) else none
 | _=>none
theorem denL3 {K:PySem.W.Frag}{A:Av}{H:Hp}{d d' d'':D}{vs:List V}(l:DenL K A H [d,d',d''] vs):∃v v' v'',vs=[v,v',v'']/\Den K A H d v/\Den K A H d' v'/\Den K A H d'' v'':=by
 rw [DenL] at l;obtain ⟨v,r,rfl,h,l⟩:=l;obtain ⟨v',v'',rfl,h',h''⟩:=denL2 l;exact ⟨v,v',v'',rfl,h,h',h''⟩
theorem b2b (i j k:Nat){x y z:Str}{px py pz pt:Pos}{kt k2 pt2}{fa:FA}(hc:X.calm=true)(hN:X.N.Nodup)(ha:QA X [a,b,c] fa)(hw:swappedStores [.Tuple [.Name x px,.Name y py,.Name z pz] kt pt] (.Tuple [a,b,c] k2 pt2) X.env=pure (some [x,y,z]))(hi:X.N[i]? =some x:=by rfl)(hj:X.N[j]? =some y:=by rfl)(hk:X.N[k]? =some z:=by rfl)(hij:i≠j:=by decide)(hik:i≠k:=by decide)(hjk:j≠k:=by decide)
  (hx:X.env.scope.names.lookup x=some .local:=by rfl) (hy:X.env.scope.names.lookup y=some .local:=by rfl) (hz:X.env.scope.names.lookup z=some .local:=by rfl)
  (hs:swapsWithSole [.Tuple [.Name x px,.Name y py,.Name z pz] kt pt] (.Tuple [a,b,c] k2 pt2) pos.line X.env=pure false:=by rfl):
  QS X (.Assign [.Tuple [.Name x px,.Name y py,.Name z pz] kt pt] (.Tuple [a,b,c] k2 pt2) pos) (fPar3 i j k fa):=⟨PS.weak (a6z hc hN hi hj hk hij hik hjk hx hy hz ha.to hw hs) fun E σ H h0=>tSe h0 fun P O L ρ r rp e q=>by
 unfold fPar3 at e;obtain ⟨⟨ws,ρ1⟩,e1,e⟩:=obs e;dsimp only at e;obtain ⟨⟨ds,ρ2⟩,e2,e⟩:=obs e;dsimp only at e;split at e
 ·rename_i d d' d'';split at e
  ·rename_i hf;cases e;refine ⟨P,O,L,ρ,ws,ρ1,rp,e1,fun vs H1 r1 l1=>?_⟩;obtain ⟨r2,l2,_⟩:=k8 r1 e2 l1;obtain ⟨v,v',v'',rfl,h,h',h''⟩:=denL3 l2;have ra:=r2.more (p:=(d'',v'')) h'';have r3:=(ra.more (p:=(d',v')) h').put (i:=i) hf.1 h;have r4:=r3.less.put (i:=j) hf.2.1 r3.head;exact ⟨v,v',v'',rfl,q _ H1 (r4.less.put (i:=k) hf.2.2 r4.head)⟩
  ·cases e
 ·cases e⟩
def fPar3O (i j k:Nat) (f:FX) (g h:FP):FS:=fun ρ=>(f ρ).bind fun p=>match p.1 with
 | .o d=>(g p.2).bind fun w=>match w with
  | .o d'=>(h p.2).bind fun w=>match w with
   | .v d''=>if (freeSlot p.2 i=true/\freeSlot (p.2.set i (some (.o d))) j=true/\freeSlot ((p.2.set i (some (.o d))).set j (some (.o d'))) k=true)/\lfC d'=true/\lf d''=true then some (.nx (((p.2.set i (some (.o d))).set j (some (.o d'))).set k (some (.v d'')))) else none
   | _=>none
  | _=>none
 | _=>none
theorem a8R (i j k:Nat){x y z:Str}{px py pz pt:Pos}{kt k2 pt2}{h:FP}(hc:X.calm=true)(hN:X.N.Nodup)(ha:QX X a ff)(hb:QP X b g)(hh:QP X c h)(hw:swappedStores [.Tuple [.Name x px,.Name y py,.Name z pz] kt pt] (.Tuple [a,b,c] k2 pt2) X.env=pure (some [x,y,z]))(hi:X.N[i]? =some x:=by rfl)(hj:X.N[j]? =some y:=by rfl)(hk:X.N[k]? =some z:=by rfl)(hij:i≠j:=by decide)(hik:i≠k:=by decide)(hjk:j≠k:=by decide)
  (hx:X.env.scope.names.lookup x=some .local:=by rfl) (hy:X.env.scope.names.lookup y=some .local:=by rfl) (hz:X.env.scope.names.lookup z=some .local:=by rfl)
  (hs:swapsWithSole [.Tuple [.Name x px,.Name y py,.Name z pz] kt pt] (.Tuple [a,b,c] k2 pt2) pos.line X.env=pure false:=by rfl)
  (h1:starEach [a,b,c] X.env=(false,eval a X.env) :: starEach [b,c] X.env:=by rfl) (h2:starEach [b,c] X.env=(false,eval b X.env) :: starEach [c] X.env:=by rfl) (h3:starEach [c] X.env=(false,eval c X.env) :: starEach [] X.env:=by rfl):
  QS X (.Assign [.Tuple [.Name x px,.Name y py,.Name z pz] kt pt] (.Tuple [a,b,c] k2 pt2) pos) (fPar3O i j k ff g h):=⟨PS.weak (a6z hc hN hi hj hk hij hik hjk hx hy hz (D6 ha.to (D6 hb.to (D6 hh.to a0P h3) h2) h1) hw hs) fun E σ H h0=>tSe h0 fun P O L ρ r rp e q=>by
 unfold fPar3O at e;obtain ⟨⟨w1,ρ1⟩,e1,e⟩:=obs e;dsimp only at e;split at e
 ·rename_i _ d;obtain ⟨w2,e2,e⟩:=obs e;split at e
  ·rename_i d';obtain ⟨w3,e3,e⟩:=obs e;split at e
   ·rename_i d'';split at e
    ·rename_i hf;cases e;obtain ⟨⟨f1,f2,f2'⟩,f3,f4⟩:=hf;refine ⟨P,O,L,ρ,_,ρ1,rp,e1,fun v H1 H1' r1 s1 d1=>?_⟩;obtain ⟨a1,rfl,n1,ob1⟩:=d1;refine ⟨P,O,L,ρ1,_,r1.grow s1,e2,fun u H2 H2' s2 s2' d2=>?_⟩;obtain ⟨a2,rfl,n2,ob2⟩:=d2;refine ⟨P,O,L,ρ1,_,((r1.grow s1).grow s2).grow s2',e3,fun u3 H3 H3' s3 s3' d3=>⟨_,_,_,rfl,q _ _ ?_⟩⟩;have d3:Den X.K (AvO O ρ1 σ) H3' d'' u3:=d3;have k1:H2 a1=H1' a1:=by
      obtain ⟨o,eo,_⟩:=C2 ob1;rw [eo];exact s2 _ _ eo
     have ra:=r1.putO (i:=i) (s1.trans s2) f1 n1 (q5 (a1r s2) k1 ob1);have rb:=ra.putO (i:=j) s2' f2 n2 (G0 (fun _ _ e _=>e) f3 rfl ob2);exact (rb.grow (s3.trans s3')).put (i:=k) f2' (a2c (fun _ _ e _=>e) _ _ f4 d3)
    ·cases e
   ·cases e
  ·cases e
 ·cases e⟩
end
def rpN:Option W->Option W
 | some (.v (.int n))=>oRep (.lst [.non]) (.int n)
 | _=>none
def lenP2:Option W->Option W
 | some (.v d)=>gLen d
 | _=>none
def tri2 (i j k:Nat):Option (List W×Ev)->Option R
 | some p=>(takeAll p.2 p.1).bind fun q=>match q.1 with
  | [d,d',d'']=>if freeSlot q.2 i=true/\freeSlot (q.2.set i (some (.v d))) j=true/\freeSlot ((q.2.set i (some (.v d))).set j (some (.v d'))) k=true then some (.nx (((q.2.set i (some (.v d))).set j (some (.v d'))).set k (some (.v d'')))) else none
  | _=>none
 | none=>none
def tri3 (i j k:Nat):Option (List D×Ev)->Option R
 | some p=>match p.1 with
  | [d,d',d'']=>if freeSlot p.2 i=true/\freeSlot (p.2.set i (some (.v d))) j=true/\freeSlot ((p.2.set i (some (.v d))).set j (some (.v d'))) k=true then some (.nx (((p.2.set i (some (.v d))).set j (some (.v d'))).set k (some (.v d'')))) else none
  | _=>none
 | none=>none
def to2 (i j k:Nat) (g h:FP):Option (W×Ev)->Option R
 | some p=>match p.1 with
  | .o d=>(g p.2).bind fun w=>match w with
   | .o d'=>(h p.2).bind fun w=>match w with
    | .v d''=>if (freeSlot p.2 i=true/\freeSlot (p.2.set i (some (.o d))) j=true/\freeSlot ((p.2.set i (some (.o d))).set j (some (.o d'))) k=true)/\lfC d'=true/\lf d''=true then some (.nx (((p.2.set i (some (.o d))).set j (some (.o d'))).set k (some (.v d'')))) else none
    | _=>none
   | _=>none
  | _=>none
 | none=>none
def to3 (i j k:Nat) (h:FP) (d:D) (ρ:Ev):Option W->Option R
 | some (.o d')=>(h ρ).bind fun w=>match w with
  | .v d''=>if (freeSlot ρ i=true/\freeSlot (ρ.set i (some (.o d))) j=true/\freeSlot ((ρ.set i (some (.o d))).set j (some (.o d'))) k=true)/\lfC d'=true/\lf d''=true then some (.nx (((ρ.set i (some (.o d))).set j (some (.o d'))).set k (some (.v d'')))) else none
  | _=>none
 | _=>none
def to4 (i j k:Nat) (d d':D) (ρ:Ev):Option W->Option R
 | some (.v d'')=>if (freeSlot ρ i=true/\freeSlot (ρ.set i (some (.o d))) j=true/\freeSlot ((ρ.set i (some (.o d))).set j (some (.o d'))) k=true)/\lfC d'=true/\lf d''=true then some (.nx (((ρ.set i (some (.o d))).set j (some (.o d'))).set k (some (.v d'')))) else none
 | _=>none
section
variable {i j k:Nat}{f g h:FP}{ff:FX}{fa:FA}{ρ:Ev}{d d' d'':D}{n:Int}{ws:List W}
theorem b1G:fpRepN g ρ=rpN (g ρ):=by
 unfold fpRepN;cases g ρ with
 | none=>rfl
 | some w=>cases w with
  | v d=>cases d <;> rfl
  | _=>rfl
theorem a9f:rpN (some (.v (.int n)))=oRep (.lst [.non]) (.int n):=id rfl
theorem b1h:fpLen f ρ=lenP2 (f ρ):=by
 unfold fpLen;cases f ρ with
 | none=>rfl
 | some w=>cases w <;> rfl
theorem a9n:lenP2 (some (.v d))=gLen d:=id rfl
theorem b2z:fPar3 i j k fa ρ=tri2 i j k (fa ρ):=by unfold fPar3 tri2;cases fa ρ <;> rfl
theorem a9A:tri2 i j k (some (ws,ρ))=tri3 i j k (takeAll ρ ws):=by
 unfold tri2 tri3;dsimp only;cases takeAll ρ ws <;> rfl
theorem a9V:tri3 i j k (some ([d,d',d''],ρ))=if freeSlot ρ i=true/\freeSlot (ρ.set i (some (.v d))) j=true/\freeSlot ((ρ.set i (some (.v d))).set j (some (.v d'))) k=true then some (.nx (((ρ.set i (some (.v d))).set j (some (.v d'))).set k (some (.v d'')))) else none:=id rfl
theorem r_to:fPar3O i j k ff g h ρ=to2 i j k g h (ff ρ):=by unfold fPar3O to2;cases ff ρ <;> rfl
theorem r_to2:to2 i j k g h (some (.o d,ρ))=to3 i j k h d ρ (g ρ):=by
 unfold to2 to3;dsimp only;cases g ρ with
 | none=>rfl
 | some w=>cases w <;> rfl
theorem r_to3:to3 i j k h d ρ (some (.o d'))=to4 i j k d d' ρ (h ρ):=by
 unfold to3 to4;dsimp only;cases h ρ with
 | none=>rfl
 | some w=>cases w <;> rfl
theorem r_to4:to4 i j k d d' ρ (some (.v d''))=if (freeSlot ρ i=true/\freeSlot (ρ.set i (some (.o d))) j=true/\freeSlot ((ρ.set i (some (.o d))).set j (some (.o d'))) k=true)/\lfC d'=true/\lf d''=true then some (.nx (((ρ.set i (some (.o d))).set j (some (.o d'))).set k (some (.v d'')))) else none:=id rfl
end
theorem a8I {C:Prop}{b:D->FS}{xs:List D}{ρ:Ev}{r:Option R}(e:loopF b xs ρ=r)(I:Nat->Ev->Prop)(J:Ev->Prop)(h0:I 0 ρ)(st:∀i x ρ,xs[i]? =some x->I i ρ->(∃ρ',b x ρ=some (.nx ρ')/\I (i + 1) ρ')\/∃ρ',b x ρ=some (.bk ρ')/\J ρ')(c:∀ρ',r=some (.nx ρ')->I xs.length ρ'\/J ρ'->C):C:=by
 have key:∀(ys:List D) (k:Nat) (ρ:Ev),xs.drop k=ys->I k ρ->k<=xs.length->∃ρ',loopF b ys ρ=some (.nx ρ')/\(I xs.length ρ'\/J ρ'):=by
  intro ys
  induction ys with
  | nil=>
   intro k ρ hk h hl
   have:k=xs.length:=by have:=List.drop_eq_nil_iff.mp hk;walk_at "o"
   exact ⟨ρ,rfl,.inl (this▸h)⟩
  | cons y ys ih=>
   intro k ρ hk h hl;have hx:xs[k]? =some y:=by
    have:=congrArg (·[0]?) hk
    simpa using this
   have lt:=(zJ.mp hx).1;rcases st k y ρ hx h with ⟨ρ1,e1,i1⟩ | ⟨ρ1,e1,j1⟩
   ·obtain ⟨ρ2,e2,i2⟩:=ih (k + 1) ρ1 (by rw [<-List.drop_drop,hk];rfl) i1 lt
    exact ⟨ρ2,by rw [loopF,e1];exact e2,i2⟩
   ·exact ⟨ρ1,by rw [loopF,e1];rfl,.inr j1⟩
 obtain ⟨ρ',e',i⟩:=key xs 0 ρ (by simp) h0 (jK _)
 exact c ρ' (e.symm.trans e') i
def spG (K:PySem.W.Frag) (g:D->D->Option (W×D)):Sp:=fun vs H Q _=>∃(A:Av) (a a2:Addr) (c c2:D) (w:W) (c':D),vs=[.ref a,.ref a2]/\(∀b,A b->∃o,H b=some o)/\¬A a/\¬A a2/\a≠a2/\Obj K (fun b=>(A b\/b=a)\/b=a2) H a c/\Obj K (fun b=>(A b\/b=a)\/b=a2) H a2 c2/\g c c2=some (w,c')/\
 ∀v H',(∀b o,H b=some o->b≠a->b≠a2->H' b=some o)->Obj K (fun b=>A b\/b=a) H' a c'->DenW K (fun b=>A b\/b=a) [] (fun b=>if b=a2 then none else H b) H' w v->Q v H'
abbrev FnG (P:Program) (w:World) (K:PySem.W.Frag) (mg:Str->Option Value) (base:Heap) (x:Str) (k:Nat) (g:D->D->Option (W×D)):Prop:=FnS P w K mg base x k (spG K g)
def fDefG (i:Nat) (g:D->D->Option (W×D)) (f:FX):FX:=fun ρ=>(ownAt ρ i).bind fun _=>(f ρ).bind fun p=>match p.1 with
 | .o d=>(ownAt p.2 i).bind fun c=>(g c d).bind fun z=>if lfW z.1=true/\lfC z.2=true then some (z.1,setOwn p.2 i z.2) else none
 | _=>none
def runG (n:Nat) (G:FS):D->D->Option (W×D):=fun c c2=>match G (some (.l c) :: some (.o c2) :: List.replicate (n - 2) none) with
 | some (.rt w ρ)=>(ownAt ρ 0).map fun c'=>(w,c')
 | some (.nx ρ)=>(ownAt ρ 0).map fun c'=>(.v .non,c')
 | _=>none
section
variable {X:Cx}{e2:Expr}{pos p p1:Pos}{f:FX}{x y:Str}{k:Nat}
theorem b1m (i:Nat){g:D->D->Option (W×D)}(F:FnG X.prog X.w X.K X.mg X.base x k g)(hr:Room k X.A)(hn:QX X (.Name y p1) (fVar i))(hf:QX X e2 f)(hg:Gl X x:=by rfl)(hdb:(x == ("__debug__":Str))=false:=by decide)
  (he:starEach [.Name y p1,e2] X.env=(false,eval (.Name y p1) X.env) :: starEach [e2] X.env:=by rfl) (he2:starEach [e2] X.env=(false,eval e2 X.env) :: starEach [] X.env:=by rfl) (hpl:(backTo pos (starEach [e2] X.env)).any (·.1)=false:=by rfl):QX X (.Call (.Name x p) [.Name y p1,e2] [] pos) (fDefG i g f):=by
 obtain ⟨fa,fd,ps,F,b,kp,hm⟩:=F.ex;refine ⟨PE.weak (a4k F hr hg hm kp b .nil pass0 (D6 hn.to (D6 hf.to a0P he2) he) hdb he hpl) fun σ H Q h0=>tXe h0 fun P O L ρ w ρ' r e q=>?_⟩;unfold fDefG at e;obtain ⟨c0,ev,e⟩:=obs e;obtain ⟨⟨w2,ρ2⟩,ef,e⟩:=obs e;dsimp only at e;split at e
 ·rename_i d;cases e0:ownAt ρ2 i with
  | none=>rw [e0] at e;cases e
  | some c=>
   rw [e0] at e;simp only [bind_some] at e;obtain ⟨⟨w3,c'⟩,e3,e⟩:=obs e;dsimp only at e;split at e
   ·rename_i hc;cases e;obtain ⟨w0,q0,ow⟩:=q8 e0;have ev:fVar i ρ=some (.r i,ρ):=by
     obtain ⟨w1,q1,ow1⟩:=q8 ev;unfold fVar;rw [q1];cases w1 with
     | o _=>rfl
     | l _=>rfl
     | _=>cases ow1
    refine ⟨P,O,L,_,_,_,r,ev,fun v0 H1 H2 r1 s1 d1=>?_⟩;refine ⟨P,O,L,_,_,ρ2,r1.grow s1,ef,fun v2 H3 H4 r3 s3 d3=>?_⟩;obtain ⟨a2,rfl,hn2,ob2⟩:=d3;obtain ⟨a,h1,ob⟩:=r3.obj q0 ow;have d1:σ[i]? =some (some v0):=d1;rw [h1] at d1;cases d1;obtain ⟨u0,eu0,_⟩:=C2 ob;have na2:a≠a2:=fun z=>by rw [z,hn2] at eu0;cases eu0
    have ia:AvO O ρ2 σ a:=.inr ⟨i,w0,c,q0,ow,h1⟩;have n2:¬AvO O ρ2 σ a2:=r3.fresh hn2;have r4:=r3.grow s3;obtain ⟨a',h1',ob4⟩:=r4.obj q0 ow;rw [h1] at h1';cases h1';have sub:∀b,(((AvO O ρ2 σ b/\b≠a)\/b=a)\/b=a2)->AvO O ρ2 σ b\/b=a2:=fun b z=>z.imp (fun z=>z.elim (·.1) fun z=>by rw [z];exact ia) id
    refine ⟨fun b=>AvO O ρ2 σ b/\b≠a,a,a2,c,d,w,c',rfl,fun b z=>r4.there z.1,fun z=>z.2 rfl,fun z=>n2 z.1,na2,?_,q5 (u5 sub) rfl ob2,e3,fun v H5 k5 o5 d5=>?_⟩
    ·exact q5 (M:=fun _=>False) ⟨fun b o e _=>s3 b o e,fun _ z=>z.elim,fun b z=>(sub b z).imp id fun z=>by rw [z];exact hn2⟩ (by rw [s3 a u0 eu0,eu0]) ob
    ·have keep:∀b o,H3 b=some o->b≠a->H5 b=some o:=fun b o eb nb=>k5 b o (s3 b o eb) nb fun z=>by rw [z,hn2] at eb;cases eb
     cases w with
     | v d'=>exact q v H5 H5 (r3.mut e0 h1 keep (G0 (fun _ _ e _=>e) hc.2 rfl o5)) (Same.refl _) (a2c (fun _ _ e _=>e) _ _ hc.1 d5)
     | o d'=>
      obtain ⟨ar,ev,hn,obr⟩:=d5;have hn:(if ar=a2 then none else H4 ar)=none:=hn;obtain ⟨ur,eur,mur⟩:=C2 obr;have na:a≠ar:=fun z=>by
       rw [<-z,if_neg na2,s3 a u0 eu0] at hn;cases hn
      have nr:∀b o,H3 b=some o->b≠ar:=fun b o eb z=>by
       have nb:ar≠a2:=fun z2=>by rw [z,z2,hn2] at eb;cases eb
       rw [if_neg nb,s3 ar o (by rw [<-z];exact eb)] at hn;cases hn
      refine q v (fun b=>if b=ar then none else H5 b) H5 (r3.mut e0 h1 (fun b o eb nb=>?_) (G0 (fun b o eb nm=>?_) hc.2 (if_neg na) o5)) (fun b o eb=>?_) ⟨ar,ev,if_pos rfl,G0 (fun _ _ e _=>e) hc.1 rfl obr⟩
      ·show (if b=ar then none else H5 b)=some o;rw [if_neg (nr b o eb)];exact keep b o eb nb
      ·have:b≠ar:=fun z=>by rw [z,eur] at eb;cases eb;exact nm mur
       show (if b=ar then none else H5 b)=some o;rw [if_neg this];exact eb
      ·dsimp only at eb;split at eb
       ·cases eb
       ·exact eb
     | r i=>cases hc.1
     | l d'=>cases hc.1
   ·cases e
 ·cases e
end
section
variable {P:Program}{w:World}{K:PySem.W.Frag}{mg:Str->Option Value}{base:Heap}
theorem a5v {X:Cx}{c c2:D}{a a2:Addr}{n:Nat}{N:List Str}{H:Hp}{A:Av}(hH:X.H₀=H)(hN:N.length=n + 2)(hA:∀b,A b->∃o,H b=some o)(hn:¬A a)(hn2:¬A a2)(na:a≠a2)(ob:Obj X.K (fun b=>(A b\/b=a)\/b=a2) H a c)(ob2:Obj X.K (fun b=>(A b\/b=a)\/b=a2) H a2 c2):
  Rep X [] A [(some 0,a),(none,a2)] (some (.l c) :: some (.o c2) :: List.replicate n none) (start N [.ref a,.ref a2]) H:=by
 have es:start N [.ref a,.ref a2]=some (.ref a) :: some (.ref a2) :: List.replicate n none:=by unfold L2.start;simp [hN]
 have at':∀{i:Nat} {w:W},(some (.l c) :: some (.o c2) :: List.replicate n none)[i]? =some (some w)->(i=0/\w= .l c)\/(i=1/\w= .o c2):=fun {i w} e=>by
  match i,e with
  | 0,e=>cases e;exact .inl ⟨rfl,rfl⟩
  | 1,e=>cases e;exact .inr ⟨rfl,rfl⟩
  | i + 2,e=>
   rw [qP,qP,yG] at e;split at e <;> cases e
 have s0:(start N [.ref a,.ref a2])[0]? =some (some (.ref a)):=by rw [es];rfl
 have s1:(start N [.ref a,.ref a2])[1]? =some (some (.ref a2)):=by rw [es];rfl
 have av:∀b,AvO A (some (.l c) :: some (.o c2) :: List.replicate n none) (start N [.ref a,.ref a2]) b->(A b\/b=a)\/b=a2:=fun b z=>by
  rcases z with z | ⟨i,w,d,e1,e2,e3⟩
  ·exact .inl (.inl z)
  ·rcases at' e1 with ⟨rfl,rfl⟩ | ⟨rfl,rfl⟩
   ·rw [s0] at e3;cases e3;exact .inl (.inr rfl)
   ·rw [s1] at e3;cases e3;exact .inr rfl
 refine ⟨fun b o e _=>by rw [<-hH];exact e,fun b z=>⟨by rw [hH];exact hA b z,fun i m=>?_⟩,by rw [es];simp,fun i w e=>?_,fun i j w w' d d' b e1 e2 e3 e4 e5 e6=>?_,fun i d b e e3=>?_,fun i d e=>?_,fun i b e=>?_,(fun p hp=>by cases hp),fun b _=>⟨0,a,zH⟩⟩
 ·rcases zS.mp m with m | m
  ·cases m;exact hn z
  ·rw [zU] at m;cases m;exact hn2 z
 ·rcases at' e with ⟨rfl,rfl⟩ | ⟨rfl,rfl⟩
  ·exact ⟨.ref a,s0,a,rfl,q5 (u5 av) rfl ob⟩
  ·exact ⟨.ref a2,s1,a2,rfl,q5 (u5 av) rfl ob2⟩
 ·rcases at' e1 with ⟨rfl,rfl⟩ | ⟨rfl,rfl⟩
  ·rcases at' e4 with ⟨rfl,rfl⟩ | ⟨rfl,rfl⟩
   ·rfl
   ·rw [s0] at e3;rw [s1] at e6;cases e3;cases e6;exact absurd rfl na
  ·rcases at' e4 with ⟨rfl,rfl⟩ | ⟨rfl,rfl⟩
   ·rw [s1] at e3;rw [s0] at e6;cases e3;cases e6;exact absurd rfl na
   ·rfl
 ·rcases at' e with ⟨rfl,z⟩ | ⟨rfl,z⟩
  ·cases z
  ·rw [s1] at e3;cases e3;unfold hz;rw [if_pos (zI _ zH)]
 ·rcases at' e with ⟨rfl,z⟩ | ⟨rfl,z⟩
  ·exact ⟨a,s0,zH⟩
  ·cases z
 ·rcases zS.mp e with e | e
  ·cases e;exact ⟨c,rfl,s0⟩
  ·rw [zU] at e;cases e
theorem b0g {X:Cx}{a a2:Addr}:hz X [(some 0,a),(none,a2)]=fun b=>if b=a2 then none else X.H₀ b:=funext fun b=>by
 unfold hz
 by_cases z:b=a2
 ·rw [if_pos z,if_pos (by rw [z];exact zI _ zH)]
 ·rw [if_neg z,if_neg fun m=>by
   rcases zS.mp m with m | m
   ·cases m
   ·rw [zU] at m;cases m;exact z rfl]
theorem b4d {x:Str}{st:Stmt}{f:Addr}{fd:FuncData}{N ps:List Str}{k n:Nat}{G:FS}(F:Fun K x x st f fd)(S:FnScope N ps (defScope st))(B:Binds K fd ps [])(hm:mg x=some (.ref f))(hp:ps.length=2)(hn:N.length=n + 2)
  (body:∀(cdv:Value) (A:Around) (outer:List Env) (s:Shared) (H:Hp) (E:XK),Room k (A.deeper (envOfC x (defScope st) s.heap.objs.size f cdv))->
   QSs (cxOf CX0 P w K mg base N x (defScope st) f cdv A outer s H E).nox (defBody st) G):FnG P w K mg base x (k + 1) (runG (n + 2) G):=by
 refine ⟨f,fd,ps,F.ok S (fun vs H Q E h0=>?_) (fun cdv A outer s H vs Q E hr h0=>⟨_,(body cdv A outer s H E hr).to,?_⟩),B,F.kp,hm⟩
 ·obtain ⟨A,a,a2,c,c2,w,c',e0,_⟩:=h0;rw [e0,hp];rfl
 ·obtain ⟨A',a,a2,c,c2,w,c',e0,hA,hna,hna2,na,ob,ob2,e,q⟩:=h0;subst e0;unfold runG at e;rw [Nat.add_sub_cancel] at e;cases e1:G (some (.l c) :: some (.o c2) :: List.replicate n none) with
  | none=>rw [e1] at e;cases e
  | some r=>
   rw [e1] at e;refine ⟨[],A',[(some 0,a),(none,a2)],_,r,a5v rfl hn hA hna hna2 na ob ob2,e1,?_⟩
   have ea:A0 A' [(some 0,a),(none,a2)]=fun b=>A' b\/b=a:=funext fun b=>propext (or_congr Iff.rfl (Iff.intro (fun ⟨i,z⟩=>(by
    rcases zS.mp z with z | z
    ·cases z;rfl
    ·rw [zU] at z;cases z)) fun z=>⟨0,by rw [z];exact zH⟩))
   have nl:∀{b:Addr},b≠a->b≠a2->∀i,(i,b)∉[((some 0:Option Nat),a),(none,a2)]:=fun n1 n2 i z=>by
    rcases zS.mp z with z | z
    ·cases z;exact n1 rfl
    ·rw [zU] at z;cases z;exact n2 rfl
   cases r with
   | rt w0 ρ'=>
    refine fun v H' s' ln d1=>?_;obtain ⟨c0,h1,h2⟩:=ln 0 a zH;simp only [h1,qZ] at e;cases e;rw [ea] at h2 d1;rw [b0g] at d1;exact q v H' (fun b o eb n1 n2=>s' b o eb (nl n1 n2)) h2 d1
   | nx ρ'=>
    refine fun σ' H' rp'=>?_;obtain ⟨c0,h1,h2⟩:=rp'.lents 0 a zH;simp only [h1,qZ] at e;cases e;rw [ea] at h2;exact q .non H' (fun b o eb n1 n2=>rp'.same b o eb (nl n1 n2)) h2 F5
   | bk ρ'=>cases e
   | ct ρ'=>cases e
end
section
variable {X:Cx}
theorem Y5:∀{ns:List Int} {its:List Value},Vals (ns.map V.int) its->IntsAre its ns
 | [],_,r=>by cases r;exact .nil
 | n :: ns,_,r=>by
  cases r with
  | cons r1 r2=>obtain ⟨t,rfl⟩:=r1;exact .cons n t (Y5 r2)
theorem a8k (hc:X.calm=true):CallR X (.builtin "max") (fun xs H Q=>∃(p:Addr) (ns:List Int),xs=[.ref p]/\SqL X.K H p (ns.map V.int)/\0 < ns.length/\∀M,M∈ns->(∀a∈ns,a<=M)->Q (.int M) H):=by
 intro pins s σ H xs us Q I r h;obtain ⟨p,ns,rfl,hq,hne,q⟩:=h;obtain ⟨u,rfl,ru⟩:=vals1 r;cases ru;obtain ⟨its,rv,⟨o,m,h1,h2,_,h4⟩,hz⟩:=I.list hq;have hl:s.heap.IsList p its.toArray:=⟨o,h1,h2,m,h4⟩;have hi:=Y5 rv;obtain ⟨xs,e⟩:=hi.allInts.items;have hns:ns=xs.toList.map (·.1):=by
  rw [<-hi.numsOf,<-nums_intItems,<-e]
 have hsz:0 < xs.size:=by
  have h3:=hne;rw [hns,zD,jB] at h3;exact h3
 rw [e] at hl;refine max_intList (I.ok.hd hc) hl hsz fun v h' tk hv hk=>?_;obtain ⟨t,rfl⟩:=intItems_at hv;obtain ⟨h1,h2⟩:=argBest_gt (numAt xs) (xs.size - 1);refine ⟨.int _,H,I.kept (t':=tk) fun b ob e=>hk b ob e,⟨t,rfl⟩,q _ ?_ fun a ha=>?_⟩
 ·rw [hns,numAt_eq];exact getD_mem (by rw [zD,jB];walk_at "o")
 ·rw [hns] at ha;obtain ⟨j,hj,rfl⟩:=mem_getD ha;rw [zD,jB] at hj;rw [<-numAt_eq];exact h2 j (by walk_at "o")
def maxI:List Int->Int
 | []=>0
 | a :: r=>r.foldl (fun m x=>if x > m then x else m) a
theorem a0z:∀(r:List Int) (a:Int),(r.foldl (fun m x=>if x > m then x else m) a=a\/r.foldl (fun m x=>if x > m then x else m) a∈r)/\a<=r.foldl (fun m x=>if x > m then x else m) a/\∀x∈r,x<=r.foldl (fun m x=>if x > m then x else m) a
 | [],a=>⟨.inl rfl,Int.le_refl _,fun x h=>by cases h⟩
 | b :: r,a=>by
  rw [List.foldl_cons];obtain ⟨h1,h2,h3⟩:=a0z r (if b > a then b else a);have e1:a<=(if b > a then b else a)/\b<=(if b > a then b else a):=by split <;> walk_at "o"
  refine ⟨?_,by walk_at "o",fun x hx=>?_⟩
  ·rcases h1 with h1 | h1
   ·by_cases h:b > a
    ·rw [if_pos h] at h1 ⊢;right;rw [h1];exact zH
    ·rw [if_neg h] at h1 ⊢;exact .inl h1
   ·exact .inr (zI _ h1)
  ·rcases zS.mp hx with rfl | hx
   ·walk_at "o"
   ·exact h3 x hx
theorem b1f {ns:List Int}{M:Int}(h:M∈ns)(hm:∀a∈ns,a<=M):M=maxI ns:=by
 cases ns with
 | nil=>cases h
 | cons a r=>
  obtain ⟨h1,h2,h3⟩:=a0z r a;have u1:M<=maxI (a :: r):=by
   rcases zS.mp h with rfl | h
   ·exact h2
   ·exact h3 M h
  have u2:maxI (a :: r)<=M:=by
   rcases h1 with h1 | h1
   ·show r.foldl _ a<=M;rw [h1];exact hm a zH
   ·exact hm _ (zI _ h1)
  walk_at "o"
def gMaxL:D->Option W
 | .lst xs=>(intsOf xs).bind fun ns=>if 0 < ns.length then some (.v (.int (maxI ns))) else none
 | _=>none
theorem b2a:PrA X (k1 gMaxL) (fun xs H Q=>∃(p:Addr) (ns:List Int),xs=[.ref p]/\SqL X.K H p (ns.map V.int)/\0 < ns.length/\∀M,M∈ns->(∀a∈ns,a<=M)->Q (.int M) H):=pr1 fun A d w v H Q e h q=>by
 cases d with
 | lst xs=>
  simp only [gMaxL] at e;obtain ⟨ns,e1,e⟩:=obs e;split at e
  ·rename_i hl;cases e;obtain ⟨a,vs,rfl,hq,l⟩:=h;rw [z8 e1] at l;rw [q9 l] at hq;refine ⟨a,ns,rfl,hq,hl,fun M h1 h2=>?_⟩;rw [b1f h1 h2];exact q _ H (Same.refl H) C4
  ·cases e
 | _=>cases e
theorem b4n {ns:List Int}(h:0 < ns.length):gMaxL (.lst (ns.map .int))=some (.v (.int (maxI ns))):=by unfold gMaxL;simp only [C7,bind_some,h,qQ]
end
theorem a6c {α β:Type}{f:α->Option β}{g:α->β}:∀(l:List α),(∀x∈l,f x=some (g x))->l.filterMap f=l.map g
 | [],_=>rfl
 | x :: l,h=>by rw [filterMap_cons,h x zH,zK];dsimp only;rw [a6c l fun y hy=>h y (zI _ hy)]
theorem a8y (xs:Array Value):((List.range xs.size).filterMap fun (m:Nat)=>xs[((xs.size:Int) - 1 + (m:Int) * -1).toNat]?).toArray=xs.toList.reverse.toArray:=by
 congr 1;apply xT;intro i;have e:(List.range xs.size).filterMap (fun (m:Nat)=>xs[((xs.size:Int) - 1 + (m:Int) * -1).toNat]?)=(List.range xs.size).map (fun m=>xs.getD (xs.size - 1 - m) .none):=by
  refine a6c _ fun m hm=>?_;have hm':m < xs.size:=by simpa using hm
  have e1:((xs.size:Int) - 1 + (m:Int) * -1).toNat=xs.size - 1 - m:=by walk_at "o"
  have e2:xs.size - 1 - m < xs.size:=by walk_at "o"
  rw [e1];simp [Array.getD,e2]
 rw [e]
 by_cases h:i < xs.size
 ·have e2:xs.size - 1 - i < xs.size:=by walk_at "o"
  rw [qA,xR h,List.getElem?_reverse (by simpa using h)]
  simp [Array.getD,e2]
 ·rw [jI (by simp;walk_at "o"),jI (by simp;walk_at "o")]
theorem a8n (items:List Value):slicePick items.toArray none none (some (-1))=items.reverse.toArray:=by
 have e:sliceBounds none none (some (-1)) items.toArray.size=((items.toArray.size:Int) - 1,-1,-1):=rfl;have e2:sliceRange ((items.toArray.size:Int) - 1) (-1) (-1)=(List.range items.toArray.size).map fun (k:Nat)=>((items.toArray.size:Int) - 1 + (k:Int) * -1).toNat:=by
  unfold sliceRange;simp only [];rw [if_neg (by decide)]
  have c:(if (items.toArray.size:Int) - 1 > -1 then ((items.toArray.size:Int) - 1 - -1 - -1 - 1) / (- -1) else 0)=(items.toArray.size:Int):=by
   rw [show (- -1:Int)=1 from rfl,Int.ediv_one]
   split <;> walk_at "o"
  rw [c,qM];exact jE fun k _=>by rw [Int.mul_comm]
 have p:=a8y items.toArray;unfold slicePick;rw [e,e2,List.filterMap_map];exact p
section
variable {X:Cx}{a e:Expr}{pos:Pos}{f:FX}
def fRevL (f:FX):FX:=fun ρ=>(f ρ).bind fun p=>(dr p.2 p.1.fz).bind fun d=>match d with
 | .lst xs=>some (.o (.lst xs.reverse),p.2)
 | _=>none
theorem b1F {p1 p2 p3:Pos}{j:Nat}(ha:QX X a f):QX X (.Subscript a (.Slice none none (some (.UnaryOp .USub (.Constant (.int 1) j p1) p2)) p3) pos) (fRevL f):=by
 refine ⟨fun pins s σ H Q I h0=>tXe h0 fun P O L ρ w ρ' rp e q=>?_⟩;unfold fRevL at e;obtain ⟨⟨w1,ρ1⟩,e1,e⟩:=obs e;dsimp only at e;cases e2:dr ρ1 w1.fz with
 | none=>rw [e2] at e;cases e
 | some x=>
  rw [e2] at e;simp only [bind_some] at e;cases x <;> simp only at e <;> try cases e
  rename_i xs;refine Subscript_ (zG (ha.to pins s σ H (fun v H1=>∃P',Rep X P' O L ρ' σ H1/\∀H2,Rep X P' O L ρ' σ H2->Rep X P O L ρ' σ H2/\DenR X.K (AvO O ρ' σ) H2 (.lst xs) v) I ⟨P,O,L,ρ,w1,ρ',rp,e1,fun v H1 H1' r1 s1 d1=>?_⟩) (fun v s1 ⟨x,H1,I1,r1,P',rp1,kp⟩=>?_) fun _ _ z=>z)
  ·have r1g:=r1.grow s1;obtain ⟨P',r1',k1⟩:=hold r1g (d1.fz r1 s1);exact ⟨P',r1',fun H2 r2=>by obtain ⟨r3,d3⟩:=k1 _ H2 r2;exact ⟨r3,G6 r3 e2 d3⟩⟩
  refine wpAny_Slice ?_;rw [evalPart_none];refine zC (zC ?_);rw [evalPart_some];have z:=((P4 (X:=X) (a8 (X:=X) (i:=1) (j:=j) (pos:=p1))):QX X (.UnaryOp .USub (.Constant (.int 1) j p1) p2) _).to pins s1 σ H1 (fun v H2=>v= .int (-1)/\Rep X P' O L ρ' σ H2) I1 ⟨P',O,L,ρ',.v (.int (-1)),ρ',rp1,rfl,fun v H2 H2' r2 s2 d2=>⟨u7.mp (show Den X.K (AvO O ρ' σ) H2' (.int (-1)) v from d2),r2.grow s2⟩⟩;refine zG z (fun vu s3 ⟨y,H3,I3,r3,ey,rp3⟩=>?_) fun _ _ z=>z;subst ey;obtain ⟨t,rfl⟩:=r3;have I4:Inv X pins σ H3 {s3 with heap:=s3.heap.push {cls:=.type "slice",data:=.fields #[.none,.none,.int (-1) t]}}:=I3.kept (t':=s3.toks) fun b ob q=>zF _ q
  obtain ⟨rp4,dx⟩:=kp H3 rp3;obtain ⟨p,vs,ev,hq,la⟩:=dx;subst ev;cases r1;obtain ⟨its,r,ht,hz⟩:=I4.list hq;have hlen:=r.length;show wpAny (model X.prog X.w) X.A (subscriptTail a (.Slice none none (some (.UnaryOp .USub (.Constant (.int 1) j p1) p2)) p3) (.ref p) (.ref s3.heap.objs.size)) (EP X pins σ Q) X.xe {s3 with heap:=s3.heap.push {cls:=.type "slice",data:=.fields #[.none,.none,.int (-1) t]}}
  refine tail_any (ops:=[.ref p,.ref s3.heap.objs.size]) ht.isList.typeIs slot_list_getitem.lookup ?_ (by with_unfolding_all rfl)
  refine wpAny_getItem_list_slice ht.isList (Heap.IsSliceOf.new ..) .none .none (.int (-1) t) (fun z=>by cases z) ?_ (by rw [zR];walk_at "o")
  rw [a8n];have fr:=I4.hok.fresh (zE _);refine ⟨.ref _,_,I4.laid (t':=s3.toks) (o:=.lst vs.reverse) (fun b ob q=>zF _ q) (zE _) ?_,rfl,q _ H3 _ rp4 (j6 fr _) (w8 fr (a4E la))⟩;exact ⟨by rw [List.length_reverse];exact hz,_,0,r.reverse,qB _ rfl⟩
end
section
variable {i:Nat}{g:D->D->Option (W×D)}{f:FX}{ρ:Ev}{d c:D}{w:W}{x:Option (W×Ev)}{n:Nat}{G:FS}
def dg4 (i:Nat) (ρ:Ev):Option (W×D)->Option (W×Ev)
 | some z=>if lfW z.1=true/\lfC z.2=true then some (z.1,setOwn ρ i z.2) else none
 | none=>none
def dg3 (i:Nat) (g:D->D->Option (W×D)) (d:D) (ρ:Ev):Option D->Option (W×Ev)
 | some c=>dg4 i ρ (g c d)
 | none=>none
def dg2 (i:Nat) (g:D->D->Option (W×D)):Option (W×Ev)->Option (W×Ev)
 | some (.o d,ρ)=>dg3 i g d ρ (ownAt ρ i)
 | _=>none
def dg1 (i:Nat) (g:D->D->Option (W×D)) (x:Option (W×Ev)):Option D->Option (W×Ev)
 | some _=>dg2 i g x
 | none=>none
theorem r_dg:fDefG i g f ρ=dg1 i g (f ρ) (ownAt ρ i):=by
 unfold fDefG dg1;cases ownAt ρ i with
 | none=>rfl
 | some c0=>
  simp only [bind_some];unfold dg2;cases f ρ with
  | none=>rfl
  | some p=>
   obtain ⟨w,ρ1⟩:=p;cases w with
   | o d=>
    simp only [bind_some];unfold dg3;cases ownAt ρ1 i with
    | none=>rfl
    | some c=>simp only [bind_some];unfold dg4;cases g c d <;> rfl
   | _=>rfl
theorem r_dg1:dg1 i g x (some c)=dg2 i g x:=rfl
theorem r_dg2:dg2 i g (some (.o d,ρ))=dg3 i g d ρ (ownAt ρ i):=rfl
theorem r_dg3:dg3 i g d ρ (some c)=dg4 i ρ (g c d):=rfl
theorem r_dg4:dg4 i ρ (some (w,d))=if lfW w=true/\lfC d=true then some (w,setOwn ρ i d) else none:=rfl
theorem b3X:runG n G c d=runLO (G (some (.l c) :: some (.o d) :: List.replicate (n - 2) none)):=by
 unfold runG runLO;cases G (some (.l c) :: some (.o d) :: List.replicate (n - 2) none) with
 | none=>rfl
 | some r=>cases r <;> rfl
def rvL:Option (W×Ev)->Option (W×Ev)
 | some p=>(dr p.2 p.1.fz).bind fun d=>match d with
  | .lst xs=>some (.o (.lst xs.reverse),p.2)
  | _=>none
 | none=>none
def rvL2 (ρ:Ev):Option D->Option (W×Ev)
 | some (.lst xs)=>some (.o (.lst xs.reverse),ρ)
 | _=>none
theorem r_rvL:fRevL f ρ=rvL (f ρ):=by unfold fRevL rvL;cases f ρ <;> rfl
theorem b32:rvL (some (w,ρ))=rvL2 ρ (dr ρ w.fz):=by
 unfold rvL rvL2;dsimp only;cases dr ρ w.fz with
 | none=>rfl
 | some d=>cases d <;> rfl
theorem b3R {xs:List D}:rvL2 ρ (some (.lst xs))=some (.o (.lst xs.reverse),ρ):=rfl
end
end Z
local macro_rules | `(tactic| walk_at "z r") => `(tactic| simp only [Z.lim, Z.r_nt, Z.b3n, Z.r_fn, Z.b0P, Z.a8P, Z.b3a, Z.a48, Z.b0R, Z.a8T, Z.nb_f, Z.r_ge, Z.b2E, Z.a7s, Z.b3A, Z.b3g, Z.b2l, Z.b2S, Z.b2U, Z.a2R, Z.a2W, Z.r_td, Z.b3t, Z.b2Z, Z.b2W, Z.b2Y, Z.b20, Z.ix_0, Z.it_t, Z.it_l, Z.r_ie, Z.b2y, Z.a7A, Z.r_r1, Z.b2A, Z.r_r2, Z.b3x, Z.r_lr, Z.b3w, Z.r_tc, Z.b2O, Z.a7x, Z.b3m, Z.b3b, Z.b3i, Z.b3v, Z.a6t, Z.a6w, Z.a7B, Z.r_c, Z.a8G, Z.b0L, Z.a6H, Z.a7r, Z.a92, Z.a8N, Z.a9M, Z.a7q, Z.a67, Z.a8Z, Z.b2x, Z.a9h, Z.b0q, Z.a9y, Z.b00, Z.r_un, Z.b2D, Z.b2I, Z.a2k, Z.a9T, Z.a9q, Z.a8U, Z.a4w, Z.a2X, Z.b3f, Z.a9s, Z.b3y, Z.r_or, Z.a7y, Z.b09, Z.a8L, Z.b0d, Z.b2K, Z.r_if, Z.a4X, Z.a4U, Z.a7n, Z.a6O, Z.a95, Z.a89, Z.b2T, Z.a9O, Z.a6v, Z.a6Y, Z.a7f, Z.a6A, Z.a7d, Z.a8A, Z.b0y, Z.b0o, Z.b2u, Z.b2s, Z.a7h, Z.a7v, Z.a8F, Z.a6C, Z.a63, Z.r_k1, Z.r_k2, Z.b2k, Z.a9B, Z.b0w, Z.a97, Z.r_dl, Z.b2J, Z.b22, Z.b2t, Z.r_sl, Z.b2N, Z.b2G, Z.b3B, Z.b2o, Z.a9X, Z.r_o0, Z.r_o1, Z.b2m, Z.b0h, Z.a2P, Z.a2K, Z.b2v, Z.a6s, Z.a6y, Z.a7p, Z.a41, Z.r_ifS, Z.a65, Z.a69, Z.b23, Z.a6B, Z.a6D, Z.r_ag, Z.b2R, Z.b2Q, Z.b3o, Z.a6J, Z.a99, Z.a6a, Z.b3q, Z.a9w, Z.r_gs, Z.b3k, Z.b3c, Z.b3r, Z.a9e, Z.a6F, Z.b3u, Z.b0Y, Z.b0T, Z.r_is, Z.b26, Z.a9l, Z.a9F, Z.b3j, Z.b0v, Z.a9v, Z.a64, Z.r_mu, Z.b3l, Z.b29, Z.b2C, Z.b3h, Z.b28, Z.b25, Z.b2p, Z.a5a, Z.a9L, Z.a3f, Z.o_i0, Z.o_i, Z.a7e, Z.a6h, Z.b2w, Z.b0k, Z.a82, Z.b0Z, Z.a7E, Z.a6e, Z.b21, Z.b2B, Z.a2E, Z.o_d2, Z.a_0, Z.a_1, Z.b24, Z.b2n, Z.a6x, Z.b0a, Z.a1I, Z.a6G, Z.a6X, Z.b0B, Z.a83, Z.a2H, Z.b2q, Z.b2L, Z.a9R, Z.a9K, Z.a8J, Z.b2j, Z.b2V, Z.W.own, Z.start0, Z.deq, Z.flatE, Z.isD, Z.lf, Z.lfL, Z.noR, Z.frzL, qI, jP, zK, map_nil, List.replicate, yE, nil_append, cons_append, yB, qP, List.set_cons_zero, List.set_cons_succ, bind_some, qZ, Option.map_none, qQ, jW, qX, Nat.zero_add, Nat.reduceAdd, Nat.reduceSub, xB, Nat.add_one_sub_one, and_self, and_true, true_and, Bool.and_self, Bool.and_true, Bool.true_and, Bool.not_true, Bool.not_false, Bool.false_and, reduceIte, ite_self, decide_true, decide_false, Nat.reduceEqDiff, Nat.reduceLeDiff, beq_self_eq_true, isEmpty_nil])
local macro_rules | `(tactic| walk_at "q") => `(tactic| repeat (first | walk_at "z r"))
local macro_rules | `(tactic| walk_at "z i") => `(tactic| simp only [Z.lim, Z.r_nt, Z.b3n, Z.r_fn, Z.b0P, Z.a8P, Z.b3a, Z.a48, Z.b0R, Z.a8T, Z.nb_f, Z.r_ge, Z.b2E, Z.a7s, Z.b3A, Z.b3g, Z.b2l, Z.b2S, Z.b2U, Z.a2R, Z.a2W, Z.r_td, Z.b3t, Z.b2Z, Z.b2W, Z.b2Y, Z.b20, Z.ix_0, Z.it_t, Z.it_l, Z.r_ie, Z.b2y, Z.a7A, Z.r_r1, Z.b2A, Z.r_r2, Z.b3x, Z.r_lr, Z.b3w, Z.r_tc, Z.b2O, Z.a7x, Z.b3m, Z.b3b, Z.b3i, Z.b3v, Z.a6t, Z.a6w, Z.a7B, Z.r_c, Z.a8G, Z.b0L, Z.a6H, Z.a7r, Z.a92, Z.a8N, Z.a9M, Z.a7q, Z.a67, Z.a8Z, Z.b2x, Z.a9h, Z.b0q, Z.a9y, Z.b00, Z.r_un, Z.b2D, Z.b2I, Z.a2k, Z.a9T, Z.a9q, Z.a8U, Z.a4w, Z.a2X, Z.b3f, Z.a9s, Z.b3y, Z.r_or, Z.a7y, Z.b09, Z.a8L, Z.b0d, Z.b2K, Z.r_if, Z.a4X, Z.a4U, Z.a7n, Z.a6O, Z.a95, Z.a89, Z.b2T, Z.a9O, Z.a6v, Z.a6Y, Z.a7f, Z.a6A, Z.a7d, Z.a8A, Z.b0y, Z.b0o, Z.b2u, Z.b2s, Z.a7h, Z.a7v, Z.a8F, Z.a6C, Z.a63, Z.r_k1, Z.r_k2, Z.b2k, Z.a9B, Z.b0w, Z.a97, Z.r_dl, Z.b2J, Z.b22, Z.b2t, Z.r_sl, Z.b2N, Z.b2G, Z.b3B, Z.b2o, Z.a9X, Z.r_o0, Z.r_o1, Z.b2m, Z.b0h, Z.a2P, Z.a2K, Z.b2v, Z.a6s, Z.a6y, Z.a7p, Z.a41, Z.a65, Z.a69, Z.b23, Z.a6B, Z.a6D, Z.r_ag, Z.b2R, Z.b2Q, Z.b3o, Z.a6J, Z.a99, Z.a6a, Z.b3q, Z.a9w, Z.r_gs, Z.b3k, Z.b3c, Z.b3r, Z.a9e, Z.a6F, Z.b3u, Z.b0Y, Z.b0T, Z.r_is, Z.b26, Z.a9l, Z.a9F, Z.b3j, Z.b0v, Z.a9v, Z.a64, Z.r_mu, Z.b3l, Z.b29, Z.b2C, Z.b3h, Z.b28, Z.b25, Z.b2p, Z.a5a, Z.a9L, Z.a3f, Z.o_i0, Z.o_i, Z.a7e, Z.a6h, Z.b2w, Z.b0k, Z.a82, Z.b0Z, Z.a7E, Z.a6e, Z.b21, Z.b2B, Z.a2E, Z.o_d2, Z.a_0, Z.a_1, Z.b24, Z.b2n, Z.a6x, Z.b0a, Z.a1I, Z.a6G, Z.a6X, Z.b0B, Z.a83, Z.a2H, Z.b2q, Z.b2L, Z.a9R, Z.a9K, Z.a8J, Z.b2j, Z.b2V, Z.W.own, Z.start0, Z.deq, Z.flatE, Z.isD, Z.lf, Z.lfL, Z.noR, Z.frzL, qI, jP, zK, map_nil, List.replicate, yE, nil_append, cons_append, yB, qP, List.set_cons_zero, List.set_cons_succ, bind_some, qZ, Option.map_none, qQ, jW, qX, Nat.zero_add, Nat.reduceAdd, Nat.reduceSub, xB, Nat.add_one_sub_one, and_self, and_true, true_and, Bool.and_self, Bool.and_true, Bool.true_and, Bool.not_true, Bool.not_false, Bool.false_and, reduceIte, ite_self, decide_true, decide_false, Nat.reduceEqDiff, Nat.reduceLeDiff, beq_self_eq_true, isEmpty_nil])
set_option maxHeartbeats 1500000
namespace Q27
open PySem L2 Z
abbrev LO:=List D->Option W
abbrev LL:=D->List D->Option (W×D)
local macro_rules | `(tactic| walk_at "c") => `(tactic| exact ⟨rfl, rfl, rfl, by decide +kernel, rfl, by decide +kernel, by decide +kernel⟩)
def top (i:Nat):Stmt:=PySem.Challenge.pw_twainhoard_k27_covers_known.main.body.getD i (.Pass ⟨0,0,0,0⟩)
section
variable {P:Program}{w:World}{K:PySem.W.Frag}{mg:Str->Option Value}{base:Heap}{f:Addr}{fd:FuncData}{k:Nat}
abbrev a0p (mg:Str->Option Value) (K:PySem.W.Frag):Prop:=GlT mg K "NOUGHT" [0,1]
abbrev V5:Stmt:=top 1
theorem a1j:FnScope ["thing"] ["thing"] (defScope V5):=by walk_at "c"
def W9 (g:LO):Prop:=∀d:D,isX d=false->g [d]=some (.v (.bl (whole d)))
theorem a4V (c8:mg "isinstance"=none)(m_int:mg "int"=none)(N9:mg "bool"=none)(F:Fun K "is_whole" "is_whole" V5 f fd)(B:Binds K fd ["thing"] [])(hm:mg "is_whole"=some (.ref f)):∃g,Fn P w K mg base "is_whole" (k + 1) g/\W9 g:=by
 have nd:=a1j.nd;refine ⟨_,n4 F a1j B hm rfl rfl (fun cdv A outer s H E hr=>(b5 (c9 (C8 (O1 (T:="int") (N2 (by decide)) c8 m_int (a6 0)) (A9 (a1n (O1 (T:="bool") (N2 (by decide)) c8 N9 (a6 0)))))))),?_⟩
 intro d hd;have i1:=a9r hd;have i2:=a3u hd;cases d with
 | exn C=>cases hd
 | _=>repeat (first | walk_at "z r" | simp only [i1,i2,isI,isB,whole])
abbrev a0M:Stmt:=top 8
theorem a1D:FnScope ["web","people","ties"] ["web"] (defScope a0M):=by walk_at "c"
def T5 (g:LO):Prop:=∀(n:Int) (ts:List Tie),WebOk n ts->g [webD n ts]=some (.o (.lst ((sortK (parK n ts)).map tupI)))
def one1:D->D
 | .int i=>.tup [.int i]
 | d=>d
def cut2:D->D
 | .tup [a,b,_]=>.tup [a,b]
 | d=>d
theorem b3W {a b c:D}:cutD [a,b,c] none (some 2)=[a,b]:=rfl
theorem a9Q (n:Int)(ts:List Tie):((rngD 0 n.toNat).filter fun _=>true).map one1 ++ ((ts.map tieD).filter fun _=>true).map cut2=(parK n ts).map tupI:=by
 rw [m4,m4];unfold parK rngD;rw [qF,qG,qG,qG,qG];congr 1;apply jE;intro i _;show D.tup [.int (0 + (i:Int))]=D.tup [.int (i:Int)];rw [Int.zero_add]
theorem a51 (M3:mg "sorted"=none)(j0:mg "range"=none)(F:Fun K "parties" "parties" a0M f fd)(B:Binds K fd ["web"] [])(hm:mg "parties"=some (.ref f)):∃g,Fn P w K mg base "parties" (k + 1) g/\T5 g:=by
 have nd:=a1D.nd
 refine ⟨_,n4 F a1D B hm rfl rfl (fun cdv A outer s H E hr=>(b4 (A8 (a6 0) (E1 rfl (g7 (c6 1 nd) (g7 (c6 2 nd) A5))))
  (b5 (c9 (a2y hr rfl M3 (a7 (k7 (w6 (N:=["person"]) (js:=[none]) (li:=none) rfl (A2 (by exact (.own .nil)) rfl (by exact trivial) (by rfl)) (X0 (a05 j0 (a7 (a6 1) a9))) (fun _ _ _ _=>(c6 0 (show ((["person"]:List Str) ++ [accN]).Nodup by decide +kernel))) (fun _ _ _ _=>w5) (fun _ _ _ _=>(m9 (a7 (a6 0) a9)))) (w6 (N:=["tie"]) (js:=[none]) (li:=none) rfl (A2 (by exact (.own .nil)) rfl (by exact trivial) (by rfl)) (B9 2) (fun _ _ _ _=>(c6 0 (show ((["tie"]:List Str) ++ [accN]).Nodup by decide +kernel))) (fun _ _ _ _=>w5) (fun _ _ _ _=>(a9x (a6 0) b1N (b11 a8))))) a9)))))),?_⟩
 intro n ts hw;have hn:=hw.n1;have hl:=hw.len;obtain ⟨pl,pne⟩:=Y3 hw;have r1:(-(2 ^ 62:Int)<=n/\n < 2 ^ 62):=by walk_at "o"
 have so:=a1b (ks:=parK n ts) (by walk_at "o") pne
 have pq:=a9Q n ts;have ll:(((rngD 0 n.toNat).filter fun _=>true).map one1).length + (((ts.map tieD).filter fun _=>true).map cut2).length<=1000000:=by
  rw [m4,m4,zD,zD,zD,U0];walk_at "o"
 unfold webD;walk_at "q";rw [t6 (ρ1:=[some (.v (.tup [.int n,.tup (ts.map tieD)])),some (.v (.int n)),some (.v (.tup (ts.map tieD)))]) (xs:=rngD 0 n.toNat) (fun B=>∃o1:Option D,B=[o1.map .v]) (fun _=>true) one1]
 ·walk_at "q";rw [t6 (ρ1:=[some (.v (.tup [.int n,.tup (ts.map tieD)])),some (.v (.int n)),some (.v (.tup (ts.map tieD)))]) (xs:=ts.map tieD) (fun B=>∃o1:Option D,B=[o1.map .v]) (fun _=>true) cut2]
  ·repeat (first | walk_at "z r" | simp only [ll,pq,so])
  ·walk_at "q"
  ·rintro _ ⟨_,rfl⟩;rfl
  ·exact ⟨none,rfl⟩
  ·rw [zD];unfold lim;walk_at "o"
  ·refine w4 fun y hy=>?_;obtain ⟨x,hx,rfl⟩:=zW.mp hy;obtain ⟨t,_,rfl⟩:=zW.mp (qW.mp hx).1;rfl
  ·rintro x hx _ zs ⟨o1,rfl⟩;obtain ⟨⟨a,b,c⟩,ha,rfl⟩:=zW.mp hx;refine ⟨[some (.v (tieD (a,b,c)))],.v (.tup [.int a,.int b]),⟨some _,rfl⟩,?_,rfl,fun _=>⟨?_,.inl rfl⟩⟩
   ·walk_at "q"
   ·unfold tieD
    repeat (first | walk_at "z r" | simp only [b3W])
 ·repeat (first | walk_at "z r" | simp only [r1])
 ·rintro _ ⟨_,rfl⟩;rfl
 ·exact ⟨none,rfl⟩
 ·rw [U0];unfold lim;walk_at "o"
 ·refine w4 fun y hy=>?_;obtain ⟨x,hx,rfl⟩:=zW.mp hy;obtain ⟨i,rfl,_⟩:=T0 (qW.mp hx).1;rfl
 ·rintro x hx _ zs ⟨o1,rfl⟩;obtain ⟨i,rfl,_⟩:=T0 hx;refine ⟨[some (.v (.int i))],.v (.tup [.int i]),⟨some _,rfl⟩,?_,rfl,fun _=>⟨?_,.inl rfl⟩⟩
  ·walk_at "q"
  ·walk_at "q"
abbrev W4:Stmt:=top 9
theorem a09:FnScope ["web","thing"] ["web","thing"] (defScope W4):=by walk_at "c"
theorem a5P (xs:List D):gBools (fun bs=>bs.all id) (.lst (xs.map fun _=>D.bl true))=some (.v (.bl true)):=by
 have gb:=b02 (r:=fun bs=>bs.all id) (a07 (fun _=>true) xs)
 rwa [a14,show (xs.all fun _=>true)=true by simp] at gb
def a1A (g:LO):Prop:=∀(n:Int) (ts:List Tie) (k:List Int),WebOk n ts->k∈parK n ts->g [webD n ts,tupI k]=some (.v (.bl true))
theorem a46 {z9:LO}{B0:LO}(z7:Fn P w K mg base "parties" k z9)(A1:T5 z9)(B4:Fn P w K mg base "is_whole" k B0)(A7:W9 B0)(c8:mg "isinstance"=none)(j9:mg "tuple"=none)(m_all:mg "all"=none)(F:Fun K "is_party" "is_party" W4 f fd)(B:Binds K fd ["web","thing"] [])(hm:mg "is_party"=some (.ref f)):∃g,Fn P w K mg base "is_party" (k + 1) g/\a1A g:=by
 have nd:=a09.nd;refine ⟨_,n4 F a09 B hm rfl rfl (fun cdv A outer s H E hr=>(b5 (c9 (C8 (O1 (T:="tuple") (N2 (by decide)) c8 j9 (a6 1)) (C8 (qx_b (L9 rfl) R7 m_all (a7 (w6 (N:=["one"]) (js:=[none]) (li:=none) rfl (A2 (by exact (.own .nil)) rfl (by exact trivial) (by rfl)) (B9 1) (fun _ _ _ _=>(c6 0 (show ((["one"]:List Str) ++ [accN]).Nodup by decide +kernel))) (fun _ _ _ _=>w5) (fun _ _ _ _=>(g5 B4 hr (a7 (a6 0) a9)))) a9)) (A9 (b4w hr (a6 1) (g5 z7 hr (a7 (a6 0) a9))))))))),?_⟩
 intro n ts k hw hk;have ep:=A1 n ts hw;have it:oIsi "tuple" (.tup (k.map .int))=some (.v (.bl true)):=Y9 (d:=.tup (k.map .int)) rfl;have lt:=D2 (sortK (parK n ts));have kl:=(P7 hw hk).2;have tl:=b1q (b:=false) (C7 k) (X8 (sortK (parK n ts)));rw [qE ((m5 _).mem_iff.mpr hk)] at tl;rw [show tupI k= .tup (k.map .int) from rfl]
 repeat (first | walk_at "z r" | simp only [it])
 rw [t6 (ρ1:=[some (.v (webD n ts)),some (.v (.tup (k.map .int)))]) (xs:=k.map .int) (fun B=>∃o1:Option D,B=[o1.map .v]) (fun _=>true) (fun _=>.bl true)]
 ·rw [m4];have gb:=a5P (k.map D.int)
  repeat (first | walk_at "z r" | simp only [gb,ep,lt,tl])
 ·walk_at "q"
 ·rintro _ ⟨_,rfl⟩;rfl
 ·exact ⟨none,rfl⟩
 ·rw [zD];unfold lim;walk_at "o"
 ·exact a2j _ _
 ·rintro x hx' _ zs ⟨o1,rfl⟩;obtain ⟨i,_,rfl⟩:=Q2 hx';have ew:B0 [.int i]=some (.v (.bl true)):=A7 (.int i) rfl;refine ⟨[some (.v (.int i))],.v (.bl true),⟨some _,rfl⟩,?_,rfl,fun _=>⟨?_,.inl rfl⟩⟩
  ·walk_at "q"
  ·repeat (first | walk_at "z r" | simp only [ew])
abbrev a4f:Stmt:=top 10
theorem a4y:FnScope ["web"] ["web"] (defScope a4f):=by walk_at "c"
def a3X (g:LO):Prop:=∀(n:Int) (ts:List Tie),WebOk n ts->g [webD n ts]=some (.o (.dT (ts.map tkK) (ts.map fun t=>.int t.2.2)))
def keyT:D->List Key
 | .tup [.int a,.int b,.int _]=>[Sum.inl a,Sum.inl b]
 | _=>[]
def valT:D->D
 | .tup [_,_,c]=>c
 | d=>d
theorem a5k (ts:List Tie):(ts.map tieD).map keyT=ts.map tkK:=by rw [qG];rfl
theorem a4r (ts:List Tie):(ts.map tieD).map valT=ts.map fun t=>D.int t.2.2:=by rw [qG];rfl
theorem b05 (F:Fun K "gains" "gains" a4f f fd)(B:Binds K fd ["web"] [])(hm:mg "gains"=some (.ref f)):∃g,Fn P w K mg base "gains" (k + 1) g/\a3X g:=by
 have nd:=a4y.nd;refine ⟨_,n4 F a4y B hm rfl rfl (fun cdv A outer s H E hr=>(b5 (c9 (a84 (N:=["one","other","gain"]) (js:=[none,none,none]) (li:=none) 2 hr rfl (A2 (by exact (.own (.own (.own .nil)))) rfl (by exact trivial) (by rfl)) (K2 (b7 hr (a6 0) a8)) (fun _ _ _ _=>(E1 rfl (g7 (c6 0 (show ((["one","other","gain"]:List Str) ++ [accN]).Nodup by decide +kernel)) (g7 (c6 1 (show ((["one","other","gain"]:List Str) ++ [accN]).Nodup by decide +kernel)) (g7 (c6 2 (show ((["one","other","gain"]:List Str) ++ [accN]).Nodup by decide +kernel)) A5))))) (fun _ _ _ _=>w5) (fun _ _ _ _=>(a7 (a6 0) (a7 (a6 1) a9))) (fun _ _ _ _=>b1r 2))))),?_⟩
 intro n ts hw;have hl:=hw.len;unfold webD;walk_at "q";rw [a7G (ρ1:=[some (.v (.tup [.int n,.tup (ts.map tieD)]))]) (xs:=ts.map tieD) (fun B=>∃o1 o2 o3:Option D,B=[o1.map .v,o2.map .v,o3.map .v]) keyT valT]
 ·rw [a5k,a4r];walk_at "q"
 ·walk_at "q"
 ·rintro _ ⟨_,_,_,rfl⟩;rfl
 ·exact ⟨none,none,none,rfl⟩
 ·rw [zD];unfold lim;walk_at "o"
 ·rw [a4r];refine w4 fun y hy=>?_;obtain ⟨x,hx,rfl⟩:=zW.mp hy;rfl
 ·rw [a5k];exact b0X hw
 ·rintro x hx _ ks zs ⟨o1,o2,o3,rfl⟩ hk;obtain ⟨⟨a,b,c⟩,ha,rfl⟩:=zW.mp hx;unfold lim at hk;refine ⟨[some (.v (.int a)),some (.v (.int b)),some (.v (.int c))],⟨some _,some _,some _,rfl⟩,?_⟩;rw [show tieD (a,b,c)= .tup [.int a,.int b,.int c] from rfl]
  repeat (first | walk_at "z r" | simp only [hk])
  rfl
abbrev a0R:Stmt:=top 11
theorem a2q:FnScope ["web","party"] ["web","party"] (defScope a0R):=by walk_at "c"
def a2A (g:LO):Prop:=∀(n:Int) (ts:List Tie) (k:List Int),WebOk n ts->k∈parK n ts->g [webD n ts,tupI k]=some (.v (.int (gainOf ts k)))
theorem a5r {X2:LO}{T6:LO}(V6:Fn P w K mg base "is_party" k X2)(W7:a1A X2)(S9:Fn P w K mg base "gains" k T6)(S8:a3X T6)(F:Fun K "gain_of" "gain_of" a0R f fd)(B:Binds K fd ["web","party"] [])(hm:mg "gain_of"=some (.ref f)):∃g,Fn P w K mg base "gain_of" (k + 1) g/\a2A g:=by
 have nd:=a2q.nd
 refine ⟨_,n4 F a2q B hm rfl rfl (fun cdv A outer s H E hr=>(b4 (n5 (G5 (C0 (g5 V6 hr (a7 (a6 0) (a7 (a6 1) a9))))) (b5 a5g) j7)
  (b5 (c9 (a5y hr (g5 S9 hr (a7 (a6 0) a9)) (a7 (a6 1) (a7 a8 a9))))))),?_⟩
 intro n ts k hw hk;have ki:=W7 n ts k hw hk;have eg:=S8 n ts hw;have lf1:lfL (ts.map fun t=>D.int t.2.2)=true:=w4 fun y hy=>by obtain ⟨x,hx,rfl⟩:=zW.mp hy;rfl
 have g6:∀ρ,ge6 (tupI k) (.int 0) ρ (some (.dT (ts.map tkK) (ts.map fun t=>D.int t.2.2)))=some (.v (.int (gainOf ts k)),ρ):=fun ρ=>by rw [a7m (a66 k),a0A]
 repeat (first | walk_at "z r" | simp only [ki,eg,lf1,g6])
abbrev C6:Stmt:=top 14
theorem J0:FnScope ["one","other"] ["one","other"] (defScope C6):=by walk_at "c"
def C5 (g:LO):Prop:=∀a b:Int,0<=a->0<=b->g [.int a,.int b]=some (.v (.int (Int.gcd a b:Nat)))
theorem a0i (F:Fun K "common_divisor" "common_divisor" C6 f fd)(B:Binds K fd ["one","other"] [])(hm:mg "common_divisor"=some (.ref f)):∃g,Fn P w K mg base "common_divisor" (k + 1) g/\C5 g:=by
 have nd:=J0.nd
 refine ⟨_,n4 F J0 B hm rfl rfl (fun cdv A outer s H E hr=>(b4 (Z3 zX (b3p (a6 1) a8) (b5 (a4b 0 1 rfl nd (a7 (a6 1) (a7 (K9 (a6 0) (a6 1)) a9)) rfl)))
  (b5 (c9 (a6 0))))),?_⟩
 intro a b ha hb;have l:=a4W (i:=0) (j:=1) (ρ:=[some (.v (.int a)),some (.v (.int b))]) (by decide) ha hb rfl rfl
 repeat (first | walk_at "z r" | rw [l])
abbrev a3E:Stmt:=top 15
theorem a4J:FnScope ["top","bottom","common"] ["top","bottom"] (defScope a3E):=by walk_at "c"
def a1o (g:LO):Prop:=∀t b:Int,0 < b->b.natAbs < big->g [.int t,.int b]=some (.v (ratD (Rat.divInt t b)))
theorem a8z {n9:LO}(n6:Fn P w K mg base "common_divisor" k n9)(n8:C5 n9)(m_abs:mg "abs"=none)(F:Fun K "ratio" "ratio" a3E f fd)(B:Binds K fd ["top","bottom"] [])(hm:mg "ratio"=some (.ref f)):∃g,Fn P w K mg base "ratio" (k + 1) g/\a1o g:=by
 have nd:=a4J.nd
 refine ⟨_,n4 F a4J B hm rfl rfl (fun cdv A outer s H E hr=>(b4 (n5 (E6 hr (a6 1) a8) (b5 a5g) j7)
  (b4 (n5 (a4g hr (a6 1) a8) (b5 (a4b 0 1 rfl nd (a7 (P4 (a6 0)) (a7 (P4 (a6 1)) a9)) rfl)) j7)
  (b4 (g8 2 nd (g5 n6 hr (a7 (qx_b Z5 a3B m_abs (a7 (a6 0) a9)) (a7 (a6 1) a9))))
  (b5 (c9 (m9 (a7 (O0 (a6 0) (a6 2)) (a7 (O0 (a6 1) (a6 2)) a9))))))))),?_⟩
 intro t b hb hs;have d:=a6P (t:=t) hb hs;have c:=n8 (if t < 0 then -t else t) b (by split <;> walk_at "o") (by walk_at "o")
 rw [a1m] at c;obtain ⟨p1,p2⟩:=O2 (t:=t) hb;have z0:(b == 0)=false:=by simpa using (by walk_at "o":b≠0)
 have n:decide (b < 0)=false:=by simp;walk_at "o"
 unfold ratD;rw [p1,p2]
 repeat (first | walk_at "z r" | simp only [z0,n,c,d])
abbrev a5T:Stmt:=top 16
theorem a7c:FnScope ["one","other"] ["one","other"] (defScope a5T):=by walk_at "c"
def b0W (g:LO):Prop:=∀(p q:Rat) (m n:Nat),Sz m p->Sz n q->m + n<=8000->g [ratD p,ratD q]=some (.v (ratD (p + q)))
theorem b2g {E8:LO}(F1:Fn P w K mg base "ratio" k E8)(E9:a1o E8)(F:Fun K "plus" "plus" a5T f fd)(B:Binds K fd ["one","other"] [])(hm:mg "plus"=some (.ref f)):∃g,Fn P w K mg base "plus" (k + 1) g/\b0W g:=by
 have nd:=a7c.nd;refine ⟨_,n4 F a7c B hm rfl rfl (fun cdv A outer s H E hr=>(b5 (c9 (g5 F1 hr (a7 (k7 (m8 (b7 hr (a6 0) a8) (b7 hr (a6 1) a8)) (m8 (b7 hr (a6 1) a8) (b7 hr (a6 0) a8))) (a7 (m8 (b7 hr (a6 0) a8) (b7 hr (a6 1) a8)) a9)))))),?_⟩;intro p q m n hp hq h;obtain ⟨m1,m2,m3,hpos,hbig⟩:=a5s hp hq h;have r:=E9 (p.num * q.den + q.num * p.den) _ hpos hbig;rw [W5] at r;rw [show ratD p= .tup [.int p.num,.int p.den] from rfl,show ratD q= .tup [.int q.num,.int q.den] from rfl]
 repeat (first | walk_at "z r" | simp only [m1,m2,m3,r,A6])
abbrev a3o:Stmt:=top 17
theorem a4q:FnScope ["one","other"] ["one","other"] (defScope a3o):=by walk_at "c"
def a7w (g:LO):Prop:=∀(p q:Rat) (m n:Nat),Sz m p->Sz n q->m + n<=8000->g [ratD p,ratD q]=some (.v (ratD (p - q)))
theorem a9o {E8:LO}(F1:Fn P w K mg base "ratio" k E8)(E9:a1o E8)(F:Fun K "minus" "minus" a3o f fd)(B:Binds K fd ["one","other"] [])(hm:mg "minus"=some (.ref f)):∃g,Fn P w K mg base "minus" (k + 1) g/\a7w g:=by
 have nd:=a4q.nd;refine ⟨_,n4 F a4q B hm rfl rfl (fun cdv A outer s H E hr=>(b5 (c9 (g5 F1 hr (a7 (C9 (m8 (b7 hr (a6 0) a8) (b7 hr (a6 1) a8)) (m8 (b7 hr (a6 1) a8) (b7 hr (a6 0) a8))) (a7 (m8 (b7 hr (a6 0) a8) (b7 hr (a6 1) a8)) a9)))))),?_⟩;intro p q m n hp hq h;obtain ⟨m1,m2,m3,hpos,hbig⟩:=a5s hp hq h;have r:=E9 (p.num * q.den - q.num * p.den) _ hpos hbig;rw [a11] at r;rw [show ratD p= .tup [.int p.num,.int p.den] from rfl,show ratD q= .tup [.int q.num,.int q.den] from rfl]
 repeat (first | walk_at "z r" | simp only [m1,m2,m3,r,A6])
abbrev a5I:Stmt:=top 18
theorem a7b:FnScope ["one","other"] ["one","other"] (defScope a5I):=by walk_at "c"
def a5O (g:LO):Prop:=∀(p q:Rat) (m n:Nat),Sz m p->Sz n q->m + n<=8000->g [ratD p,ratD q]=some (.v (.bl (decide (p.num * q.den < q.num * p.den))))
theorem b1W (F:Fun K "less" "less" a5I f fd)(B:Binds K fd ["one","other"] [])(hm:mg "less"=some (.ref f)):∃g,Fn P w K mg base "less" (k + 1) g/\a5O g:=by
 have nd:=a7b.nd;refine ⟨_,n4 F a7b B hm rfl rfl (fun cdv A outer s H E hr=>(b5 (c9 (a9S hr (m8 (b7 hr (a6 0) a8) (b7 hr (a6 1) a8)) (m8 (b7 hr (a6 1) a8) (b7 hr (a6 0) a8)))))),?_⟩;intro p q m n hp hq h;obtain ⟨m1,m2,m3,hpos,hbig⟩:=a5s hp hq h;rw [show ratD p= .tup [.int p.num,.int p.den] from rfl,show ratD q= .tup [.int q.num,.int q.den] from rfl]
 repeat (first | walk_at "z r" | simp only [m1,m2])
theorem a4T {ks:List (List Int)}{x:D}(h:x∈ks.map tupI):∃k∈ks,x=tupI k:=by obtain ⟨k,hk,rfl⟩:=zW.mp h;exact ⟨k,hk,rfl⟩
theorem a1Y {k:Nat}{gf gf2:FG}{fi2:FI}{fe:FX}(I:Ev->Prop)(ys:D->List D)(h:D->D)(hI:∀B,I B->B.length=k):∀(xs:List D),(∀x∈xs,∀B zs,I B->∃Bm B',I B'/\gf x (B ++ acc zs)=some (Bm ++ acc zs)/\fi2 (Bm ++ acc zs)=some (ys x,B' ++ acc zs))->
  (∀x∈xs,∀y∈ys x,∀B zs,I B->∃B' w,I B'/\gf2 y (B ++ acc zs)=some (B' ++ acc zs)/\fe (B' ++ acc zs)=some (w,B' ++ acc zs)/\(w= .v (h y)\/w= .o (h y)))->
  ∀(B:Ev) (zs:List D),zs.length + (xs.flatMap ys).length<=lim->I B->∃B',I B'/\loopC (turnC2 k gf fi2 gf2 fe) xs (B ++ acc zs)=some (B' ++ acc (zs ++ (xs.flatMap ys).map h))
 | [],_,_,B,zs,hl,i=>⟨B,i,by simp [loopC]⟩
 | x :: xs,s1,s2,B,zs,hl,i=>by
  obtain ⟨Bm,B1,i1,e1,e2⟩:=s1 x zH B zs i;rw [xX,zT] at hl
  obtain ⟨B2,i2,e3⟩:=T4 (gf:=gf2) (t:=fun ρ=>some (true,ρ)) (fe:=fe) I (fun _=>true) h hI (ys x) (fun y hy B zs i=>by
   obtain ⟨B',w,a,b,c,d⟩:=s2 x zH y hy B zs i
   exact ⟨B',w,a,b,rfl,fun _=>⟨c,d⟩⟩) B1 zs (by walk_at "o") i1
  rw [m4] at e3;obtain ⟨B3,i3,e4⟩:=a1Y I ys h hI xs (fun y hy=>s1 y (zI _ hy)) (fun y hy=>s2 y (zI _ hy)) B2 (zs ++ (ys x).map h) (by rw [zT,zD];walk_at "o") i2
  refine ⟨B3,i3,?_⟩;rw [loopC,turnC2,e1];simp only [bind_some,e2,e3];rw [e4,xX,qF,jX]
theorem a7O {fi:FI}{js:List (Option Nat)}{gf gf2:FG}{fi2:FI}{fe:FX}{ρ ρ1:Ev}{xs:List D}(I:Ev->Prop)(ys:D->List D)(h:D->D)(ei:fi ρ=some (xs,ρ1))(hI:∀B,I B->B.length=js.length)(h0:I (capE none js ρ1))(hl:(xs.flatMap ys).length<=lim)(hf:lfL ((xs.flatMap ys).map h)=true)
  (s1:∀x∈xs,∀B zs,I B->∃Bm B',I B'/\gf x (B ++ acc zs)=some (Bm ++ acc zs)/\fi2 (Bm ++ acc zs)=some (ys x,B' ++ acc zs))
  (s2:∀x∈xs,∀y∈ys x,∀B zs,I B->∃B' w,I B'/\gf2 y (B ++ acc zs)=some (B' ++ acc zs)/\fe (B' ++ acc zs)=some (w,B' ++ acc zs)/\(w= .v (h y)\/w= .o (h y))):
  fComp2 fi js gf fi2 gf2 fe ρ=some (.o (.lst ((xs.flatMap ys).map h)),ρ1):=by
 obtain ⟨B',i',e⟩:=a1Y I ys h hI xs s1 s2 (capE none js ρ1) [] (by rw [jP];walk_at "o") h0
 unfold fComp2;rw [ei];simp only [bind_some];rw [show capE none js ρ1 ++ [some (.l (.lst []))]=capE none js ρ1 ++ acc [] from rfl,e];simp only [bind_some,nil_append,a3r (hI B' i'),backG,lfC,hf,qQ]
abbrev a1v:Stmt:=top 2
theorem a2U:FnScope ["thing","count"] ["thing","count"] (defScope a1v):=by walk_at "c"
def a2g (g:LO):Prop:=∀(xs:List D) (c:Int),g [.tup xs,.int c]=some (.v (.bl (((xs.length:Nat):Int) == c)))
theorem a7I (c8:mg "isinstance"=none)(j9:mg "tuple"=none)(m_len:mg "len"=none)(F:Fun K "is_row" "is_row" a1v f fd)(B:Binds K fd ["thing","count"] [])(hm:mg "is_row"=some (.ref f)):∃g,Fn P w K mg base "is_row" (k + 1) g/\a2g g:=by
 have nd:=a2U.nd;refine ⟨_,n4 F a2U B hm rfl rfl (fun cdv A outer s H E hr=>(b5 (c9 (C8 (O1 (T:="tuple") (N2 (by decide)) c8 j9 (a6 0)) (A9 (F6 hr (qx_b l5 G7 m_len (a7 (a6 0) a9)) (a6 1))))))),?_⟩
 intro xs c;have it:=Y9 (d:=.tup xs) rfl
 repeat (first | walk_at "z r" | simp only [it,isT])
def poolD (p:Int):D:=.lst [.int p]
abbrev G1:Stmt:=top 35
theorem O7:FnScope ["script","k"] ["script","k"] (defScope G1):=by walk_at "c"
def P8 (g:LO):Prop:=∀(ns:List Int) (k:Int),ns.length<=63->0<=k->k<=63->∃m:Int,g [.lst (ns.map D.int),.int k]=some (.v (.int m))
theorem a1l (m_len:mg "len"=none)(F:Fun K "_law_cell_at" "_law_cell_at" G1 f fd)(B:Binds K fd ["script","k"] [])(hm:mg "_law_cell_at"=some (.ref f)):∃g,Fn P w K mg base "_law_cell_at" (k + 1) g/\P8 g:=by
 have nd:=O7.nd
 refine ⟨_,n4 F O7 B hm rfl rfl (fun cdv A outer s H E hr=>(b4 (n5 (a4g hr (a6 1) (qx_b l5 G7 m_len (a7 (a6 0) a9))) (b5 (c9 (b7 hr (a6 0) (a6 1)))) j7)
  (b5 (c9 a8)))),?_⟩
 intro ns k hl h0 hk
 by_cases h:k < ns.length
 ·have h':decide (k < (ns.length:Int))=true:=qE h;have ha:=a6b (ns:=ns) (i:=k) h0 h;refine ⟨ns.getD k.toNat 0,?_⟩
  repeat (first | walk_at "z r" | simp only [zD,h',ha])
 ·have h':decide (k < (ns.length:Int))=false:=qK h;refine ⟨0,?_⟩
  repeat (first | walk_at "z r" | simp only [zD,h'])
abbrev Q6:Stmt:=top 36
theorem a0j:FnScope ["script","at","cell","big","turn","one"] ["script","at"] (defScope Q6):=by walk_at "c"
def a1c (g:LO):Prop:=∀(ns:List Int) (k:Int),ns.length<=63->0<=k->k<=63->∃p:Int,g [.lst (ns.map D.int),.int k]=some (.o (poolD p))
theorem a4e {F9:LO}(F7:Fn P w K mg base "_law_cell_at" k F9)(G4:P8 F9)(j0:mg "range"=none)(F:Fun K "_law_pool" "_law_pool" Q6 f fd)(B:Binds K fd ["script","at"] [])(hm:mg "_law_pool"=some (.ref f)):∃g,Fn P w K mg base "_law_pool" (k + 1) g/\a1c g:=by
 have nd:=a0j.nd
 refine ⟨_,n4 F a0j B hm rfl rfl (fun cdv A outer s H E hr=>(b4 (g8 2 nd (g5 F7 hr (a7 (a6 0) (a7 (a6 1) a9))))
  (b4 (n5 (b3d (a6 2) (a0t a8 a8)) (b5 (c9 (B5 (a7 (a6 2) a9)))) j7)
  (b4 (g8 3 nd a8)
  (b4 (D1 zX rfl (a05 j0 (a7 a8 a9)) (c6 4 nd) (b4 (g8 5 nd (K9 (m8 (k7 (k7 (k7 (K9 (a6 2) a8) (m8 (m8 a8 (a6 4)) (a6 4))) (m8 a8 (a6 1))) a8) a8) a8))
  (b4 (g8 5 nd (K9 (m8 (a6 5) (a6 5)) a8))
  (b4 (g8 5 nd (K9 (m8 (k7 (a6 5) (m8 a8 (a6 4))) a8) a8))
  (b5 (g8 3 nd (k7 (m8 (a6 3) a8) (K9 (O0 (a6 5) a8) a8))))))))
  (b5 (c9 (B5 (a7 (a6 3) a9))))))))),?_⟩
 intro ns k hl h0 hk;obtain ⟨c,e1⟩:=G4 ns k hl h0 hk;have pw:CPow 10 18:=by decide
 have ln:=t7 ns;unfold poolD
 by_cases h:(10:Int) ^ (18:Int).toNat<=c
 ·have h':decide ((10:Int) ^ (18:Int).toNat<=c)=true:=qE h;refine ⟨c,?_⟩
  repeat (first | walk_at "z r" | simp only [e1,ln,pw,h'])
 ·have h':decide ((10:Int) ^ (18:Int).toNat<=c)=false:=qK h;have c0:(0:Int) < 998244353:=by decide
  have c1:(0:Int) < 2147483647:=by decide
  have c2:(0:Int) < 1000000007:=by decide
  have c3:(0:Int) < 2147483587:=by decide
  have c4:(0:Int) < 1000003:=by decide
  have c5:dOk 8:=a4m (by decide) (by decide)
  have r1:(-(2 ^ 62:Int)<=60/\(60:Int) < 2 ^ 62):=by walk_at "o"
  repeat (first | walk_at "z i" | simp only [e1,ln,pw,h',r1])
  repeat (first | walk_at "z r" | simp only [e1,ln,pw,h',r1])
  generalize el:loopF _ _ _=r;refine J1 el (fun i ρ=>∃(b:Int) (o4 o5:Option D),ρ=[some (.v (.lst (ns.map .int))),some (.v (.int k)),some (.v (.int c)),some (.v (.int b)),o4.map .v,o5.map .v]) ⟨0,none,none,rfl⟩ ?_ ?_
  ·rintro i x _ hx ⟨b,o4,o5,rfl⟩;obtain ⟨rfl,hi⟩:=a1B hx;have p1:mOk 89 (0 + (i:Int)):=.inl (by decide)
   have p2:mOk (89 * (0 + (i:Int))) (0 + (i:Int)):=.inr (.inl (by walk_at "o"))
   have p3:mOk 7 k:=.inl (by decide)
   have p4:∀a:Int,mOk a 48271:=fun a=>.inr (.inl (by decide))
   have p5:∀a:Int,mOk (a % 2147483647) (a % 2147483647):=fun a=>.inl (by
    have:=Int.emod_nonneg a (b:=2147483647) (by decide)
    have:=Int.emod_lt_of_pos a (b:=2147483647) (by decide)
    walk_at "o")
   have p6:mOk 7919 (0 + (i:Int)):=.inl (by decide)
   have p7:∀a:Int,mOk a 69621:=fun a=>.inr (.inl (by decide))
   have p8:∀a:Int,mOk a 1000003:=fun a=>.inr (.inl (by decide))
   refine ⟨?_,?_,?_⟩
   rotate_left
   ·repeat (first | walk_at "z r" | simp only [c0,c1,c2,c3,c4,c5,p1,p2,p3,p4,p5,p6,p7,p8])
    rfl
   ·exact ⟨_,some (.int (0 + (i:Int))),some (.int _),rfl⟩
  ·rintro _ rfl ⟨b,o4,o5,rfl⟩;refine ⟨b,?_⟩;walk_at "q"
abbrev Q5:Stmt:=top 37
theorem Z1:FnScope ["pool","many","number"] ["pool","many"] (defScope Q5):=by walk_at "c"
def D7 (g:LL):Prop:=∀(p m:Int),0 < m->m<=10 ^ 60->∃(i q:Int),(0<=i/\i < m)/\g (poolD p) [.int m]=some (.v (.int i),poolD q)
theorem a3N (F:Fun K "_law_take" "_law_take" Q5 f fd)(B:Binds K fd ["pool","many"] [])(hm:mg "_law_take"=some (.ref f)):∃g,FnL P w K mg base "_law_take" (k + 1) g/\D7 g:=by
 have nd:=Z1.nd
 refine ⟨_,a3v F Z1 B hm rfl rfl (fun cdv A outer s H E hr=>(b4 (g8 2 nd (K9 (b7 hr (a6 0) a8) (a6 1)))
  (b4 (A8 (O0 (b7 hr (a6 0) a8) (a6 1)) (G8 (a6 0) a8))
  (b5 (c9 (a6 2)))))),?_⟩
 intro p m hm h12;have dm:dOk m:=⟨hm,zB (show m.natAbs < 2 ^ 220 by walk_at "o") (qD (by decide) (by decide))⟩
 have i10:ixN 1 0=some 0:=rfl;refine ⟨p % m,p / m,⟨Int.emod_nonneg _ (by walk_at "o"),Int.emod_lt_of_pos _ hm⟩,?_⟩
 unfold poolD
 repeat (first | walk_at "z r" | simp only [hm,dm,i10,qI,jP])
abbrev K0:Stmt:=top 38
theorem Q4:FnScope ["pool","kind","ring","a","b"] ["pool","kind","ring","a","b"] (defScope K0):=by walk_at "c"
def U2 (g:LL):Prop:=∀(p kind ring a b:Int),0<=kind->kind < 6->0<=a->a<=63->0<=b->b<=63->∃(w:Bool) (q:Int),g (poolD p) [.int kind,.int ring,.int a,.int b]=some (.v (.bl w),poolD q)
theorem a1z {j8:LL}(b8:FnL P w K mg base "_law_take" k j8)(b9:D7 j8)(F:Fun K "_law_wanted" "_law_wanted" K0 f fd)(B:Binds K fd ["pool","kind","ring","a","b"] [])(hm:mg "_law_wanted"=some (.ref f)):∃g,FnL P w K mg base "_law_wanted" (k + 1) g/\U2 g:=by
 have nd:=Q4.nd
 refine ⟨_,a3v F Q4 B hm rfl rfl (fun cdv A outer s H E hr=>(b4 (n5 (E6 hr (a6 1) a8) (b5 (c9 (F6 hr (j5 b8 hr (a7 (a6 0) (a7 a8 a9))) a8))) j7)
  (b4 (n5 (E6 hr (a6 1) a8) (b5 (c9 (a6g (C8 (F6 hr (a6 4) (k7 (a6 3) a8)) (A9 (a9S hr (a6 4) (a6 2)))) (a6g (C8 (F6 hr (a6 3) a8) (A9 (F6 hr (a6 4) (C9 (a6 2) a8)))) (A9 (F6 hr (j5 b8 hr (a7 (a6 0) (a7 a8 a9))) a8)))))) j7)
  (b4 (n5 (E6 hr (a6 1) a8) (b5 (c9 (C8 (F6 hr (K9 (k7 (a6 3) (a6 4)) a8) a8) (A9 (a9g (j5 b8 hr (a7 (a6 0) (a7 a8 a9))) a8))))) j7)
  (b4 (n5 (E6 hr (a6 1) a8) (b5 (c9 (a6g (F6 hr (O0 (a6 3) a8) (O0 (a6 4) a8)) (A9 (C8 (F6 hr (a6 4) (k7 (a6 3) a8)) (A9 (F6 hr (j5 b8 hr (a7 (a6 0) (a7 a8 a9))) a8))))))) j7)
  (b5 (c9 (a6g (F6 hr (a6 1) a8) (A9 (F6 hr (j5 b8 hr (a7 (a6 0) (a7 a8 a9))) a8)))))))))),?_⟩
 intro p kind ring a b k0 k6 a0 a1 b0 b1;obtain ⟨i2,q2,_,e2⟩:=b9 p 2 (by decide) (by decide)
 obtain ⟨i6,q6,_,e6⟩:=b9 p 6 (by decide) (by decide)
 obtain ⟨i4,q4,_,e4⟩:=b9 p 4 (by decide) (by decide)
 have l2:lfC (poolD q2)=true:=rfl;have l6:lfC (poolD q6)=true:=rfl;have l4:lfC (poolD q4)=true:=rfl;have c2:(0:Int) < 2:=by decide
 have d3:dOk 3:=a4m (by decide) (by decide)
 have hc:kind=0\/kind=1\/kind=2\/kind=3\/kind=4\/kind=5:=by walk_at "o"
 rcases hc with rfl | rfl | rfl | rfl | rfl | rfl
 ·refine ⟨i2 == 0,q2,?_⟩
  repeat (first | walk_at "z r" | simp only [Int.reduceBEq,e2,l2])
 ·cases h1:(b == a + 1) with
  | true=>
   cases h2:decide (b < ring) with
   | true=>
    refine ⟨true,p,?_⟩
    repeat (first | walk_at "z r" | simp only [Int.reduceBEq,h1,h2])
   | false=>
    cases h3:(a == 0) with
    | true=>
     cases h4:(b == ring - 1) with
     | true=>
      refine ⟨true,p,?_⟩
      repeat (first | walk_at "z r" | simp only [Int.reduceBEq,h1,h2,h3,h4])
     | false=>
      refine ⟨i6 == 0,q6,?_⟩
      repeat (first | walk_at "z r" | simp only [Int.reduceBEq,h1,h2,h3,h4,e6,l6])
    | false=>
     refine ⟨i6 == 0,q6,?_⟩
     repeat (first | walk_at "z r" | simp only [Int.reduceBEq,h1,h2,h3,e6,l6])
  | false=>
   cases h3:(a == 0) with
   | true=>
    cases h4:(b == ring - 1) with
    | true=>
     refine ⟨true,p,?_⟩
     repeat (first | walk_at "z r" | simp only [Int.reduceBEq,h1,h3,h4])
    | false=>
     refine ⟨i6 == 0,q6,?_⟩
     repeat (first | walk_at "z r" | simp only [Int.reduceBEq,h1,h3,h4,e6,l6])
   | false=>
    refine ⟨i6 == 0,q6,?_⟩
    repeat (first | walk_at "z r" | simp only [Int.reduceBEq,h1,h3,e6,l6])
 ·cases h1:((a + b) % 2 == 1) with
  | true=>
   refine ⟨decide (0 < i4),q4,?_⟩
   repeat (first | walk_at "z r" | simp only [Int.reduceBEq,h1,c2,e4,l4])
  | false=>
   refine ⟨false,p,?_⟩
   repeat (first | walk_at "z r" | simp only [Int.reduceBEq,h1,c2])
 ·cases h1:(a / 3 == b / 3) with
  | true=>
   refine ⟨true,p,?_⟩
   repeat (first | walk_at "z r" | simp only [Int.reduceBEq,h1,d3])
  | false=>
   cases h2:(b == a + 1) with
   | true=>
    refine ⟨i2 == 0,q2,?_⟩
    repeat (first | walk_at "z r" | simp only [Int.reduceBEq,h1,h2,d3,e2,l2])
   | false=>
    refine ⟨false,p,?_⟩
    repeat (first | walk_at "z r" | simp only [Int.reduceBEq,h1,h2,d3])
 ·refine ⟨true,p,?_⟩
  repeat (first | walk_at "z r" | simp only [Int.reduceBEq])
 ·refine ⟨i4 == 0,q4,?_⟩
  repeat (first | walk_at "z r" | simp only [Int.reduceBEq,e4,l4])
theorem a0w {m:Nat}{i:Int}(h0:0<=i)(h:i < m):ixN m i=some i.toNat:=by unfold ixN;rw [if_pos h0,if_pos h]
theorem a55 {n:Int}{ts:List Tie}(hw:WebOk n ts){k:List Int}(hk:k∈parK n ts):(∃a,k=[a])\/∃a c,k=[a,c]/\0<=a/\a < c/\c < n/\1<=gainOf ts k:=by
 unfold parK at hk;rcases jC.mp hk with z | z
 ·obtain ⟨i,_,rfl⟩:=zW.mp z;exact .inl ⟨_,rfl⟩
 ·obtain ⟨t,ht,rfl⟩:=zW.mp z;have b:=hw.t t ht;refine .inr ⟨t.1,t.2.1,rfl,b.1,b.2.1,b.2.2.1,?_⟩;have key:∀ts:List Tie,(∀t∈ts,1<=t.2.2)->t∈ts->1<=gainOf ts [t.1,t.2.1]:=by
   intro ts
   induction ts with
   | nil=>intro _ h;cases h
   | cons u us ih=>
    intro h1 h2;rw [gainOf]
    split
    ·exact h1 u zH
    ·rename_i ne;rcases zS.mp h2 with rfl | h2
     ·exact absurd rfl ne
     ·exact ih (fun t ht=>h1 t (zI _ ht)) h2
  exact key ts (fun t ht=>(hw.t t ht).2.2.2.1) ht
def sS (s:Tie):Nat:=s.1.toNat
def sE (s:Tie):Nat:=s.2.1.toNat
def mkv (m:List Int) (v:Nat):Int:=m.getD v 0
def Kept (m:List Int) (s:Tie):Prop:=mkv m (sS s) + s.2.2<=mkv m (sE s)
structure StOk (N:Nat) (S:List Tie):Prop where
 rng:∀s∈S,0<=s.1/\s.1 < N/\0<=s.2.1/\s.2.1 < N
 ne:∀s∈S,s.1≠s.2.1
 sz:∀s∈S,s.2.2<=10 ^ 12
 len:S.length<=200
def parAt (p:List (Option Tie)) (v:Nat):Option Tie:=p.getD v none
def upd1 (f:Nat->Nat) (e x:Nat):Nat->Nat:=fun v=>if v=e then x else f v
structure Bf (S:List Tie) (N k i:Nat) (m:List Int) (p:List (Option Tie)) (last:Option Nat) (r t:Nat->Nat) (c:Nat):Prop where
 lm:m.length=N
 lp:p.length=N
 par:∀v s,parAt p v=some s->s∈S/\sE s=v/\r v<=r (sS s) + 1/\(mkv m v < mkv m (sS s) + s.2.2\/mkv m v<=mkv m (sS s) + s.2.2/\t (sS s) < t v)
 rk:∀v,r v<=k
 tc:∀v,t v<=c
 up:∀v,0 < r v->∃s,parAt p v=some s
 ok:∀j s,S[j]? =some s->Kept m s\/(if j < i then k else k - 1)<=r (sS s)
 m0:∀v,0<=mkv m v
 mb:∀v,mkv m v<=10 ^ 12 * c
 cb:c<=(k - 1) * S.length + i
 la:match last with
  | none=>∀j s,S[j]? =some s->j < i->Kept m s
  | some v=>v < N/\r v=k
theorem F0 {m:List Int}{e v:Nat}{x:Int}(he:e < m.length):mkv (m.set e x) v=if v=e then x else mkv m v:=by
 unfold mkv;rw [zL,zL]
 by_cases h:v=e
 ·rw [if_pos h,h,yL he];rfl
 ·rw [if_neg h,zO (fun z=>h z.symm)]
theorem a6u {p:List (Option Tie)}{e v:Nat}{x:Option Tie}(he:e < p.length):parAt (p.set e x) v=if v=e then x else parAt p v:=by
 unfold parAt;rw [zL,zL]
 by_cases h:v=e
 ·rw [if_pos h,h,yL he];rfl
 ·rw [if_neg h,zO (fun z=>h z.symm)]
theorem Bf.start {S:List Tie}{N:Nat}:Bf S N 1 0 (List.replicate N 0) (List.replicate N none) none (fun _=>0) (fun _=>0) 0:=by
 have h0:∀v,mkv (List.replicate N 0) v=0:=fun v=>by
  unfold mkv;rw [zL,yG];split <;> rfl
 refine ⟨length_replicate,length_replicate,fun v s h=>?_,fun _=>jK _,fun _=>zE _,fun v h=>absurd h (qS 0),fun j s h=>.inr (by simp),fun v=>by rw [h0];decide,fun v=>by rw [h0];decide,jK _,fun j s _ h=>absurd h (Nat.not_lt_zero j)⟩
 unfold parAt at h;rw [zL,yG] at h;split at h <;> cases h
theorem Bf.next {S:List Tie}{N k i:Nat}{m:List Int}{p:List (Option Tie)}{last:Option Nat}{r t:Nat->Nat}{c:Nat}(h:Bf S N k i m p last r t c)(hi:i=S.length)(hk:1<=k):Bf S N (k + 1) 0 m p none r t c where
 lm:=h.lm
 lp:=h.lp
 par:=h.par
 rk:=fun v=>Nat.le_succ_of_le (h.rk v)
 tc:=h.tc
 up:=h.up
 ok:=fun j s hs=>by
  rcases h.ok j s hs with z | z
  ·exact .inl z
  ·right;have hj:j < i:=by rw [hi];exact (zJ.mp hs).1
   rw [if_pos hj] at z;rw [if_neg (Nat.not_lt_zero j)];walk_at "o"
 m0:=h.m0
 mb:=h.mb
 cb:=by
  have:=h.cb
  have e:(k + 1 - 1) * S.length=(k - 1) * S.length + S.length:=by
   rw [<-Nat.succ_mul];congr 1;walk_at "o"
  walk_at "o"
 la:=fun j s _ z=>absurd z (Nat.not_lt_zero j)
theorem Bf.skip {S:List Tie}{N k i:Nat}{m:List Int}{p:List (Option Tie)}{last:Option Nat}{r t:Nat->Nat}{c:Nat}(h:Bf S N k i m p last r t c){s:Tie}(hs:S[i]? =some s)(hk:Kept m s):Bf S N k (i + 1) m p last r t c where
 lm:=h.lm
 lp:=h.lp
 par:=h.par
 rk:=h.rk
 tc:=h.tc
 up:=h.up
 ok:=fun j s' hs'=>by
  by_cases hj:j=i
  ·subst hj;rw [hs] at hs';cases hs';exact .inl hk
  ·rcases h.ok j s' hs' with z | z
   ·exact .inl z
   ·right
    by_cases h2:j < i
    ·rw [if_pos h2] at z;rw [if_pos (by walk_at "o")];exact z
    ·rw [if_neg h2] at z;rw [if_neg (by walk_at "o")];exact z
 m0:=h.m0
 mb:=h.mb
 cb:=by have:=h.cb;walk_at "o"
 la:=by
  have hl:=h.la;cases last with
  | none=>
   intro j s' hs' hj
   by_cases h2:j=i
   ·subst h2;rw [hs] at hs';cases hs';exact hk
   ·exact hl j s' hs' (by walk_at "o")
  | some v=>exact hl
theorem Bf.raise {S:List Tie}{N k i:Nat}{m:List Int}{p:List (Option Tie)}{last:Option Nat}{r t:Nat->Nat}{c:Nat}(h:Bf S N k i m p last r t c)(hS:StOk N S){s:Tie}(hs:S[i]? =some s)(hk:¬Kept m s)(k1:1<=k):Bf S N k (i + 1) (m.set (sE s) (mkv m (sS s) + s.2.2)) (p.set (sE s) (some s)) (some (sE s)) (upd1 r (sE s) k) (upd1 t (sE s) (c + 1)) (c + 1):=by
 have sm:=jV hs;have g:=hS.rng s sm;have gn:=hS.ne s sm;have gz:=hS.sz s sm;have eN:sE s < N:=by unfold sE;walk_at "o"
 have uN:sS s < N:=by unfold sS;walk_at "o"
 have ue:sS s≠sE s:=by unfold sS sE;walk_at "o"
 have em:sE s < m.length:=by rw [h.lm];exact eN
 have ep:sE s < p.length:=by rw [h.lp];exact eN
 have rise:mkv m (sE s) < mkv m (sS s) + s.2.2:=by unfold Kept at hk;walk_at "o"
 have ru:k - 1<=r (sS s):=by
  rcases h.ok i s hs with z | z
  ·exact absurd z hk
  ·rwa [if_neg (qS i)] at z
 have old:∀v,mkv m v<=mkv (m.set (sE s) (mkv m (sS s) + s.2.2)) v:=fun v=>by
  rw [F0 em]
  split
  ·rename_i z;rw [z];walk_at "o"
  ·exact Int.le_refl _
 refine ⟨by rw [qL];exact h.lm,by rw [qL];exact h.lp,fun v s' hp=>?_,fun v=>?_,fun v=>?_,fun v hv=>?_,fun j s' hs'=>?_,fun v=>Int.le_trans (h.m0 v) (old v),fun v=>?_,by have:=h.cb;walk_at "o",⟨eN,?_⟩⟩
 ·rw [a6u ep] at hp
  by_cases hv:v=sE s
  ·rw [if_pos hv] at hp;cases hp;subst hv;refine ⟨sm,rfl,?_,.inr ⟨?_,?_⟩⟩
   ·unfold upd1;rw [if_pos rfl,if_neg ue];walk_at "o"
   ·rw [F0 em,F0 em,if_pos rfl,if_neg ue];exact Int.le_refl _
   ·unfold upd1;rw [if_pos rfl,if_neg ue];have:=h.tc (sS s);walk_at "o"
  ·rw [if_neg hv] at hp;obtain ⟨p1,p2,p3,p4⟩:=h.par v s' hp;refine ⟨p1,p2,?_,?_⟩
   ·unfold upd1;rw [if_neg hv]
    split
    ·have:=h.rk v;walk_at "o"
    ·exact p3
   ·rw [F0 em,if_neg hv,F0 em]
    by_cases hu:sS s'=sE s
    ·rw [if_pos hu];rw [hu] at p4;left;rcases p4 with z | z
     ·walk_at "o"
     ·walk_at "o"
    ·rw [if_neg hu];unfold upd1;rw [if_neg hv,if_neg hu];exact p4
 ·unfold upd1;split
  ·exact zE _
  ·exact h.rk v
 ·unfold upd1;split
  ·exact zE _
  ·have:=h.tc v;walk_at "o"
 ·unfold upd1 at hv;rw [a6u ep]
  by_cases z:v=sE s
  ·rw [if_pos z];exact ⟨_,rfl⟩
  ·rw [if_neg z] at hv ⊢;exact h.up v hv
 ·by_cases hu:sS s'=sE s
  ·right;unfold upd1;rw [if_pos hu]
   split <;> walk_at "o"
  ·by_cases hj:j=i
   ·subst hj;rw [hs] at hs';cases hs';left;unfold Kept;rw [F0 em,F0 em,if_neg ue,if_pos rfl];exact Int.le_refl _
   ·rcases h.ok j s' hs' with z | z
    ·left;unfold Kept at z ⊢
     have:=old (sE s')
     rw [F0 em (v:=sS s'),if_neg hu];walk_at "o"
    ·right;unfold upd1;rw [if_neg hu]
     by_cases h2:j < i
     ·rw [if_pos h2] at z;rw [if_pos (by walk_at "o")];exact z
     ·rw [if_neg h2] at z;rw [if_neg (by walk_at "o")];exact z
 ·rw [F0 em];have hb:=h.mb
  split
  ·have:=hb (sS s);walk_at "o"
  ·have:=hb v;walk_at "o"
 ·unfold upd1;rw [if_pos rfl]
theorem Bf.all {S:List Tie}{N k i:Nat}{m:List Int}{p:List (Option Tie)}{r t:Nat->Nat}{c:Nat}(h:Bf S N k i m p none r t c)(hi:i=S.length):∀s∈S,Kept m s:=fun s hs=>by
 obtain ⟨j,hj⟩:=List.getElem?_of_mem hs;exact h.la j s hj (by rw [hi];exact (zJ.mp hj).1)
def nxt (p:List (Option Tie)) (v:Nat):Nat:=match parAt p v with
 | some s=>sS s
 | none=>v
def far (p:List (Option Tie)) (v:Nat):Nat->Nat
 | 0=>v
 | j + 1=>nxt p (far p v j)
theorem a0f (p:List (Option Tie))(v a:Nat):∀b,far p v (a + b)=far p (far p v a) b
 | 0=>rfl
 | b + 1=>by rw [<-Nat.add_assoc,far,far,a0f p v a b]
structure Ringed (S:List Tie) (N:Nat) (p:List (Option Tie)) (v:Nat):Prop where
 back:∀j < N,∃s,parAt p (far p v j)=some s
 rng:∀j≤N,far p v j < N
theorem a01:∀{n:Nat} {l:List Nat},l.Nodup->(∀x∈l,x < n)->l.length<=n
 | 0,l,_,h=>by
  cases l with
  | nil=>exact zE _
  | cons x l=>exact absurd (h x zH) (Nat.not_lt_zero x)
 | n + 1,l,nd,h=>by
  have h2:=a01 (n:=n) (l:=l.erase n) (nd.erase n) fun x hx=>by
   have z:=(List.Nodup.mem_erase_iff nd).mp hx
   have:=h x z.2
   have:=z.1
   walk_at "o"
  rw [List.length_erase] at h2;split at h2 <;> walk_at "o"
theorem pigeon:∀(n:Nat) (f:Nat->Nat),(∀j≤n,f j < n)->∃i j,i < j/\j<=n/\f i=f j:=by
 intro n f hf
 let l:=(List.range (n + 1)).map f
 have hl:¬l.Nodup:=by
  intro nd
  have:=a01 (n:=n) nd fun x hx=>by
   obtain ⟨j,hj,rfl⟩:=zW.mp hx;rw [xE] at hj;exact hf j (by walk_at "o")
  simp [l] at this;walk_at "o"
 have:∃i j,i < j/\j < n + 1/\f i=f j:=by
  apply Classical.byContradiction;intro hn;apply hl;refine xL.mpr ?_;refine List.Pairwise.imp_of_mem ?_ (List.pairwise_lt_range (n:=n + 1));intro a b ha hb hab e;exact hn ⟨a,b,hab,xE.mp hb,e⟩
 obtain ⟨i,j,h1,h2,h3⟩:=this;exact ⟨i,j,h1,by walk_at "o",h3⟩
theorem Bf.ringed {S:List Tie}{N:Nat}{m:List Int}{p:List (Option Tie)}{r t:Nat->Nat}{c i v:Nat}(h:Bf S N N i m p (some v) r t c)(hS:StOk N S):Ringed S N p v:=by
 have key:∀j≤N,N<=r (far p v j) + j/\far p v j < N:=by
  intro j
  induction j with
  | zero=>intro _;exact ⟨by show N<=r v + 0;rw [h.la.2];exact zE _,h.la.1⟩
  | succ j ih=>
   intro hj;obtain ⟨i1,i2⟩:=ih (by walk_at "o")
   obtain ⟨s,hs⟩:=h.up (far p v j) (by walk_at "o")
   obtain ⟨p1,p2,p3,p4⟩:=h.par _ s hs;have e:far p v (j + 1)=sS s:=by rw [far,nxt,hs]
   rw [e];have g:=hS.rng s p1;exact ⟨by walk_at "o",by unfold sS;walk_at "o"⟩
 exact ⟨fun j hj=>h.up _ (by have:=(key j (by walk_at "o")).1;walk_at "o"),fun j hj=>(key j hj).2⟩
def ringL (p:List (Option Tie)) (v:Nat):Nat->List Tie
 | 0=>[]
 | q + 1=>ringL p v q ++ ((parAt p (far p v q)).toList)
theorem Ringed.turn {S:List Tie}{N:Nat}{p:List (Option Tie)}{v:Nat}(h:Ringed S N p v):(∀a,N<=a->∃s,parAt p (far p v a)=some s)/\∃q,1<=q/\q<=N/\far p v (N + q)=far p v N:=by
 obtain ⟨i,j,hij,hj,e⟩:=pigeon N (far p v) h.rng;have back:∀a,i<=a->∃b,i<=b/\b < j/\far p v a=far p v b:=by
  intro a
  induction a with
  | zero=>intro ha;exact ⟨0,ha,by walk_at "o",rfl⟩
  | succ a ih=>
   intro ha
   by_cases h2:a + 1=i
   ·exact ⟨a + 1,by walk_at "o",by walk_at "o",rfl⟩
   ·obtain ⟨b,b1,b2,b3⟩:=ih (by walk_at "o")
    by_cases h3:b + 1=j
    ·exact ⟨i,zE _,hij,by rw [far,b3];show far p v (b + 1)=_;rw [h3,e]⟩
    ·exact ⟨b + 1,by walk_at "o",by walk_at "o",by rw [far,far,b3]⟩
 refine ⟨fun a ha=>?_,j - i,by walk_at "o",by walk_at "o",?_⟩
 ·obtain ⟨b,b1,b2,b3⟩:=back a (by walk_at "o")
  rw [b3];exact h.back b (by walk_at "o")
 ·have per:∀d,far p v (i + d + (j - i))=far p v (i + d):=by
   intro d
   induction d with
   | zero=>rw [Nat.add_zero,show i + (j - i)=j by walk_at "o"];exact e.symm
   | succ d ih=>rw [show i + (d + 1) + (j - i)=(i + d + (j - i)) + 1 by walk_at "o",far,ih];rfl
  have:=per (N - i)
  rwa [show i + (N - i)=N by walk_at "o"] at this
structure Ring (S:List Tie) (N:Nat) (R:List Tie):Prop where
 mem:∀s∈R,s∈S
 ne:1<=R.length
 len:R.length<=N
 prm:(R.map sS).Perm (R.map sE)
 pos:0 < (R.map fun s=>s.2.2).sum
 nd:(R.map sE).Nodup
theorem L4 {p:List (Option Tie)}{v:Nat}:∀{q:Nat},(∀a < q,∃s,parAt p (far p v a)=some s)->(ringL p v q).length=q
 | 0,_=>rfl
 | q + 1,h=>by
  obtain ⟨s,hs⟩:=h q (by walk_at "o")
  rw [ringL,hs,toList_some,zT,L4 fun a ha=>h a (by walk_at "o")]
  rfl
theorem a1V {p:List (Option Tie)}{v:Nat}(hE:∀u s,parAt p u=some s->sE s=u):∀{q:Nat},(∀a < q,∃s,parAt p (far p v a)=some s)->(ringL p v q).map sE ++ [far p v q]=v :: (ringL p v q).map sS
 | 0,_=>rfl
 | q + 1,h=>by
  obtain ⟨s,hs⟩:=h q (by walk_at "o")
  have ih:=a1V hE (q:=q) fun a ha=>h a (by walk_at "o")
  rw [ringL,hs,toList_some,qF,qF,yD,yD,hE _ s hs,ih,far,nxt,hs];rfl
theorem a2L {S:List Tie}{N k i:Nat}{m:List Int}{p:List (Option Tie)}{last:Option Nat}{r t:Nat->Nat}{c v:Nat}(h:Bf S N k i m p last r t c):∀{q:Nat},(∀a < q,∃s,parAt p (far p v a)=some s)->mkv m v < mkv m (far p v q) + ((ringL p v q).map fun s=>s.2.2).sum\/mkv m v<=mkv m (far p v q) + ((ringL p v q).map fun s=>s.2.2).sum/\t (far p v q) + q<=t v
 | 0,_=>.inr ⟨by show mkv m v<=mkv m v + 0;walk_at "o",zE _⟩
 | q + 1,hq=>by
  obtain ⟨s,hs⟩:=hq q (by walk_at "o")
  have ih:=a2L h (v:=v) (q:=q) fun a ha=>hq a (by walk_at "o")
  obtain ⟨_,_,_,p4⟩:=h.par _ s hs;have e:far p v (q + 1)=sS s:=by rw [far,nxt,hs]
  rw [e,ringL,hs,toList_some,qF,sum_append,yD];have e2:[s.2.2].sum=s.2.2:=by simp
  rw [e2];generalize ((ringL p v q).map fun s=>s.2.2).sum=W at ih ⊢;walk_at "o"
theorem a2M {S:List Tie}{N k i:Nat}{m:List Int}{p:List (Option Tie)}{last:Option Nat}{r t:Nat->Nat}{c v:Nat}(h:Bf S N k i m p last r t c):∀{q:Nat},∀s∈ringL p v q,s∈S
 | 0,s,hs=>by cases hs
 | q + 1,s,hs=>by
  rw [ringL] at hs;rcases jC.mp hs with z | z
  ·exact a2M h s z
  ·cases e:parAt p (far p v q) with
   | none=>rw [e] at z;cases z
   | some s'=>
    rw [e,toList_some] at z;rw [zU.mp z];exact (h.par _ s' e).1
theorem a3k {p:List (Option Tie)}{v:Nat}(hE:∀u s,parAt p u=some s->sE s=u):∀{q:Nat},(∀a < q,∃s,parAt p (far p v a)=some s)->(ringL p v q).map sE=(List.range q).map (far p v)
 | 0,_=>rfl
 | q + 1,h=>by
  obtain ⟨s,hs⟩:=h q (by walk_at "o")
  rw [ringL,hs,toList_some,qF,yD,hE _ s hs,a3k hE fun a ha=>h a (by walk_at "o"),List.range_succ,qF,yD]
theorem a8g {p:List (Option Tie)}{v q:Nat}(e:far p v q=v)(hf:∀a,0 < a->a < q->far p v a≠v):((List.range q).map (far p v)).Nodup:=by
 refine xL.mpr ?_;refine List.Pairwise.imp_of_mem ?_ (List.pairwise_lt_range (n:=q));intro i j hi hj hij h;rw [xE] at hi hj;have h1:far p v (i + (q - j))=v:=by
  rw [a0f,h,<-a0f,show j + (q - j)=q by walk_at "o",e]
 exact hf (i + (q - j)) (by walk_at "o") (by walk_at "o") h1
theorem Bf.ring {S:List Tie}{N k i:Nat}{m:List Int}{p:List (Option Tie)}{last:Option Nat}{r t:Nat->Nat}{c v q:Nat}(h:Bf S N k i m p last r t c)(hq:∀a < q,∃s,parAt p (far p v a)=some s)(h1:1<=q)(h2:q<=N)(e:far p v q=v)(hf:∀a,0 < a->a < q->far p v a≠v):Ring S N (ringL p v q) where
 mem:=a2M h
 ne:=by rw [L4 hq];exact h1
 len:=by rw [L4 hq];exact h2
 prm:=by
  have:=a1V (v:=v) (fun u s hs=>(h.par u s hs).2.1) hq
  rw [e] at this;have z:(v :: (ringL p v q).map sE).Perm (v :: (ringL p v q).map sS):=by
   rw [<-this];exact (List.perm_append_singleton v _).symm
  exact (z.cons_inv).symm
 pos:=by
  have:=a2L (v:=v) h hq
  rw [e] at this;walk_at "o"
 nd:=by
  rw [a3k (fun u s hs=>(h.par u s hs).2.1) hq];exact a8g e hf
structure Tz (n:Int) (a b:Int) (ts:List Tie):Prop where
 t:∀t∈ts,0<=t.1/\t.1 < t.2.1/\t.2.1 < n/\1<=t.2.2/\t.2.2<=10 ^ 12/\(t.1 < a\/t.1=a/\t.2.1 < b)
 nd:(ts.map fun t=>(t.1,t.2.1)).Nodup
theorem Tz.next {n a b b':Int}{ts:List Tie}(h:Tz n a b ts)(hb:b<=b'):Tz n a b' ts:=⟨fun t ht=>by have:=h.t t ht;walk_at "o",h.nd⟩
theorem Tz.row {n a b b':Int}{ts:List Tie}(h:Tz n a b ts):Tz n (a + 1) b' ts:=⟨fun t ht=>by have:=h.t t ht;walk_at "o",h.nd⟩
theorem Tz.put {n a b g:Int}{ts:List Tie}(h:Tz n a b ts)(ha:0<=a)(hab:a < b)(hb:b < n)(hg:1<=g/\g<=10 ^ 12):Tz n a (b + 1) (ts ++ [(a,b,g)]):=by
 refine ⟨fun t ht=>?_,?_⟩
 ·rcases jC.mp ht with z | z
  ·have:=h.t t z;walk_at "o"
  ·rw [zU.mp z];show 0<=a/\a < b/\b < n/\1<=g/\g<=10 ^ 12/\(a < a\/a=a/\b < b + 1);walk_at "o"
 ·rw [qF,nodup_append];refine ⟨h.nd,by simp,fun x hx y hy e=>?_⟩
  subst e;obtain ⟨t,ht,e⟩:=zW.mp hx;have hy:x=(a,b):=by simpa using hy
  rw [hy] at e;injection e with e1 e2
  have:=h.t t ht
  walk_at "o"
theorem Tz.web {n a b:Int}{ts:List Tie}(h:Tz n a b ts)(hn:1<=n/\n<=8):WebOk n ts:=by
 refine ⟨hn,fun t ht=>by have:=h.t t ht;walk_at "o",h.nd,?_⟩
 have nd:(ts.map fun t=>t.1.toNat * 7 + (t.2.1 - 1).toNat).Nodup:=by
  refine xL.mpr ?_;refine List.Pairwise.imp_of_mem ?_ (xL.mp h.nd);intro a b ha hb hab e
  have:=h.t a ha
  have:=h.t b hb
  exact hab (by rw [show a.1=b.1 by walk_at "o",show a.2.1=b.2.1 by walk_at "o"])
 have:=a01 (n:=49) nd fun x hx=>by
  obtain ⟨t,ht,rfl⟩:=zW.mp hx
  have:=h.t t ht
  walk_at "o"
 rw [zD] at this;walk_at "o"
theorem threeAt {i:Int}(h0:0<=i)(h3:i < 3):∃s:Int,atI [D.int 3,.int 5,.int 7] i=some (.int s):=by
 have hc:i=0\/i=1\/i=2:=by walk_at "o"
 rcases hc with rfl | rfl | rfl
 ·exact ⟨_,a_0⟩
 ·exact ⟨_,a_1⟩
 ·exact ⟨_,a_2⟩
abbrev X5:Stmt:=top 39
theorem a1f:FnScope ["pool","most","n","kind","sort","base","ring","ties","a","b","more","gain"] ["pool","most"] (defScope X5):=by walk_at "c"
def a1O (g:LL):Prop:=∀(p m:Int),1<=m->m<=8->∃(n q:Int) (ts:List Tie),WebOk n ts/\g (poolD p) [.int m]=some (.v (webD n ts),poolD q)
theorem a4A {j8:LL}{L0:LL}(b8:FnL P w K mg base "_law_take" k j8)(b9:D7 j8)(K3:FnL P w K mg base "_law_wanted" k L0)(K5:U2 L0)(m_min:mg "min"=none)(j0:mg "range"=none)(j9:mg "tuple"=none)(F:Fun K "_law_web" "_law_web" X5 f fd)(B:Binds K fd ["pool","most"] [])(hm:mg "_law_web"=some (.ref f)):∃g,FnL P w K mg base "_law_web" (k + 1) g/\a1O g:=by
 have nd:=a1f.nd
 refine ⟨_,a3v F a1f B hm rfl rfl (fun cdv A outer s H E hr=>(b4 (g8 2 nd (k7 a8 (j5 b8 hr (a7 (a6 0) (a7 (a6 1) a9)))))
  (b4 (g8 3 nd (j5 b8 hr (a7 (a6 0) (a7 a8 a9))))
  (b4 (g8 4 nd (j5 b8 hr (a7 (a6 0) (a7 a8 a9))))
  (b4 (g8 5 nd (k7 a8 (j5 b8 hr (a7 (a6 0) (a7 a8 a9)))))
  (b4 (g8 6 nd (qx_b (M4 rfl) a15 m_min (a7 (b7 hr (B5 (a7 a8 (a7 a8 (a7 a8 a9)))) (j5 b8 hr (a7 (a6 0) (a7 a8 a9)))) (a7 (k7 (C9 (a6 2) a8) (K9 (a6 2) a8)) a9))))
  (b4 (g8 7 nd (B5 a9))
  (b4 (D1 zX rfl (a05 j0 (a7 (a6 2) a9)) (c6 8 nd) (b5 (D1 zX rfl (b3s j0 (a7 (k7 (a6 8) a8) (a7 (a6 2) a9))) (c6 9 nd) (b5 (n5 (C0 (j5 K3 hr (a7 (a6 0) (a7 (a6 3) (a7 (a6 6) (a7 (a6 8) (a7 (a6 9) a9))))))) (b4 (g8 10 nd (b7 hr (B5 (a7 a8 (a7 (j5 b8 hr (a7 (a6 0) (a7 a8 a9))) (a7 (j5 b8 hr (a7 (a6 0) (a7 a8 a9))) a9)))) (qx_b (M4 rfl) a15 m_min (a7 (a6 4) (a7 a8 a9)))))
  (b4 (g8 11 nd (b7 hr (B5 (a7 (a6 5) (a7 (k7 a8 (a6 10)) (a7 (k7 (a6 5) (a6 10)) (a7 (C9 (a0t a8 a8) (a6 10)) (a7 (k7 a8 (j5 b8 hr (a7 (a6 0) (a7 (a0t a8 a8) a9)))) a9)))))) (a6 4)))
  (b5 (T8 (a0C (a6 7) (a7 (m9 (a7 (a6 8) (a7 (a6 9) (a7 (a6 11) a9)))) a9)))))) j7)))))
  (b5 (c9 (m9 (a7 (a6 2) (a7 (qx_t D4 Z4 j9 (a7 (a6 7) a9)) a9))))))))))))),?_⟩
 intro p m hm1 hm8;obtain ⟨i1,p1,h1,e1⟩:=b9 p m (by walk_at "o") (by walk_at "o")
 obtain ⟨i2,p2,h2,e2⟩:=b9 p1 6 (by decide) (by decide)
 obtain ⟨i3,p3,h3,e3⟩:=b9 p2 5 (by decide) (by decide)
 obtain ⟨i4,p4,h4,e4⟩:=b9 p3 40 (by decide) (by decide)
 obtain ⟨i5,p5,h5,e5⟩:=b9 p4 3 (by decide) (by decide)
 have lp:∀q,lfC (poolD q)=true:=fun q=>rfl;obtain ⟨s5,a5⟩:=threeAt h5.1 h5.2;obtain ⟨n,en,hn⟩:∃n:Int,1 + i1=n/\1<=n/\n<=8:=⟨_,rfl,by walk_at "o",by walk_at "o"⟩
 obtain ⟨bs,eb,hb⟩:∃bs:Int,1 + i4=bs/\1<=bs/\bs<=40:=⟨_,rfl,by walk_at "o",by walk_at "o"⟩
 obtain ⟨rg,er⟩:∃rg:Int,(if n - 1 + n % 2 < s5 then n - 1 + n % 2 else s5)=rg:=⟨_,rfl⟩;have c2:(0:Int) < 2:=by decide
 have r1:(-(2 ^ 62:Int)<=n/\n < 2 ^ 62):=by walk_at "o"
 repeat (first | walk_at "z r" | simp only [e1,lp,e2,e3,e4,e5,a5,en,eb,c2,er,r1])
 generalize el:loopF _ _ _=r;refine J1 el (fun i ρ=>∃(p:Int) (ts:List Tie) (o8 o9 o10 o11:Option D),ρ=[some (.l (poolD p)),some (.v (.int m)),some (.v (.int n)),some (.v (.int i2)),some (.v (.int i3)),some (.v (.int bs)),some (.v (.int rg)),some (.o (.lst (ts.map tieD))),o8.map .v,o9.map .v,o10.map .v,o11.map .v]/\Tz n (i:Int) 0 ts) ⟨p5,[],none,none,none,none,rfl,⟨(fun _ h=>by cases h),List.nodup_nil⟩⟩ ?_ ?_
 ·rintro i x _ hx ⟨p,ts,o8,o9,o10,o11,rfl,ht⟩;obtain ⟨rfl,hi⟩:=a1B hx;rw [Int.zero_add];have r2:((-(2 ^ 62:Int)<=(i:Int) + 1/\(i:Int) + 1 < 2 ^ 62)/\-(2 ^ 62:Int)<=n/\n < 2 ^ 62):=by walk_at "o"
  repeat (first | walk_at "z i" | simp only [r2])
  generalize el2:loopF _ _ _=r2;refine J1 el2 (fun j ρ=>∃(p:Int) (ts:List Tie) (o9 o10 o11:Option D),ρ=[some (.l (poolD p)),some (.v (.int m)),some (.v (.int n)),some (.v (.int i2)),some (.v (.int i3)),some (.v (.int bs)),some (.v (.int rg)),some (.o (.lst (ts.map tieD))),some (.v (.int (i:Int))),o9.map .v,o10.map .v,o11.map .v]/\Tz n (i:Int) ((i:Int) + 1 + (j:Int)) ts) ⟨p,ts,o9,o10,o11,rfl,ht.next (by walk_at "o")⟩ ?_ ?_
  ·rintro j x _ hx ⟨p,ts,o9,o10,o11,rfl,ht⟩;obtain ⟨rfl,hj⟩:=a1B hx;obtain ⟨B,eB,hB⟩:∃B:Int,(i:Int) + 1 + (j:Int)=B/\(i:Int) < B/\B < n:=⟨_,rfl,by walk_at "o",by walk_at "o"⟩
   have eB':(i:Int) + 1 + ((j + 1:Nat):Int)=B + 1:=by walk_at "o"
   rw [eB] at ht ⊢;rw [eB'];obtain ⟨w,q0,ew⟩:=K5 p i2 rg (i:Int) B h2.1 h2.2 (by walk_at "o") (by walk_at "o") (by walk_at "o") (by walk_at "o")
   cases w with
   | false=>
    refine ⟨_,?_,q0,ts,some (.int B),o10,o11,rfl,ht.next (by walk_at "o")⟩
    repeat (first | walk_at "z r" | simp only [ew,lp])
   | true=>
    obtain ⟨j1,q1,g1,k1⟩:=b9 q0 4 (by decide) (by decide)
    obtain ⟨j2,q2,g2,k2⟩:=b9 q1 3 (by decide) (by decide)
    obtain ⟨j3,q3,g3,k3⟩:=b9 q2 (10 ^ 12) (by decide) (by decide)
    have k3:j8 (poolD q2) [.int ((10:Int) ^ (12:Int).toNat)]=some (.v (.int j3),poolD q3):=k3;have pw:CPow 10 12:=by decide
    obtain ⟨mr,am,hm⟩:∃mr:Int,atI [D.int 0,.int j1,.int j2] (if 2 < i3 then 2 else i3)=some (.int mr)/\0<=mr/\mr<=3:=by
     have hc:i3=0\/i3=1\/2<=i3:=by walk_at "o"
     rcases hc with rfl | rfl | h
     ·exact ⟨0,a_0,by walk_at "o",by walk_at "o"⟩
     ·exact ⟨j1,a_1,by walk_at "o",by walk_at "o"⟩
     ·refine ⟨j2,?_,by walk_at "o",by walk_at "o"⟩
      by_cases z:2 < i3
      ·rw [if_pos z];exact a_2
      ·rw [if_neg z,show i3=2 by walk_at "o"];exact a_2
    obtain ⟨gn,ag,hg⟩:∃gn:Int,atI [D.int bs,.int (1 + mr),.int (bs + mr),.int ((10:Int) ^ (12:Int).toNat - mr),.int (1 + j3)] i3=some (.int gn)/\1<=gn/\gn<=10 ^ 12:=by
     have hc:i3=0\/i3=1\/i3=2\/i3=3\/i3=4:=by walk_at "o"
     rcases hc with rfl | rfl | rfl | rfl | rfl
     ·exact ⟨_,a_0,by walk_at "o",by walk_at "o"⟩
     ·exact ⟨_,a_1,by walk_at "o",by walk_at "o"⟩
     ·exact ⟨_,a_2,by walk_at "o",by walk_at "o"⟩
     ·refine ⟨_,a_3,?_,?_⟩ <;> rw [show (10:Int) ^ (12:Int).toNat=10 ^ 12 from rfl] <;> walk_at "o"
     ·exact ⟨_,a_4,by walk_at "o",by walk_at "o"⟩
    have hlen:ts.length < 1000000:=by have:=(ht.web hn).len;walk_at "o"
    refine ⟨_,?_,q3,ts ++ [((i:Int),B,gn)],some (.int B),some (.int mr),some (.int gn),rfl,ht.put (by walk_at "o") hB.1 hB.2 hg⟩
    rw [qF]
    repeat (first | walk_at "z r" | simp only [ew,lp,k1,k2,am,pw,k3,ag,zD,hlen])
    rfl
  ·rintro _ rfl ⟨p,ts,o9,o10,o11,rfl,ht⟩;refine ⟨_,rfl,p,ts,some (.int (i:Int)),o9,o10,o11,rfl,?_⟩;rw [show ((i + 1:Nat):Int)=(i:Int) + 1 by walk_at "o"]
   exact ht.row
 ·rintro _ rfl ⟨p,ts,o8,o9,o10,o11,rfl,ht⟩;have lt:lfL (ts.map tieD)=true:=w4 fun x hx=>by obtain ⟨t,_,rfl⟩:=zW.mp hx;rfl
  refine ⟨n,p,ts,ht.web hn,?_⟩;unfold webD
  repeat (first | walk_at "z r" | simp only [lt,lp])
structure PairOk (n:Int) (ts:List Tie) (ps:List (List Int)):Prop where
 mem:∀p∈ps,p∈parK n ts
 len:ps.length<=8
 prm:ps.flatten.Perm (up n.toNat)
 srt:sortK ps=ps
theorem a5V (ks:List (List Int)):sortK (sortK ks)=sortK ks:=by
 unfold sortK;apply List.mergeSort_of_pairwise;have h:=Z2 ks;unfold sortK at h;exact h.imp fun {a b} hab=>by unfold kleB;rw [hab];rfl
structure Pw (n:Int) (ts:List Tie) (fr:List Int) (ps:List (List Int)):Prop where
 par:∀p∈ps,p∈parK n ts
 perm:(ps.flatten ++ fr).Perm (up n.toNat)
theorem Pw.nd {n:Int}{ts:List Tie}{fr:List Int}{ps:List (List Int)}(h:Pw n ts fr ps):fr.Nodup:=((nodup_append.mp (h.perm.nodup_iff.mpr (a1Z _))).2).1
theorem Pw.rng {n:Int}{ts:List Tie}{fr:List Int}{ps:List (List Int)}(h:Pw n ts fr ps){x:Int}(hx:x∈fr):0<=x/\x < n.toNat:=E5.mp (h.perm.mem_iff.mp (zP _ hx))
theorem Pw.step {n:Int}{ts:List Tie}{fr p:List Int}{ps:List (List Int)}(h:Pw n ts fr ps)(hp:p∈parK n ts)(hs:∀x∈p,x∈fr)(hd:p.Nodup):Pw n ts (fr.filter fun x=>!decide (x∈p)) (ps ++ [p]) where
 par:=fun k hk'=>by
  rcases jC.mp hk' with z | z
  ·exact h.par k z
  ·rw [zU.mp z];exact hp
 perm:=by
  refine List.Perm.trans ?_ h.perm;rw [List.flatten_append,jX];refine List.Perm.append_left _ ?_;rw [xJ,List.flatten_nil,yE];rw [List.perm_ext_iff_of_nodup _ h.nd]
  ·intro x;rw [jC,qW];constructor
   ·rintro (z | z)
    ·exact hs x z
    ·exact z.1
   ·intro z
    by_cases hx:x∈p
    ·exact .inl hx
    ·exact .inr ⟨z,by simpa using hx⟩
  ·rw [nodup_append];exact ⟨hd,h.nd.filter _,fun x hx y hy e=>by subst e;have:=(qW.mp hy).2;simp [hx] at this⟩
theorem b01 {gs:List (List Int)}(h:∀k∈gs,1<=k.length):gs.length<=gs.flatten.length:=by
 induction gs with
 | nil=>exact zE _
 | cons g gs ih=>
  have h1:=h g zH;have h2:=ih fun k hk=>h k (zI _ hk);rw [xJ,zT,qI];walk_at "o"
theorem Pw.len {n:Int}{ts:List Tie}{fr:List Int}{ps:List (List Int)}(h:Pw n ts fr ps)(hw:WebOk n ts):ps.length + fr.length<=8:=by
 have z:=h.perm.length_eq;rw [zT,show (up n.toNat).length=n.toNat by unfold up;simp] at z
 have:=b01 fun k hk=>(P7 hw (h.par k hk)).2.1
 have:=hw.n1
 walk_at "o"
def pairK (one o:Int):List Int:=[if o < one then o else one,if o > one then o else one]
def mat (mu:List Int) (p:Int):Int:=mu.getD p.toNat 0
def MOk (mu:List Int):List Int->Prop
 | [a]=>mat mu a=a
 | [a,c]=>mat mu a=c/\mat mu c=a
 | _=>True
structure Mates (n:Int) (ps:List (List Int)) (mu:List Int):Prop where
 len:mu.length=n.toNat
 ok:∀p∈ps,MOk mu p
theorem a1q {mu:List Int}{a x:Int}{v:Int}(h:0<=a)(hl:a < mu.length)(hx:0<=x):mat (mu.set a.toNat v) x=if x=a then v else mat mu x:=by
 unfold mat;rw [zL,zL]
 by_cases z:x=a
 ·rw [if_pos z,z,yL (by walk_at "o")];rfl
 ·rw [if_neg z,zO (by walk_at "o")]
theorem MOk.same {mu mu':List Int}{p:List Int}(h:MOk mu p)(e:∀x∈p,mat mu' x=mat mu x):MOk mu' p:=by
 match p,h,e with
 | [],_,_=>trivial
 | [a],h,e=>show mat mu' a=a;rw [e a (by simp)];exact h
 | [a,c],h,e=>exact ⟨by rw [e a (by simp)];exact h.1,by rw [e c (by simp)];exact h.2⟩
 | _ :: _ :: _ :: _,_,_=>trivial
theorem Mates.put {n:Int}{ts:List Tie}{ps:List (List Int)}{i:Nat}{mu:List Int}{a c:Int}(hp:PairOk n ts ps)(h:Mates n (ps.take i) mu){k:List Int}(hk:ps[i]? =some k)(hac:k=[a]/\c=a\/k=[a,c]/\a≠c):Mates n (ps.take (i + 1)) ((mu.set a.toNat c).set c.toNat a):=by
 have hd:ps.drop i=k :: ps.drop (i + 1):=by
  obtain ⟨hi,e⟩:=zJ.mp hk;rw [jY hi,e]
 have nd:ps.flatten.Nodup:=(hp.prm.nodup_iff).mpr (a1Z _);have fl:ps.flatten=(ps.take i).flatten ++ (k ++ (ps.drop (i + 1)).flatten):=by
  rw [<-xJ,<-hd,<-List.flatten_append,List.take_append_drop]
 have inU:∀x∈ps.flatten,0<=x/\x < n.toNat:=fun x hx=>E5.mp (hp.prm.mem_iff.mp hx);rw [fl] at nd inU;rw [nodup_append] at nd;have ak:a∈k:=by rcases hac with ⟨rfl,_⟩ | ⟨rfl,_⟩ <;> simp
 have ck:c∈k:=by rcases hac with ⟨rfl,rfl⟩ | ⟨rfl,_⟩ <;> simp
 have ia:=inU a (zP _ (jU _ ak));have ic:=inU c (zP _ (jU _ ck));have hl:=h.len;have get:∀x,0<=x->mat ((mu.set a.toNat c).set c.toNat a) x=if x=c then a else if x=a then c else mat mu x:=fun x hx=>by
  rw [a1q ic.1 (by rw [qL];walk_at "o") hx,a1q ia.1 (by walk_at "o") hx]
 refine ⟨by rw [qL,qL];exact hl,fun p hp'=>?_⟩
 rw [List.take_add_one,hk] at hp';rcases jC.mp hp' with z | z
 ·refine (h.ok p z).same fun x hx=>?_;have hx':x∈(ps.take i).flatten:=List.mem_flatten.mpr ⟨p,z,hx⟩;rw [get x (inU x (jU _ hx')).1,if_neg (fun e=>nd.2.2 x hx' c (jU _ ck) e),if_neg (fun e=>nd.2.2 x hx' a (jU _ ak) e)]
 ·have e:p=k:=by simpa using z
  subst e;rcases hac with ⟨rfl,rfl⟩ | ⟨rfl,ne⟩
  ·show mat _ c=c;rw [get c ic.1,if_pos rfl]
  ·refine ⟨?_,?_⟩
   ·rw [get a ia.1,if_neg ne,if_pos rfl]
   ·rw [get c ic.1,if_pos rfl]
theorem a9m {a:D}:atI [a] (-1)=some a:=rfl
theorem b0Q {a c:D}:atI [a,c] (-1)=some c:=rfl
def upS (n:Int) (ts:List Tie) (k:List Int):List Tie:=[(k.headD 0 + n,k.getLastD 0,gainOf ts k),(k.getLastD 0 + n,k.headD 0,gainOf ts k)]
def dnS (n:Int) (ts:List Tie) (mu:List Int) (p:Int):Tie:=(p,mat mu p + n,-gainOf ts (pairK p (mat mu p)))
def stepsOf (n:Int) (ts:List Tie) (mu:List Int):List Tie:=(sortK (parK n ts)).flatMap (upS n ts) ++ (up n.toNat).map (dnS n ts mu)
abbrev W3:Stmt:=top 28
theorem a1i:FnScope ["web","mates","people","gained","steps","party","one","other","gain","person","mate"] ["web","mates"] (defScope W3):=by walk_at "c"
def a1T (g:LO):Prop:=∀(n:Int) (ts:List Tie) (mu:List Int),WebOk n ts->mu.length=n.toNat->g [webD n ts,.lst (mu.map .int)]=some (.o (.lst ((stepsOf n ts mu).map tieD)))
theorem a3Y {α β:Type}{f:α->List β}{l:List α}{i:Nat}{k:α}(h:l[i]? =some k):(l.take (i + 1)).flatMap f=(l.take i).flatMap f ++ f k:=by
 rw [List.take_add_one,h,List.flatMap_append];simp
theorem I0 {n:Int}{ts:List Tie}:∀l:List (List Int),(l.flatMap (upS n ts)).length=2 * l.length
 | []=>rfl
 | k :: l=>by rw [xX,zT,I0 l,qI];show 2 + _=_;walk_at "o"
theorem a4D {z9:LO}{T6:LO}(z7:Fn P w K mg base "parties" k z9)(A1:T5 z9)(S9:Fn P w K mg base "gains" k T6)(S8:a3X T6)(B7:mg "enumerate"=none)(m_min:mg "min"=none)(m_max:mg "max"=none)(F:Fun K "steps_of" "steps_of" W3 f fd)(B:Binds K fd ["web","mates"] [])(hm:mg "steps_of"=some (.ref f)):∃g,Fn P w K mg base "steps_of" (k + 1) g/\a1T g:=by
 have nd:=a1i.nd
 refine ⟨_,n4 F a1i B hm rfl rfl (fun cdv A outer s H E hr=>(b4 (a4b 2 3 rfl nd (a7 (b7 hr (a6 0) a8) (a7 (g5 S9 hr (a7 (a6 0) a9)) a9)) rfl)
  (b4 (g8 4 nd (B5 a9))
  (b4 (D1 zX rfl (K2 (g5 z7 hr (a7 (a6 0) a9))) (c6 5 nd) (b4 (b2b 6 7 8 rfl nd (a7 (b7 hr (a6 5) a8) (a7 (b7 hr (a6 5) (P4 a8)) (a7 (a5y hr (a6 3) (a7 (a6 5) (a7 a8 a9))) a9))) rfl)
  (b5 (T8 (a7N (a6 4) (a7 (B5 (a7 (m9 (a7 (k7 (a6 6) (a6 2)) (a7 (a6 7) (a7 (a6 8) a9)))) (a7 (m9 (a7 (k7 (a6 7) (a6 2)) (a7 (a6 6) (a7 (a6 8) a9)))) a9))) a9))))))
  (b4 (D1 zX rfl (a59 B7 (a7 (a6 1) a9)) (E1 rfl (g7 (c6 9 nd) (g7 (c6 10 nd) A5))) (b4 (g8 8 nd (a5y hr (a6 3) (a7 (m9 (a7 (qx_b (M4 rfl) a15 m_min (a7 (a6 9) (a7 (a6 10) a9))) (a7 (qx_b (a0B rfl) a52 m_max (a7 (a6 9) (a7 (a6 10) a9))) a9))) (a7 a8 a9))))
  (b5 (T8 (a0C (a6 4) (a7 (m9 (a7 (a6 9) (a7 (k7 (a6 10) (a6 2)) (a7 (P4 (a6 8)) a9)))) a9))))))
  (b5 (c9 (a6 4)))))))),?_⟩
 intro n ts mu hw hmu;have hn:=hw.n1;have eg:=S8 n ts hw;have ep:=A1 n ts hw;have lf1:lfL (ts.map fun t=>D.int t.2.2)=true:=w4 fun y hy=>by obtain ⟨x,hx,rfl⟩:=zW.mp hy;rfl
 have g6:∀k ρ,ge6 (tupI k) (.int 0) ρ (some (.dT (ts.map tkK) (ts.map fun t=>D.int t.2.2)))=some (.v (.int (gainOf ts k)),ρ):=fun k ρ=>by rw [a7m (a66 k),a0A]
 unfold webD;unfold webD at eg ep;have lk:=D2 (sortK (parK n ts));have pk:=Y3 hw;have kl:(sortK (parK n ts)).length<=63:=by rw [(m5 _).length_eq];exact pk.1
 have km:∀k∈sortK (parK n ts),k∈parK n ts:=fun k hk=>(m5 _).mem_iff.mp hk;unfold stepsOf;generalize sortK (parK n ts)=ks at lk kl km ep
 repeat (first | walk_at "z i" | simp only [eg,lf1,ep,lk])
 generalize el:loopF _ _ _=r;refine J1 el (fun i ρ=>∃(o5 o6 o7 o8:Option D),ρ=[some (.v (.tup [.int n,.tup (ts.map tieD)])),some (.v (.lst (mu.map .int))),some (.v (.int n)),some (.v (.dT (ts.map tkK) (ts.map fun t=>D.int t.2.2))),some (.o (.lst (((ks.take i).flatMap (upS n ts)).map tieD))),o5.map .v,o6.map .v,o7.map .v,o8.map .v,none,none]) ⟨none,none,none,none,rfl⟩ ?_ ?_
 ·rintro i x _ hx ⟨o5,o6,o7,o8,rfl⟩;rw [qA] at hx;cases hk:ks[i]? with
  | none=>rw [hk] at hx;cases hx
  | some k=>
   rw [hk] at hx;cases hx;have il:=(zJ.mp hk).1;have e:=a3Y (f:=upS n ts) hk;have hle:((ks.take i).flatMap (upS n ts)).length + 2<=1000000:=by rw [I0,length_take];walk_at "o"
   have hle':((ks.take i).flatMap (upS n ts)).length<=999998:=by walk_at "o"
   rw [e,qF];rcases a55 hw (km k (jV hk)) with ⟨a,rfl⟩ | ⟨a,c,rfl,ha,hac,hc,hg1⟩
   ·refine ⟨_,?_,some (tupI [a]),some (.int a),some (.int a),some (.int (gainOf ts [a])),rfl⟩;have gk:∀ρ,ge6 (.tup [.int a]) (.int 0) ρ (some (.dT (ts.map tkK) (ts.map fun t=>D.int t.2.2)))=some (.v (.int (gainOf ts [a])),ρ):=g6 [a];rw [show upS n ts [a]=[(a + n,a,gainOf ts [a]),(a + n,a,gainOf ts [a])] from rfl];unfold tupI
    repeat (first | walk_at "z r" | simp only [a9m,gk,b2z,a9A,a9V,zD,hle,hle',tieD])
   ·refine ⟨_,?_,some (tupI [a,c]),some (.int a),some (.int c),some (.int (gainOf ts [a,c])),rfl⟩;have gk:∀ρ,ge6 (.tup [.int a,.int c]) (.int 0) ρ (some (.dT (ts.map tkK) (ts.map fun t=>D.int t.2.2)))=some (.v (.int (gainOf ts [a,c])),ρ):=g6 [a,c];rw [show upS n ts [a,c]=[(a + n,c,gainOf ts [a,c]),(c + n,a,gainOf ts [a,c])] from rfl];unfold tupI
    repeat (first | walk_at "z r" | simp only [b0Q,gk,b2z,a9A,a9V,zD,hle,hle',tieD])
 ·rintro _ rfl ⟨o5,o6,o7,o8,rfl⟩;rw [zD,take_length,qF];have fl:(ks.flatMap (upS n ts)).length<=126:=by rw [I0];walk_at "o"
  generalize ks.flatMap (upS n ts)=U at fl
  repeat (first | walk_at "z i")
  generalize el2:loopF _ _ _=r2;refine J1 el2 (fun i ρ=>∃(o5 o6 o7 o8 o9 o10:Option D),ρ=[some (.v (.tup [.int n,.tup (ts.map tieD)])),some (.v (.lst (mu.map .int))),some (.v (.int n)),some (.v (.dT (ts.map tkK) (ts.map fun t=>D.int t.2.2))),some (.o (.lst (U.map tieD ++ ((up i).map (dnS n ts mu)).map tieD))),o5.map .v,o6.map .v,o7.map .v,o8.map .v,o9.map .v,o10.map .v]) ⟨o5,o6,o7,o8,none,none,by simp [up]⟩ ?_ ?_
  ·rintro i x _ hx ⟨o5,o6,o7,o8,o9,o10,rfl⟩;obtain ⟨hi,ex⟩:∃hi:i < mu.length,x= .tup [.int i,.int mu[i]]:=by
    unfold enumD at hx;rw [List.getElem?_mapIdx,qA] at hx
    by_cases z:i < mu.length
    ·refine ⟨z,?_⟩;rw [zZ z] at hx;simpa using hx.symm
    ·rw [jI (by walk_at "o")] at hx;cases hx
   subst ex;have em:mat mu (i:Int)=mu[i]:=by
    unfold mat;rw [qM,zL,zZ hi];rfl
   have gk:∀ρ,ge6 (.tup [.int (if mu[i] < (i:Int) then mu[i] else (i:Int)),.int (if mu[i] > (i:Int) then mu[i] else (i:Int))]) (.int 0) ρ (some (.dT (ts.map tkK) (ts.map fun t=>D.int t.2.2)))=some (.v (.int (gainOf ts (pairK (i:Int) mu[i]))),ρ):=g6 (pairK (i:Int) mu[i]);have ul:(up i).length<=8:=by rw [C1];walk_at "o"
   have hle:U.length + (up i).length < 1000000:=by walk_at "o"
   have us:(up (i + 1)).map (dnS n ts mu)=(up i).map (dnS n ts mu) ++ [((i:Int),mu[i] + n,-gainOf ts (pairK (i:Int) mu[i]))]:=by
    unfold up;rw [List.range_succ,qF,qF,yD,yD,Int.zero_add];show _ ++ [((i:Int),mat mu (i:Int) + n,-gainOf ts (pairK (i:Int) (mat mu (i:Int))))]=_;rw [em]
   refine ⟨_,?_,o5,o6,o7,some (.int (gainOf ts (pairK (i:Int) mu[i]))),some (.int i),some (.int mu[i]),rfl⟩;rw [us,qF,<-jX]
   repeat (first | walk_at "z r" | simp only [gk,zK,map_nil,zT,zD,hle,tieD])
  ·rintro _ rfl ⟨o5,o6,o7,o8,o9,o10,rfl⟩;have el3:(enumD (mu.map D.int)).length=n.toNat:=by unfold enumD;rw [length_mapIdx,zD,hmu]
   rw [el3];walk_at "q"
def optD:Option Tie->D
 | some s=>tieD s
 | none=>.non
theorem Z7 (p:List (Option Tie)):lfL (p.map optD)=true:=w4 fun x hx=>by obtain ⟨o,_,rfl⟩:=zW.mp hx;cases o <;> rfl
theorem a0l (p:List Tie):lfL (p.map tieD)=true:=w4 fun x hx=>by obtain ⟨o,_,rfl⟩:=zW.mp hx;rfl
theorem a6q {m:List Int}{v:Int}(h:0<=v)(l:v < m.length):atI (m.map D.int) v=some (.int (mkv m v.toNat)):=a6b h l
theorem a9C {p:List (Option Tie)}{v:Int}(h:0<=v)(l:v < p.length):atI (p.map optD) v=some (optD (parAt p v.toNat)):=by
 refine a5D h ?_;unfold parAt;rw [qA,zL,zZ (by walk_at "o")]
 rfl
theorem rep0 (m:Nat):(List.replicate m [D.int 0]).flatten=(List.replicate m (0:Int)).map D.int:=by
 rw [List.map_replicate,List.flatten_replicate_singleton]
theorem repN (m:Nat):(List.replicate m [D.non]).flatten=(List.replicate m (none:Option Tie)).map optD:=by
 rw [List.map_replicate,List.flatten_replicate_singleton];rfl
def lastD:Option Nat->D
 | some v=>.int v
 | none=>.non
structure Calm (S:List Tie) (N:Nat) (m:List Int):Prop where
 len:m.length=N
 kept:∀s∈S,Kept m s
 m0:∀v,0<=mkv m v
 mb:∀v,mkv m v<=10 ^ 16
theorem Bf.calm {S:List Tie}{N k:Nat}{m:List Int}{p:List (Option Tie)}{r t:Nat->Nat}{c:Nat}(h:Bf S N k S.length m p none r t c)(hk1:1<=k)(hk:k<=16)(hS:S.length<=200):Calm S N m:=⟨h.lm,h.all rfl,h.m0,fun v=>by
 have h1:=h.mb v;have h2:=h.cb;have h3:(k - 1) * S.length<=15 * 200:=Nat.mul_le_mul (by walk_at "o") hS
 have h4:c<=3200:=by walk_at "o"
 walk_at "o"⟩
abbrev a0Z:Stmt:=top 29
theorem a1C:FnScope ["marks","steps","raised_by","last","turn","step","start","end","more"] ["marks","steps"] (defScope a0Z):=by walk_at "c"
def a24 (g:LO):Prop:=∀(N:Nat) (S:List Tie),StOk N S->1<=N->N<=16->(∃(m:List Int) (p:List (Option Tie)),Calm S N m/\g [.lst ((List.replicate N (0:Int)).map .int),.lst (S.map tieD)]=some (.v (.tup [.lst (m.map .int),.lst (p.map optD),.non])))\/∃(m:List Int) (p:List (Option Tie)) (v:Nat) (r t:Nat->Nat) (c:Nat),Bf S N N S.length m p (some v) r t c/\g [.lst ((List.replicate N (0:Int)).map .int),.lst (S.map tieD)]=some (.v (.tup [.lst (m.map .int),.lst (p.map optD),.int v]))
theorem a5u (j0:mg "range"=none)(N6:mg "list"=none)(m_len:mg "len"=none)(F:Fun K "climbed" "climbed" a0Z f fd)(B:Binds K fd ["marks","steps"] [])(hm:mg "climbed"=some (.ref f)):∃g,Fn P w K mg base "climbed" (k + 1) g/\a24 g:=by
 have nd:=a1C.nd
 refine ⟨_,n4 F a1C B hm rfl rfl (fun cdv A outer s H E hr=>(b4 (a8R 0 2 3 rfl nd (a4Y rfl N6 (a7 (a6 0) a9)) (b1j (b4f m_len (b1t 0))) b4k rfl)
  (b4 (D1 zX rfl (a05 j0 (a7 (qx_b l5 G7 m_len (a7 (a6 0) a9)) a9)) (c6 4 nd) (b4 (g8 3 nd a0S)
  (b4 (D1 zX rfl (K2 (a6 1)) (c6 5 nd) (b4 (A8 (a6 5) (E1 rfl (g7 (c6 6 nd) (g7 (c6 7 nd) (g7 (c6 8 nd) A5)))))
  (b5 (n5 (a3d (b4r (a8O (b7 hr (a6 0) (a6 6)) a0S) (b14 (a3d (a08 (a9a (b7 hr (a6 0) (a6 7)) a0S) (a12 (a4g hr (b7 hr (a6 0) (a6 7)) (k7 (b7 hr (a6 0) (a6 6)) (a6 8))))))))) (b5 (A8 (m9 (a7 (k7 (b7 hr (a6 0) (a6 6)) (a6 8)) (a7 (a6 5) (a7 (a6 7) a9)))) (E1 rfl (g7 (G8 (a6 0) (a6 7)) (g7 (G8 (a6 2) (a6 7)) (g7 (c6 3 nd) A5)))))) j7))))
  (b5 (n5 (a9a (a6 3) a0S) (b5 b0U) j7)))))
  (b5 (c9 (m9 (a7 (a6 0) (a7 (a6 2) (a7 (a6 3) a9))))))))),?_⟩
 intro N S hS hN1 hN;have l0:=t7 (List.replicate N (0:Int));have orp:oRep (.lst [.non]) (.int (N:Int))=some (.o (.lst ((List.replicate N (none:Option Tie)).map optD))):=by
  rw [b2H ⟨by walk_at "o",by rw [jQ];unfold lim;walk_at "o"⟩,qM,repN]
 have lo:=Z7 (List.replicate N none);have ln:((List.replicate N (0:Int)).map D.int).length=N:=by rw [zD,length_replicate]
 have r1:(-(2 ^ 62:Int)<=(N:Int)/\(N:Int) < 2 ^ 62):=by walk_at "o"
 repeat (first | walk_at "z i" | simp only [r_to,r_to2,r_to3,r_to4,b1G,a9f,b1h,a9n,r_fpv,b3Y,r_fpc,l0,orp,lo,ln,r1,qM])
 generalize el:loopF _ _ _=r0;refine a8I el (fun k ρ=>∃(m:List Int) (p:List (Option Tie)) (la:Option Nat) (r t:Nat->Nat) (c:Nat) (o4 o5 o6 o7 o8:Option D),ρ=[some (.o (.lst (m.map .int))),some (.v (.lst (S.map tieD))),some (.o (.lst (p.map optD))),some (.v (lastD la)),o4.map .v,o5.map .v,o6.map .v,o7.map .v,o8.map .v]/\Bf S N (k + 1) 0 m p none r t c/\(k=0\/∃v,la=some v/\Bf S N k S.length m p (some v) r t c)) (fun ρ=>∃(m:List Int) (p:List (Option Tie)) (o4 o5 o6 o7 o8:Option D),ρ=[some (.o (.lst (m.map .int))),some (.v (.lst (S.map tieD))),some (.o (.lst (p.map optD))),some (.v .non),o4.map .v,o5.map .v,o6.map .v,o7.map .v,o8.map .v]/\Calm S N m) ⟨_,_,none,_,_,_,none,none,none,none,none,rfl,Bf.start,.inl rfl⟩ ?_ ?_
 ·rintro k x _ hx ⟨m,p,la,r,t,c,o4,o5,o6,o7,o8,rfl,hb,_⟩;obtain ⟨rfl,hk⟩:=a1B hx
  repeat (first | walk_at "z i")
  generalize el2:loopF _ _ _=r2;refine J1 el2 (fun i ρ=>∃(m:List Int) (p:List (Option Tie)) (la:Option Nat) (r t:Nat->Nat) (c:Nat) (o5 o6 o7 o8:Option D),ρ=[some (.o (.lst (m.map .int))),some (.v (.lst (S.map tieD))),some (.o (.lst (p.map optD))),some (.v (lastD la)),some (.v (.int (0 + (k:Int)))),o5.map .v,o6.map .v,o7.map .v,o8.map .v]/\Bf S N (k + 1) i m p la r t c) ⟨m,p,none,r,t,c,o5,o6,o7,o8,rfl,hb⟩ ?_ ?_
  ·rintro i x _ hx ⟨m,p,la,r,t,c,o5,o6,o7,o8,rfl,hb⟩;rw [qA] at hx;cases hs:S[i]? with
   | none=>rw [hs] at hx;cases hx
   | some s=>
    rw [hs] at hx;cases hx;have g:=hS.rng s (jV hs);have lm:=hb.lm;have lp:=hb.lp;have a1:=a6q (m:=m) (v:=s.1) g.1 (by walk_at "o")
    have a2:=a6q (m:=m) (v:=s.2.1) g.2.2.1 (by walk_at "o")
    have a1:atI (m.map D.int) s.1=some (.int (mkv m (sS s))):=a1;have a2:atI (m.map D.int) s.2.1=some (.int (mkv m (sE s))):=a2;have x1:ixN (m.map D.int).length s.2.1=some (sE s):=a0w g.2.2.1 (by rw [zD];walk_at "o")
    have x2:ixN (p.map optD).length s.2.1=some (sE s):=a0w g.2.2.1 (by rw [zD];walk_at "o")
    have s1:(m.map D.int).set (sE s) (.int (mkv m (sS s) + s.2.2))=(m.set (sE s) (mkv m (sS s) + s.2.2)).map .int:=map_set.symm;have s2:(p.map optD).set (sE s) (.tup [.int s.1,.int s.2.1,.int s.2.2])=(p.set (sE s) (some s)).map optD:=by
     rw [map_set];rfl
    have eE:lastD (some (sE s))= .int s.2.1:=by
     show D.int ((s.2.1.toNat:Nat):Int)=_;rw [yA g.2.2.1]
    have fla:freeO (some (W.v (lastD la)))=true:=rfl
    by_cases hk:Kept m s
    ·have hd:decide (mkv m (sE s) < mkv m (sS s) + s.2.2)=false:=qK (by unfold Kept at hk;walk_at "o")
     refine ⟨_,?_,m,p,la,r,t,c,some (tieD s),some (.int s.1),some (.int s.2.1),some (.int s.2.2),rfl,hb.skip hs hk⟩;unfold tieD
     repeat (first | walk_at "z r" | simp only [a1,a2,hd])
    ·have hd:decide (mkv m (sE s) < mkv m (sS s) + s.2.2)=true:=qE (by unfold Kept at hk;walk_at "o")
     refine ⟨_,?_,_,_,some (sE s),_,_,_,some (tieD s),some (.int s.1),some (.int s.2.1),some (.int s.2.2),rfl,hb.raise hS hs hk (by walk_at "o")⟩
     rw [eE];unfold tieD
     repeat (first | walk_at "z r" | simp only [a1,a2,hd,x1,x2,s1,s2,fla])
  ·rintro _ rfl ⟨m,p,la,r,t,c,o5,o6,o7,o8,rfl,hb⟩;rw [zD] at hb;cases la with
   | none=>
    right;refine ⟨_,?_,m,p,some (.int (0 + (k:Int))),o5,o6,o7,o8,rfl,hb.calm (by walk_at "o") (by walk_at "o") hS.len⟩
    unfold lastD;walk_at "q"
   | some v=>
    left;refine ⟨_,?_,m,p,some v,r,t,c,some (.int (0 + (k:Int))),o5,o6,o7,o8,rfl,hb.next rfl (by walk_at "o"),.inr ⟨v,rfl,hb⟩⟩
    unfold lastD;walk_at "q"
 ·rintro _ rfl (⟨m,p,la,r,t,c,o4,o5,o6,o7,o8,rfl,hb,h⟩ | ⟨m,p,o4,o5,o6,o7,o8,rfl,hc⟩)
  ·rw [U0] at h hb;rcases h with h | ⟨v,rfl,h⟩
   ·walk_at "o"
   ·right;have l1:=t7 m;have l2:=Z7 p;refine ⟨m,p,v,r,t,c,h,?_⟩;unfold lastD
    repeat (first | walk_at "z r" | simp only [l1,l2])
  ·left;have l1:=t7 m;have l2:=Z7 p;refine ⟨m,p,hc,?_⟩
   repeat (first | walk_at "z r" | simp only [l1,l2])
theorem b3L {l:List D}{x:D}:atI (l ++ [x]) (-1)=some x:=by
 unfold atI ixN;rw [zT,jQ,if_neg (by decide),if_pos (by walk_at "o"),bind_some,show (-1 + ((l.length + 1:Nat):Int)).toNat=l.length by walk_at "o"]
 simp
theorem a8Q (S:List Tie)(s:Tie):atI ((S ++ [s]).map tieD) (-1)=some (tieD s):=by
 rw [qF];exact b3L
abbrev a0Y:Stmt:=top 30
theorem a1L:FnScope ["steps","people","marks","raised_by","last","turn","ring"] ["steps","people"] (defScope a0Y):=by walk_at "c"
def a20 (g:LO):Prop:=∀(n:Int) (N:Nat) (S:List Tie),1<=n->n<=8->2 * n=(N:Int)->StOk N S->(∃m:List Int,Calm S N m/\g [.lst (S.map tieD),.int n]=some (.v (.tup [.lst (m.map .int),.lst []])))\/∃R:List Tie,Ring S N R/\g [.lst (S.map tieD),.int n]=some (.v (.tup [.non,.lst (R.map tieD)]))
def lenG:List (Option W)->Nat:=fun ρ=>match ρ[6]? with
 | some (some (W.o (D.lst xs)))=>xs.length
 | _=>0
theorem a5J {a0G:LO}(a0y:Fn P w K mg base "climbed" k a0G)(a02:a24 a0G)(j0:mg "range"=none)(m_len:mg "len"=none)(F:Fun K "settled" "settled" a0Y f fd)(B:Binds K fd ["steps","people"] [])(hm:mg "settled"=some (.ref f)):∃g,Fn P w K mg base "settled" (k + 1) g/\a20 g:=by
 have nd:=a1L.nd
 refine ⟨_,n4 F a1L B hm rfl rfl (fun cdv A outer s H E hr=>(b4 (A8 (g5 a0y hr (a7 (b4o (B5 (a7 a8 a9)) (m8 a8 (a6 1))) (a7 (a6 0) a9))) (E1 rfl (g7 (c6 2 nd) (g7 (c6 3 nd) (g7 (c6 4 nd) A5)))))
  (b4 (n5 (a9a (a6 4) a0S) (b5 (c9 (m9 (a7 (a6 2) (a7 (B5 a9) a9))))) j7)
  (b4 (D1 zX rfl (a05 j0 (a7 (qx_b l5 G7 m_len (a7 (a6 2) a9)) a9)) (c6 5 nd) (b5 (g8 4 nd (b7 hr (b7 hr (a6 3) (a6 4)) a8))))
  (b4 (g8 6 nd (B5 (a7 (b7 hr (a6 3) (a6 4)) a9)))
  (b4 (Z3 zX (a5l hr (b7 hr (b7 hr (a6 6) (P4 a8)) a8) (a6 4)) (b5 (T8 (a0C (a6 6) (a7 (b7 hr (a6 3) (b7 hr (b7 hr (a6 6) (P4 a8)) a8)) a9)))))
  (b5 (c9 (m9 (a7 a0S (a7 (a6 6) a9))))))))))),?_⟩
 intro n N S hn1 hn8 hN hS;have m2:mOk 2 n:=.inl (by decide)
 have orp:oRep (.lst [.int 0]) (.int (N:Int))=some (.o (.lst ((List.replicate N (0:Int)).map .int))):=by
  rw [b2H ⟨by walk_at "o",by rw [jQ];unfold lim;walk_at "o"⟩,qM,rep0]
 have l0:=t7 (List.replicate N (0:Int));have ls:=a0l S;rcases a02 N S hS (by walk_at "o") (by walk_at "o") with ⟨m,p,hc,e⟩ | ⟨m,p,v,r,t,c,hb,e⟩
 ·left;have l1:=t7 m;have l2:=Z7 p;refine ⟨m,hc,?_⟩
  repeat (first | walk_at "z r" | simp only [m2,hN,orp,l0,ls,e,l1,l2])
 ·right;have l1:=t7 m;have l2:=Z7 p;have hr:=hb.ringed hS;obtain ⟨tu,Q,q1,q2,eQ⟩:=hr.turn;have ln:(m.map D.int).length=N:=by rw [zD];exact hb.lm
  have lp:=hb.lp;have r1:(-(2 ^ 62:Int)<=(N:Int)/\(N:Int) < 2 ^ 62):=by walk_at "o"
  repeat (first | walk_at "z r" | simp only [m2,hN,orp,l0,ls,e,l1,l2,ln,r1,qM])
  generalize el:loopF _ _ _=r0;refine J1 el (fun j ρ=>∃(o5:Option D),ρ=[some (.v (.lst (S.map tieD))),some (.v (.int n)),some (.v (.lst (m.map .int))),some (.v (.lst (p.map optD))),some (.v (.int ((far p v j:Nat):Int))),o5.map .v,none]) ⟨none,rfl⟩ ?_ ?_
  ·rintro j x _ hx ⟨o5,rfl⟩;obtain ⟨rfl,hj⟩:=a1B hx;obtain ⟨s,hs⟩:=hr.back j hj;have hlt:=hr.rng j (by walk_at "o")
   have g:=hS.rng s (hb.par _ s hs).1;have a1:=a9C (p:=p) (v:=((far p v j:Nat):Int)) (by walk_at "o") (by walk_at "o")
   rw [qM,hs] at a1;have a1:atI (p.map optD) ((far p v j:Nat):Int)=some (.tup [.int s.1,.int s.2.1,.int s.2.2]):=a1;have ef:((far p v (j + 1):Nat):Int)=s.1:=by
    rw [far,nxt,hs];show ((s.1.toNat:Nat):Int)=_;rw [yA g.1]
   refine ⟨_,?_,some (.int (0 + (j:Int))),rfl⟩;rw [ef]
   repeat (first | walk_at "z r" | simp only [a1])
  ·rintro _ rfl ⟨o5,rfl⟩;rw [U0];obtain ⟨V,eV⟩:∃V,far p v N=V:=⟨_,rfl⟩;have tv:∀a,∃s,parAt p (far p V a)=some s:=fun a=>by rw [<-eV,<-a0f];exact tu _ (by walk_at "o")
   have eQ:far p V Q=V:=by rw [<-eV,<-a0f,eQ]
   have vl:V < N:=by rw [<-eV];exact hr.rng N (zE _)
   have fl:∀a,far p V a < N:=fun a=>by
    cases a with
    | zero=>exact vl
    | succ a=>
     obtain ⟨s,hs⟩:=tv a;have g:=hS.rng s (hb.par _ s hs).1;rw [far,nxt,hs];show s.1.toNat < N;walk_at "o"
   have an:∀a,∃s:Tie,parAt p (far p V a)=some s/\s.1=((far p V (a + 1):Nat):Int)/\atI (p.map optD) ((far p V a:Nat):Int)=some (.tup [.int s.1,.int s.2.1,.int s.2.2]):=fun a=>by
    obtain ⟨s,hs⟩:=tv a;have g:=hS.rng s (hb.par _ s hs).1;refine ⟨s,hs,?_,?_⟩
    ·rw [far,nxt,hs];show s.1=((s.1.toNat:Nat):Int);rw [yA g.1]
    ·have hlt:=fl a;have a1:=a9C (p:=p) (v:=((far p V a:Nat):Int)) (by walk_at "o") (by walk_at "o")
     rw [qM,hs] at a1;exact a1
   rw [eV];obtain ⟨s0,hs0,hs1,hs2⟩:=an 0;have hs2:atI (p.map optD) ((V:Nat):Int)=some (.tup [.int s0.1,.int s0.2.1,.int s0.2.2]):=hs2;have R1:[D.tup [.int s0.1,.int s0.2.1,.int s0.2.2]]=(ringL p V 1).map tieD:=by
    rw [ringL,hs0];rfl
   repeat (first | walk_at "z i" | simp only [hs2])
   rw [R1];generalize ew:whileV _ _ _=r1;refine a2m ew (fun ρ=>∃q:Nat,ρ=[some (.v (.lst (S.map tieD))),some (.v (.int n)),some (.v (.lst (m.map .int))),some (.v (.lst (p.map optD))),some (.v (.int ((V:Nat):Int))),o5.map .v,some (.o (.lst ((ringL p V (q + 1)).map tieD)))]/\q + 1<=Q/\∀a,0 < a->a < q + 1->far p V a≠V) (fun ρ=>∃q:Nat,ρ=[some (.v (.lst (S.map tieD))),some (.v (.int n)),some (.v (.lst (m.map .int))),some (.v (.lst (p.map optD))),some (.v (.int ((V:Nat):Int))),o5.map .v,some (.o (.lst ((ringL p V (q + 1)).map tieD)))]/\q + 1<=Q/\far p V (q + 1)=V/\∀a,0 < a->a < q + 1->far p V a≠V) (fun ρ=>Q - lenG ρ) ⟨0,rfl,q1,fun a h1 h2=>by walk_at "o"⟩ ?_ ?_
   ·rintro _ ⟨q,rfl,hq,hfa⟩;obtain ⟨s,hs,hs1,hs2⟩:=an q;have la:atI ((ringL p V (q + 1)).map tieD) (-1)=some (.tup [.int s.1,.int s.2.1,.int s.2.2]):=by
     rw [ringL,hs,toList_some,a8Q];rfl
    have rl:(ringL p V (q + 1)).length=q + 1:=L4 fun a _=>tv a
    by_cases hz:far p V (q + 1)=V
    ·left;have z:((((far p V (q + 1):Nat):Int) == ((V:Nat):Int)))=true:=by rw [hz];exact beq_self_eq_true _
     refine ⟨_,?_,q,rfl,hq,hz,hfa⟩
     repeat (first | walk_at "z r" | simp only [la,hs1,z])
    ·right;have z:((((far p V (q + 1):Nat):Int) == ((V:Nat):Int)))=false:=xY.mpr (by walk_at "o")
     have hq2:q + 2<=Q:=by
      rcases Nat.lt_or_ge (q + 1) Q with h | h
      ·exact h
      ·exact absurd (by rw [show q + 1=Q by walk_at "o"];exact eQ) hz
     obtain ⟨s',hs',hs1',hs2'⟩:=an (q + 1);have rn:ringL p V (q + 1 + 1)=ringL p V (q + 1) ++ [s']:=by rw [ringL,hs',toList_some]
     have rl2:(ringL p V (q + 1 + 1)).length=q + 1 + 1:=L4 fun a _=>tv a;have lt:(ringL p V (q + 1)).length < 1000000:=by walk_at "o"
     refine ⟨[some (.v (.lst (S.map tieD))),some (.v (.int n)),some (.v (.lst (m.map .int))),some (.v (.lst (p.map optD))),some (.v (.int ((V:Nat):Int))),o5.map .v,some (.o (.lst ((ringL p V (q + 1)).map tieD)))],_,?_,?_,⟨q + 1,rfl,hq2,fun a h1 h2=>?_⟩,?_⟩
     ·repeat (first | walk_at "z r" | simp only [la,hs1,z])
     ·rw [rn,qF]
      repeat (first | walk_at "z r" | simp only [la,hs1,hs2',zD,lt])
      rfl
     ·by_cases z':a=q + 1
      ·rw [z'];exact hz
      ·exact hfa a h1 (by walk_at "o")
     ·show Q - ((ringL p V (q + 1 + 1)).map tieD).length < Q - ((ringL p V (q + 1)).map tieD).length;rw [zD,zD,rl,rl2];walk_at "o"
   ·rintro _ rfl ⟨q,rfl,hq,hz,hfa⟩;have lr:=a0l (ringL p V (q + 1));refine ⟨ringL p V (q + 1),hb.ring (fun a _=>tv a) (by walk_at "o") (by walk_at "o") hz hfa,?_⟩
    repeat (first | walk_at "z r" | simp only [lr])
def shM (n:Int) (m:List Int) (p:Int):Rat:=Rat.divInt (mkv m p.toNat - mkv m (p + n).toNat) 2
def shH (n:Int) (m:List Int):D->D
 | .int p=>ratD (shM n m p)
 | d=>d
theorem a62 (n:Int)(m:List Int):((rngD 0 n.toNat).filter fun _=>true).map (shH n m)=((up n.toNat).map (shM n m)).map ratD:=by
 rw [m4,a5X,qG,qG];rfl
abbrev R0:Stmt:=top 31
theorem Y8:FnScope ["marks","people"] ["marks"] (defScope R0):=by walk_at "c"
def a04 (g:LO):Prop:=∀(n:Int) (m:List Int),1<=n->n<=8->(m.length:Int)=2 * n->g [.lst (m.map .int)]=some (.v (.tup (((up n.toNat).map (shM n m)).map ratD)))
theorem a3G {E8:LO}(F1:Fn P w K mg base "ratio" k E8)(E9:a1o E8)(j9:mg "tuple"=none)(m_len:mg "len"=none)(j0:mg "range"=none)(F:Fun K "shares_by" "shares_by" R0 f fd)(B:Binds K fd ["marks"] [])(hm:mg "shares_by"=some (.ref f)):∃g,Fn P w K mg base "shares_by" (k + 1) g/\a04 g:=by
 have nd:=Y8.nd
 refine ⟨_,n4 F Y8 B hm rfl rfl (fun cdv A outer s H E hr=>(b4 (g8 1 nd (O0 (qx_b l5 G7 m_len (a7 (a6 0) a9)) a8))
  (b5 (c9 (qx_t D4 Z4 j9 (a7 (w6 (N:=["person","marks","people"]) (js:=[none,some 0,some 1]) (li:=none) rfl (A2 (by exact (.own (.cap rfl rfl rfl rfl (.cap rfl rfl rfl rfl .nil)))) rfl (by exact ⟨rfl,⟨rfl,trivial⟩⟩) (by rfl)) (X0 (a05 j0 (a7 (a6 1) a9))) (fun _ _ _ _=>(c6 0 (show ((["person","marks","people"]:List Str) ++ [accN]).Nodup by decide +kernel))) (fun _ _ _ _=>w5) (fun _ _ _ _=>(g5 F1 hr (a7 (C9 (b7 hr (a6 1) (a6 0)) (b7 hr (a6 1) (k7 (a6 0) (a6 2)))) (a7 a8 a9))))) a9)))))),?_⟩
 intro n m h1 h8 hm;have d2:dOk 2:=a4m (by decide) (by decide)
 have e2:((m.length:Nat):Int) / 2=n:=by walk_at "o"
 have r1:(-(2 ^ 62:Int)<=n/\n < 2 ^ 62):=by walk_at "o"
 have l1:=t7 m;have lr:lfL (((up n.toNat).map (shM n m)).map ratD)=true:=w4 fun x hx=>by obtain ⟨q,_,rfl⟩:=zW.mp hx;rfl
 repeat (first | walk_at "z r" | simp only [zD,d2,e2])
 rw [t6 (ρ1:=[some (.v (.lst (m.map .int))),some (.v (.int n))]) (xs:=rngD 0 n.toNat) (fun B=>∃o1:Option D,B=[o1.map .v,some (.v (.lst (m.map .int))),some (.v (.int n))]) (fun _=>true) (shH n m)]
 ·rw [a62]
  repeat (first | walk_at "z r" | simp only [lr])
 ·repeat (first | walk_at "z r" | simp only [r1])
 ·rintro _ ⟨_,rfl⟩;rfl
 ·exact ⟨none,rfl⟩
 ·rw [U0];unfold lim;walk_at "o"
 ·rw [a62];exact lr
 ·rintro x hx _ zs ⟨o1,rfl⟩;obtain ⟨i,rfl,hi⟩:=T0 hx;have a1:=a6q (m:=m) (v:=i) (by walk_at "o") (by walk_at "o")
  have a2:=a6q (m:=m) (v:=i + n) (by walk_at "o") (by walk_at "o")
  have er:=E9 (mkv m i.toNat - mkv m (i + n).toNat) 2 (by decide) (by decide)
  refine ⟨[some (.v (.int i)),some (.v (.lst (m.map .int))),some (.v (.int n))],.v (ratD (shM n m i)),⟨some _,rfl⟩,?_,rfl,fun _=>⟨?_,.inl rfl⟩⟩
  ·walk_at "q"
  ·repeat (first | walk_at "z r" | simp only [a1,a2,er,A6])
   rfl
def twice (a b:Int):List (List Int):=if a=b then [[a],[a]] else [pairK a b]
abbrev K1:Stmt:=top 32
theorem R9:FnScope ["one","other"] ["one","other"] (defScope K1):=by walk_at "c"
def U4 (g:LO):Prop:=∀a b:Int,g [.int a,.int b]=some (.o (.lst ((twice a b).map tupI)))
theorem a1w (m_min:mg "min"=none)(m_max:mg "max"=none)(F:Fun K "party_twice" "party_twice" K1 f fd)(B:Binds K fd ["one","other"] [])(hm:mg "party_twice"=some (.ref f)):∃g,Fn P w K mg base "party_twice" (k + 1) g/\U4 g:=by
 have nd:=R9.nd;refine ⟨_,n4 F R9 B hm rfl rfl (fun cdv A outer s H E hr=>(b5 (c9 (qx_if (a5l hr (a6 0) (a6 1)) (B5 (a7 (m9 (a7 (qx_b (M4 rfl) a15 m_min (a7 (a6 0) (a7 (a6 1) a9))) (a7 (qx_b (a0B rfl) a52 m_max (a7 (a6 0) (a7 (a6 1) a9))) a9))) a9)) (B5 (a7 (m9 (a7 (a6 0) a9)) (a7 (m9 (a7 (a6 0) a9)) a9))))))),?_⟩;intro a b;unfold twice
 by_cases h:a=b
 ·have z:(a == b)=true:=beq_iff_eq.mpr h;rw [if_pos h]
  repeat (first | walk_at "z r" | simp only [z])
  rfl
 ·have z:(a == b)=false:=xY.mpr h;rw [if_neg h]
  repeat (first | walk_at "z r" | simp only [z])
  rfl
theorem G9 {a c:Int}(h:a < c):pairK a c=[a,c]/\pairK c a=[a,c]:=by
 unfold pairK;constructor
 ·rw [if_neg (by walk_at "o"),if_pos (by walk_at "o")]
 ·rw [if_pos h,if_neg (by walk_at "o")]
theorem V4 (a:Int):pairK a a=[a,a]:=by unfold pairK;rw [if_neg (by walk_at "o")]
theorem a0F {n:Int}{ts:List Tie}(hw:WebOk n ts)(a:Int):gainOf ts [a,a]=0:=by
 have key:∀ts:List Tie,(∀t∈ts,t.1 < t.2.1)->gainOf ts [a,a]=0:=by
  intro ts
  induction ts with
  | nil=>intro _;rfl
  | cons t ts ih=>
   intro h;rw [gainOf,if_neg (fun e=>?_)]
   ·exact ih fun t ht=>h t (zI _ ht)
   ·have:=h t zH
    injection e with e1 e2
    injection e2 with e2 _
    walk_at "o"
 exact key ts fun t ht=>(hw.t t ht).2.1
structure Up (n:Int) (ts:List Tie) (s:Tie):Prop where
 x:n<=s.1/\s.1 < 2 * n
 y:0<=s.2.1/\s.2.1 < n
 g:s.2.2=gainOf ts (pairK (s.1 - n) s.2.1)
 par:∀k∈twice (s.1 - n) s.2.1,k∈parK n ts
structure Dn (n:Int) (ts:List Tie) (mu:List Int) (s:Tie):Prop where
 x:0<=s.1/\s.1 < n
 y:s.2.1=mat mu s.1 + n
 g:s.2.2= -gainOf ts (pairK s.1 (mat mu s.1))
theorem a3M {n:Int}{ts:List Tie}{a:Int}(h:0<=a/\a < n):[a]∈parK n ts:=by
 rw [a5i];exact .inl ⟨a.toNat,by walk_at "o",by congr 1;walk_at "o"⟩
theorem up_of {n:Int}{ts:List Tie}(hw:WebOk n ts){k:List Int}(hk:k∈parK n ts):∀s∈upS n ts k,Up n ts s:=by
 have hp:=(P7 hw hk).1;have hn:=hw.n1;rcases a55 hw hk with ⟨a,rfl⟩ | ⟨a,c,rfl,ha,hac,hc,_⟩
 ·have ha:=hp a (by simp)
  intro s hs;have es:s=(a + n,a,gainOf ts [a]):=by
   rw [show upS n ts [a]=[(a + n,a,gainOf ts [a]),(a + n,a,gainOf ts [a])] from rfl] at hs;simpa using hs
  subst es;refine ⟨⟨by show n<=a + n;walk_at "o",by show a + n < 2 * n;walk_at "o"⟩,ha,?_,fun k hk=>?_⟩
  ·show gainOf ts [a]=gainOf ts (pairK (a + n - n) a);rw [show a + n - n=a by walk_at "o",V4,a0F hw,A3]
  ·rw [show (a + n,a,gainOf ts [a]).1 - n=a by show a + n - n=a;walk_at "o",twice,if_pos rfl] at hk
   simp only [zS,xG,or_false,or_self] at hk;rw [hk];exact a3M ha
 ·intro s hs;obtain ⟨p1,p2⟩:=G9 hac;have es:s=(a + n,c,gainOf ts [a,c])\/s=(c + n,a,gainOf ts [a,c]):=by
   rw [show upS n ts [a,c]=[(a + n,c,gainOf ts [a,c]),(c + n,a,gainOf ts [a,c])] from rfl] at hs;simpa using hs
  rcases es with rfl | rfl
  ·refine ⟨⟨by show n<=a + n;walk_at "o",by show a + n < 2 * n;walk_at "o"⟩,⟨by show 0<=c;walk_at "o",hc⟩,?_,fun k hk=>?_⟩
   ·show gainOf ts [a,c]=gainOf ts (pairK (a + n - n) c);rw [show a + n - n=a by walk_at "o",p1]
   ·have hk:k∈twice (a + n - n) c:=hk;rw [show a + n - n=a by walk_at "o",twice,if_neg (by walk_at "o"),p1] at hk
    rw [zU.mp hk];assumption
  ·refine ⟨⟨by show n<=c + n;walk_at "o",by show c + n < 2 * n;walk_at "o"⟩,⟨ha,by show a < n;walk_at "o"⟩,?_,fun k hk=>?_⟩
   ·show gainOf ts [a,c]=gainOf ts (pairK (c + n - n) a);rw [show c + n - n=c by walk_at "o",p2]
   ·have hk:k∈twice (c + n - n) a:=hk;rw [show c + n - n=c by walk_at "o",twice,if_neg (by walk_at "o"),p2] at hk
    rw [zU.mp hk];assumption
structure MuOk (n:Int) (mu:List Int):Prop where
 len:mu.length=n.toNat
 rng:∀p,0<=p->p < n->0<=mat mu p/\mat mu p < n
theorem D8 {n:Int}{ts:List Tie}{mu:List Int}(hw:WebOk n ts){s:Tie}(hs:s∈stepsOf n ts mu):Up n ts s\/Dn n ts mu s:=by
 unfold stepsOf at hs;rcases jC.mp hs with z | z
 ·obtain ⟨k,hk,hs⟩:=mem_flatMap.mp z;exact .inl (up_of hw ((m5 _).mem_iff.mp hk) s hs)
 ·obtain ⟨p,hp,rfl⟩:=zW.mp z
  have:=E5.mp hp
  exact .inr ⟨⟨this.1,by show p < n;walk_at "o"⟩,rfl,rfl⟩
theorem a5e {n:Int}{ts:List Tie}{mu:List Int}{N:Nat}(hw:WebOk n ts)(hm:MuOk n mu)(hN:2 * n=(N:Int)):StOk N (stepsOf n ts mu):=by
 have hn:=hw.n1;have hG:∀k,0<=gainOf ts k/\gainOf ts k<=10 ^ 12:=fun k=>a0r hw.t k;refine ⟨fun s hs=>?_,fun s hs=>?_,fun s hs=>?_,?_⟩
 ·rcases D8 hw hs with h | h
  ·have:=h.x;have:=h.y;walk_at "o"
  ·have:=h.x;have:=h.y;have:=hm.rng s.1 h.x.1 h.x.2;walk_at "o"
 ·rcases D8 hw hs with h | h
  ·have:=h.x;have:=h.y;walk_at "o"
  ·have:=h.x;have:=h.y;have:=hm.rng s.1 h.x.1 h.x.2;walk_at "o"
 ·rcases D8 hw hs with h | h
  ·rw [h.g];exact (hG _).2
  ·rw [h.g];have:=(hG (pairK s.1 (mat mu s.1))).1;walk_at "o"
 ·unfold stepsOf;rw [zT,I0,zD,C1,(m5 _).length_eq]
  have:=(Y3 hw).1
  walk_at "o"
def worthK (ts:List Tie) (ks:List (List Int)):Int:=(ks.map (gainOf ts)).sum
theorem a7F (ts:List Tie)(a b:List (List Int)):worthK ts (a ++ b)=worthK ts a + worthK ts b:=by
 unfold worthK;rw [qF,sum_append]
theorem a80 {n:Int}{ts:List Tie}(hw:WebOk n ts)(a b:Int):worthK ts (twice a b)=gainOf ts (pairK a b):=by
 unfold twice worthK
 by_cases h:a=b
 ·subst h;rw [if_pos rfl,V4,a0F hw];simp [A3]
 ·rw [if_neg h];simp
theorem a5x (a b:Int):(pairK a b).Perm [a,b]:=by
 unfold pairK
 by_cases h:b < a
 ·rw [if_pos h,if_neg (by walk_at "o")];exact List.Perm.swap _ _ _
 ·rw [if_neg h]
  by_cases h2:b > a
  ·rw [if_pos h2]
  ·rw [if_neg h2,show b=a by walk_at "o"]
theorem a5z (a b:Int):(twice a b).flatten.Perm [a,b]:=by
 unfold twice
 by_cases h:a=b
 ·subst h;rw [if_pos rfl];exact List.Perm.refl _
 ·rw [if_neg h];simpa using a5x a b
theorem a53 {ts:List Tie}{a b:List (List Int)}(h:a.Perm b):worthK ts a=worthK ts b:=by
 unfold worthK
 induction h with
 | nil=>rfl
 | cons x _ ih=>rw [zK,zK,qV,qV,ih]
 | swap x y l=>simp only [zK,qV];walk_at "o"
 | trans _ _ h1 h2=>rw [h1,h2]
def Gp (ts:List Tie) (a b:Int):Int:=gainOf ts (pairK a b)
theorem a1N (a b:Int):pairK a b=pairK b a:=by
 by_cases h:a < b
 ·rw [(G9 h).1,(G9 h).2]
 ·by_cases h2:b < a
  ·rw [(G9 h2).1,(G9 h2).2]
  ·rw [show a=b by walk_at "o"]
theorem b1v (ts:List Tie)(a b:Int):Gp ts a b=Gp ts b a:=by unfold Gp;rw [a1N]
theorem a5K (a b:Int):twice a b=twice b a:=by
 unfold twice
 by_cases h:a=b
 ·rw [h]
 ·rw [if_neg h,if_neg fun z=>h z.symm,a1N]
theorem R8 {a b:List Int}(h:a.Perm b):a.sum=b.sum:=by
 induction h with
 | nil=>rfl
 | cons x _ ih=>rw [qV,qV,ih]
 | swap x y l=>simp only [qV];walk_at "o"
 | trans _ _ h1 h2=>rw [h1,h2]
structure MuP (n:Int) (ts:List Tie) (mu:List Int):Prop where
 len:mu.length=n.toNat
 prm:mu.Perm (up n.toNat)
 par:∀p,0<=p->p < n->∀k∈twice p (mat mu p),k∈parK n ts
theorem a30 {n:Int}{mu:List Int}(h:mu.length=n.toNat):mu=(up n.toNat).map (mat mu):=by
 apply List.ext_getElem
 ·rw [zD,C1];exact h
 ·intro i h1 h2;rw [getElem_map];have hi:i < n.toNat:=by walk_at "o"
  have e:(up n.toNat)[i]'(by rw [C1];exact hi)=(i:Int):=by
   have:=a5G hi
   rw [zL,zZ (by rw [C1];exact hi)] at this
   exact this
  rw [e];unfold mat;rw [qM,zL,zZ h1];rfl
theorem MuP.ok {n:Int}{ts:List Tie}{mu:List Int}(h:MuP n ts mu):MuOk n mu:=⟨h.len,fun p h0 h1=>by
 have hm:mat mu p∈mu:=by
  unfold mat;rw [zL,zZ (by rw [h.len];walk_at "o")]
  exact getElem_mem _
 have:=E5.mp (h.prm.mem_iff.mp hm)
 walk_at "o"⟩
def worthM (n:Int) (ts:List Tie) (mu:List Int):Int:=((up n.toNat).map fun p=>Gp ts p (mat mu p)).sum
theorem MuP.start {n:Int}{ts:List Tie}:MuP n ts (up n.toNat):=⟨C1 _,List.Perm.refl _,fun p h0 h1 k hk=>by
 have e:mat (up n.toNat) p=p:=by
  unfold mat;rw [a5G (by walk_at "o")];walk_at "o"
 rw [e,twice,if_pos rfl] at hk;simp only [zS,xG,or_false,or_self] at hk
 rw [hk];exact a3M ⟨h0,h1⟩⟩
def updM (n:Int):List Tie->List Int->List Int
 | [],mu=>mu
 | s :: R,mu=>updM n R (if n<=s.1 then mu.set s.2.1.toNat (s.1 - n) else mu)
theorem a3l (n:Int)(s:Tie):∀(R:List Tie) (mu:List Int),updM n (R ++ [s]) mu=if n<=s.1 then (updM n R mu).set s.2.1.toNat (s.1 - n) else updM n R mu
 | [],mu=>rfl
 | t :: R,mu=>by rw [cons_append,updM,updM,a3l n s R]
theorem a2a (n:Int):∀(R:List Tie) (mu:List Int),(updM n R mu).length=mu.length
 | [],mu=>rfl
 | s :: R,mu=>by
  rw [updM,a2a n R]
  split
  ·rw [qL]
  ·rfl
theorem a0c (n:Int){y:Int}(hy:0<=y):∀(R:List Tie) (mu:List Int),(∀s∈R,n<=s.1->0<=s.2.1/\s.2.1 < mu.length/\s.2.1≠y)->mat (updM n R mu) y=mat mu y
 | [],mu,_=>rfl
 | s :: R,mu,h=>by
  have hs:=h s zH;rw [updM]
  by_cases z:n<=s.1
  ·rw [if_pos z,a0c n hy R _ fun t ht hz=>by rw [qL];exact h t (zI _ ht) hz]
   have:=hs z
   rw [a1q this.1 this.2.1 hy,if_neg fun e=>this.2.2 e.symm]
  ·rw [if_neg z,a0c n hy R _ fun t ht=>h t (zI _ ht)]
theorem a61 (n:Int):∀(R:List Tie) (mu:List Int),(R.map fun s=>s.2.1).Nodup->(∀s∈R,n<=s.1->0<=s.2.1/\s.2.1 < mu.length)->∀s∈R,n<=s.1->mat (updM n R mu) s.2.1=s.1 - n
 | [],_,_,_,s,hs,_=>by cases hs
 | t :: R,mu,nd,h,s,hs,hz=>by
  rw [zK,nodup_cons] at nd;rcases zS.mp hs with rfl | hs
  ·have hb:=h s zH hz;rw [updM,if_pos hz,a0c n hb.1 R _ fun t ht hz'=>?_]
   ·rw [a1q hb.1 hb.2 hb.1,if_pos rfl]
   ·have:=h t (zI _ ht) hz'
    rw [qL];exact ⟨this.1,this.2,fun e=>nd.1 (zW.mpr ⟨t,ht,e⟩)⟩
  ·rw [updM];refine a61 n R _ nd.2 (fun u hu hz'=>?_) s hs hz
   have:=h u (zI _ hu) hz'
   split
   ·rw [qL];exact this
   ·exact this
theorem a1E {n:Int}{ts:List Tie}{mu:List Int}{N:Nat}{R:List Tie}(hw:WebOk n ts)(hm:MuP n ts mu)(hN:2 * n=(N:Int))(h:Ring (stepsOf n ts mu) N R):
  (∀s∈R,n<=s.1->Up n ts s)/\(∀s∈R,¬n<=s.1->Dn n ts mu s)/\((R.filter fun s=>!decide (n<=s.1)).map fun s=>s.1).Perm ((R.filter fun s=>decide (n<=s.1)).map fun s=>s.2.1)/\((R.filter fun s=>decide (n<=s.1)).map fun s=>s.1 - n).Perm ((R.filter fun s=>!decide (n<=s.1)).map fun s=>mat mu s.1)/\(R.map fun s=>s.2.1).Nodup:=by
 have hn:=hw.n1;have ho:=hm.ok;have st:=a5e hw ho hN;have u1:∀s∈R,n<=s.1->Up n ts s:=fun s hs z=>by
  rcases D8 hw (h.mem s hs) with k | k
  ·exact k
  ·have:=k.x;walk_at "o"
 have d1:∀s∈R,¬n<=s.1->Dn n ts mu s:=fun s hs z=>by
  rcases D8 hw (h.mem s hs) with k | k
  ·have:=k.x;walk_at "o"
  ·exact k
 have e1:R.map ((fun v:Nat=>(v:Int)) ∘ sS)=R.map fun s=>s.1:=jE fun s hs=>by
  show ((s.1.toNat:Nat):Int)=s.1;exact yA (st.rng s (h.mem s hs)).1
 have e2:R.map ((fun v:Nat=>(v:Int)) ∘ sE)=R.map fun s=>s.2.1:=jE fun s hs=>by
  show ((s.2.1.toNat:Nat):Int)=s.2.1;exact yA (st.rng s (h.mem s hs)).2.2.1
 have pr:(R.map fun s=>s.1).Perm (R.map fun s=>s.2.1):=by
  have:=h.prm.map fun v:Nat=>(v:Int)
  rwa [qG,qG,e1,e2] at this
 have nd:(R.map fun s=>s.2.1).Nodup:=by
  rw [<-e2,<-qG];exact xL.mpr (h.nd.imp fun {a b} hab e=>hab (by have e:((a:Nat):Int)=((b:Nat):Int):=e;walk_at "o"))
 have lo:∀(q:Int->Bool),((R.filter fun s=>q s.1).map fun s=>s.1).Perm ((R.filter fun s=>q s.2.1).map fun s=>s.2.1):=fun q=>by
  have:=pr.filter q
  rw [filter_map,filter_map] at this;exact this
 have eU:(R.filter fun s=>!decide (n<=s.2.1))=R.filter fun s=>decide (n<=s.1):=List.filter_congr fun s hs=>by
  by_cases z:n<=s.1
  ·have:=(u1 s hs z).y
   simp [z];walk_at "o"
  ·have:=(d1 s hs z).y
   have:=ho.rng s.1 (d1 s hs z).x.1 (d1 s hs z).x.2
   simp [z];walk_at "o"
 have eD:(R.filter fun s=>decide (n<=s.2.1))=R.filter fun s=>!decide (n<=s.1):=List.filter_congr fun s hs=>by
  by_cases z:n<=s.1
  ·have:=(u1 s hs z).y
   simp [z];walk_at "o"
  ·have:=(d1 s hs z).y
   have:=ho.rng s.1 (d1 s hs z).x.1 (d1 s hs z).x.2
   simp [z];walk_at "o"
 have p1:=lo fun v=>!decide (n<=v);have p2:=lo fun v=>decide (n<=v);rw [eU] at p1;rw [eD] at p2;refine ⟨u1,d1,p1,?_,nd⟩;have p3:=p2.map fun v:Int=>v - n;rw [qG,qG] at p3;have e3:(R.filter fun s=>!decide (n<=s.1)).map ((fun v:Int=>v - n) ∘ fun s=>s.2.1)=(R.filter fun s=>!decide (n<=s.1)).map fun s=>mat mu s.1:=jE fun s hs=>by
  obtain ⟨a,b⟩:=qW.mp hs
  have:=(d1 s a (by simpa using b)).y
  show s.2.1 - n=_;walk_at "o"
 rw [e3] at p3;exact p3
theorem a8a {R:List Tie}{n:Int}(f:Tie->Int):(R.map f).sum=((R.filter fun s=>decide (n<=s.1)).map f).sum + ((R.filter fun s=>!decide (n<=s.1)).map f).sum:=by
 induction R with
 | nil=>rfl
 | cons s R ih=>
  rw [zK,qV,ih]
  by_cases z:n<=s.1
  ·rw [yC (by simpa using z),List.filter_cons_of_neg (by simpa using z),zK,qV];walk_at "o"
  ·rw [List.filter_cons_of_neg (by simpa using z),yC (by simpa using z),zK,qV];walk_at "o"
theorem a7H {B U:List Int}(hB:B.Nodup)(hU:U.Nodup)(hs:∀x∈B,x∈U):(B ++ U.filter fun x=>!decide (x∈B)).Perm U:=by
 rw [List.perm_ext_iff_of_nodup _ hU]
 ·intro x;rw [jC,qW];constructor
  ·rintro (z | z)
   ·exact hs x z
   ·exact z.1
  ·intro z
   by_cases hx:x∈B
   ·exact .inl hx
   ·exact .inr ⟨z,by simpa using hx⟩
 ·rw [nodup_append];exact ⟨hB,hU.filter _,fun x hx y hy e=>by subst e;have:=(qW.mp hy).2;simp [hx] at this⟩
theorem a5F {n:Int}{ts:List Tie}{mu:List Int}{N:Nat}{R:List Tie}(hw:WebOk n ts)(hm:MuP n ts mu)(hN:2 * n=(N:Int))(h:Ring (stepsOf n ts mu) N R):MuP n ts (updM n R mu)/\worthM n ts mu < worthM n ts (updM n R mu):=by
 have hn:=hw.n1;have ho:=hm.ok;obtain ⟨u1,d1,pa,pb,nd⟩:=a1E hw hm hN h;have hl:=hm.len;have rg:∀s∈R,n<=s.1->0<=s.2.1/\s.2.1 < mu.length:=fun s hs z=>by have:=(u1 s hs z).y;walk_at "o"
 have at1:=a61 n R mu nd rg;generalize eU:(R.filter fun s=>decide (n<=s.1))=U at pa pb;generalize eD:(R.filter fun s=>!decide (n<=s.1))=Dd at pa pb;have mU:∀s∈U,s∈R/\n<=s.1:=fun s hs=>by rw [<-eU] at hs;obtain ⟨a,b⟩:=qW.mp hs;exact ⟨a,by simpa using b⟩
 have mD:∀s∈Dd,s∈R/\¬n<=s.1:=fun s hs=>by rw [<-eD] at hs;obtain ⟨a,b⟩:=qW.mp hs;exact ⟨a,by simpa using b⟩
 obtain ⟨Y,eY⟩:∃Y,U.map (fun s=>s.2.1)=Y:=⟨_,rfl⟩;have ndY:Y.Nodup:=by
  rw [<-eY,<-eU];exact (List.Sublist.map _ List.filter_sublist).nodup nd
 have inY:∀y∈Y,y∈up n.toNat:=fun y hy=>by
  rw [<-eY] at hy;obtain ⟨s,hs,rfl⟩:=zW.mp hy
  have:=(u1 s (mU s hs).1 (mU s hs).2).y
  exact E5.mpr ⟨this.1,by walk_at "o"⟩
 have fp:=a7H ndY (a1Z n.toNat) inY;generalize eZ:((up n.toNat).filter fun x=>!decide (x∈Y))=Z at fp;have farZ:∀z∈Z,mat (updM n R mu) z=mat mu z:=fun z hz=>by
  rw [<-eZ] at hz;obtain ⟨z1,z2⟩:=qW.mp hz;have z1:=E5.mp z1;refine a0c n z1.1 R mu fun s hs hz'=>?_
  have:=rg s hs hz'
  refine ⟨this.1,this.2,fun e=>?_⟩
  have:z∈Y:=by
   rw [<-eY,<-e];exact zW.mpr ⟨s,by rw [<-eU];exact qW.mpr ⟨hs,by simpa using hz'⟩,rfl⟩
  simp [this] at z2
 have newY:Y.map (mat (updM n R mu))=U.map fun s=>s.1 - n:=by
  rw [<-eY,qG];exact jE fun s hs=>at1 s (mU s hs).1 (mU s hs).2
 rw [eY] at pa;have oldY:(Y.map (mat mu)).Perm (U.map fun s=>s.1 - n):=by
  have:=pa.map (mat mu)
  rw [qG] at this;exact this.symm.trans pb.symm
 have lenU:(updM n R mu).length=n.toNat:=by rw [a2a];exact hl
 have prm:(updM n R mu).Perm (up n.toNat):=by
  rw [a30 lenU];refine ((fp.map (mat (updM n R mu))).symm).trans ?_;rw [qF,newY,jE farZ];refine (List.Perm.append_right _ oldY.symm).trans ?_;rw [<-qF];refine (fp.map (mat mu)).trans ?_;rw [<-a30 hl];exact hm.prm
 refine ⟨⟨lenU,prm,fun p h0 h1 k hk=>?_⟩,?_⟩
 ·by_cases hp:p∈Y
  ·rw [<-eY] at hp;obtain ⟨s,hs,rfl⟩:=zW.mp hp;rw [at1 s (mU s hs).1 (mU s hs).2,a5K] at hk;exact (u1 s (mU s hs).1 (mU s hs).2).par k hk
  ·have hz:p∈Z:=by rw [<-eZ];exact qW.mpr ⟨E5.mpr ⟨h0,by walk_at "o"⟩,by simpa using hp⟩
   rw [farZ p hz] at hk;exact hm.par p h0 h1 k hk
 ·unfold worthM;rw [<-R8 (fp.map fun p=>Gp ts p (mat mu p)),<-R8 (fp.map fun p=>Gp ts p (mat (updM n R mu) p)),qF,qF,sum_append,sum_append];have eZ2:Z.map (fun p=>Gp ts p (mat (updM n R mu) p))=Z.map fun p=>Gp ts p (mat mu p):=jE fun z hz=>by rw [farZ z hz]
  rw [eZ2];have eN:(Y.map fun p=>Gp ts p (mat (updM n R mu) p))=U.map fun s=>s.2.2:=by
   rw [<-eY,qG];refine jE fun s hs=>?_;show Gp ts s.2.1 (mat (updM n R mu) s.2.1)=_;rw [at1 s (mU s hs).1 (mU s hs).2,b1v];exact (u1 s (mU s hs).1 (mU s hs).2).g.symm
  have eO:(Y.map fun p=>Gp ts p (mat mu p)).sum= -(Dd.map fun s=>s.2.2).sum:=by
   have h1:=R8 (pa.map fun p=>Gp ts p (mat mu p));rw [qG] at h1;rw [<-h1];have key:∀L:List Tie,(∀s∈L,Dn n ts mu s)->(L.map ((fun p=>Gp ts p (mat mu p)) ∘ fun s=>s.1)).sum= -(L.map fun s=>s.2.2).sum:=by
    intro L
    induction L with
    | nil=>intro _;rfl
    | cons s L ih=>
     intro hL;have g:=(hL s zH).g;rw [zK,qV,ih fun t ht=>hL t (zI _ ht),zK,qV,g];show Gp ts s.1 (mat mu s.1) + _=_;unfold Gp;walk_at "o"
   exact key Dd fun s hs=>d1 s (mD s hs).1 (mD s hs).2
  have sp:=a8a (R:=R) (n:=n) fun s=>s.2.2;rw [eU,eD] at sp;have pos:=h.pos;rw [eN,eO];walk_at "o"
def xM (n:Int) (m:List Int) (p:Int):Int:=mkv m p.toNat - mkv m (p + n).toNat
def dblK (n:Int) (mu:List Int):List (List Int):=(up n.toNat).flatMap fun p=>twice p (mat mu p)
structure CovOk (n:Int) (ts:List Tie) (xs:List Int) (os:List (List Int)):Prop where
 len:xs.length=n.toNat
 rng:∀x∈xs,0<=x/\x<=10 ^ 16
 all:∀a c,[a,c]∈parK n ts->2 * gainOf ts [a,c]<=xs.getD a.toNat 0 + xs.getD c.toNat 0
 o:∀k∈os,k∈parK n ts
 so:sortK os=os
 held:os.flatten.Perm (up n.toNat ++ up n.toNat)
 lo:os.length<=16
 sum:xs.sum=worthK ts os
theorem a5c (mu:List Int):∀l:List Int,(l.flatMap fun p=>twice p (mat mu p)).flatten.Perm (l ++ l.map (mat mu))
 | []=>List.Perm.refl _
 | p :: l=>by
  rw [xX,List.flatten_append,zK];refine ((a5z _ _).append (a5c mu l)).trans ?_;show (p :: mat mu p :: (l ++ l.map (mat mu))).Perm (p :: (l ++ (mat mu p :: l.map (mat mu))));exact List.Perm.cons _ List.perm_middle.symm
theorem a27 {n:Int}{ts:List Tie}(hw:WebOk n ts)(mu:List Int):∀l:List Int,worthK ts (l.flatMap fun p=>twice p (mat mu p))=(l.map fun p=>Gp ts p (mat mu p)).sum
 | []=>rfl
 | p :: l=>by
  rw [xX,a7F,a27 hw mu l,a80 hw,zK,qV];rfl
theorem a4c (mu:List Int):∀l:List Int,(l.flatMap fun p=>twice p (mat mu p)).length<=2 * l.length
 | []=>zE _
 | p :: l=>by
  have ih:=a4c mu l
  have:(twice p (mat mu p)).length<=2:=by
   unfold twice
   split
   ·exact zE 2
   ·exact Nat.le_succ 1
  rw [xX,zT,qI];walk_at "o"
theorem V9 {f g:Int->Int}:∀{l:List Int},(∀x∈l,f x<=g x)->(l.map f).sum<=(l.map g).sum
 | [],_=>Int.le_refl _
 | x :: l,h=>by
  have h1:=h x zH;have h2:=V9 (f:=f) (g:=g) (l:=l) fun y hy=>h y (zI _ hy);rw [zK,zK,qV,qV];walk_at "o"
theorem a3P {f g:Int->Int}:∀l:List Int,(l.map fun x=>f x - g x).sum=(l.map f).sum - (l.map g).sum
 | []=>rfl
 | x :: l=>by rw [zK,qV,a3P l,zK,zK,qV,qV];walk_at "o"
theorem a7g {f g:Int->Int}:∀l:List Int,(l.map fun x=>f x + g x).sum=(l.map f).sum + (l.map g).sum
 | []=>rfl
 | x :: l=>by rw [zK,qV,a7g l,zK,zK,qV,qV];walk_at "o"
theorem a6o {f:Int->Int}:∀l:List Int,(l.map fun x=>2 * f x).sum=2 * (l.map f).sum
 | []=>rfl
 | x :: l=>by rw [zK,qV,a6o l,zK,qV];walk_at "o"
theorem a5A {n:Int}{ts:List Tie}{mu m:List Int}{N:Nat}(hw:WebOk n ts)(hm:MuP n ts mu)(hN:2 * n=(N:Int))(hc:Calm (stepsOf n ts mu) N m):CovOk n ts ((up n.toNat).map (xM n m)) (sortK (dblK n mu)):=by
 have hn:=hw.n1;have get:∀a,0<=a->a < n->((up n.toNat).map (xM n m)).getD a.toNat 0=xM n m a:=fun a h0 h1=>by
  have e:(up n.toNat)[a.toNat]? =some a:=by
   unfold up;rw [qA,xR (by walk_at "o")]
   simp only [qZ,Option.some.injEq];walk_at "o"
  rw [zL,qA,e];rfl
 have upm:∀k∈parK n ts,∀s∈upS n ts k,Kept m s:=fun k hk s hs=>hc.kept s (jU _ (mem_flatMap.mpr ⟨k,(m5 _).mem_iff.mpr hk,hs⟩));have dnm:∀p,0<=p->p < n->Kept m (dnS n ts mu p):=fun p h0 h1=>hc.kept _ (zP _ (zW.mpr ⟨p,E5.mpr ⟨h0,by walk_at "o"⟩,rfl⟩))
 have nn:∀a,0<=a->a < n->0<=xM n m a:=fun a h0 h1=>by
  have z:=upm [a] (a3M ⟨h0,h1⟩) (a + n,a,gainOf ts [a]) (by rw [show upS n ts [a]=[(a + n,a,gainOf ts [a]),(a + n,a,gainOf ts [a])] from rfl];simp)
  have z:mkv m (a + n).toNat + gainOf ts [a]<=mkv m a.toNat:=z;rw [A3] at z;unfold xM;walk_at "o"
 have two:∀a c,[a,c]∈parK n ts->0<=a/\a < c/\c < n/\2 * gainOf ts [a,c]<=xM n m a + xM n m c:=fun a c hk=>by
  rcases a55 hw hk with ⟨x,e⟩ | ⟨x,y,e,h1,h2,h3,_⟩
  ·cases e
  ·cases e;have z1:=upm [a,c] hk (a + n,c,gainOf ts [a,c]) (by rw [show upS n ts [a,c]=[(a + n,c,gainOf ts [a,c]),(c + n,a,gainOf ts [a,c])] from rfl];simp)
   have z2:=upm [a,c] hk (c + n,a,gainOf ts [a,c]) (by rw [show upS n ts [a,c]=[(a + n,c,gainOf ts [a,c]),(c + n,a,gainOf ts [a,c])] from rfl];simp)
   have z1:mkv m (a + n).toNat + gainOf ts [a,c]<=mkv m c.toNat:=z1;have z2:mkv m (c + n).toNat + gainOf ts [a,c]<=mkv m a.toNat:=z2;refine ⟨h1,h2,h3,?_⟩;unfold xM;walk_at "o"
 have po:=m5 (dblK n mu);have ml:=a30 hm.len;have mp:((up n.toNat).map (mat mu)).Perm (up n.toNat):=by rw [<-ml];exact hm.prm
 refine ⟨by rw [zD,C1],fun x hx=>?_,fun a c hk=>?_,fun k hk=>?_,a5V _,?_,?_,?_⟩
 ·obtain ⟨p,hp,rfl⟩:=zW.mp hx
  have:=E5.mp hp
  have b1:=hc.mb p.toNat;have b2:=hc.m0 (p + n).toNat;have b3:=nn p this.1 (by walk_at "o")
  refine ⟨b3,?_⟩;unfold xM;walk_at "o"
 ·obtain ⟨h1,h2,h3,z⟩:=two a c hk;rw [get a h1 (by walk_at "o"),get c (by walk_at "o") h3]
  exact z
 ·obtain ⟨p,hp,hk⟩:=mem_flatMap.mp (po.mem_iff.mp hk)
  have:=E5.mp hp
  exact hm.par p this.1 (by walk_at "o") k hk
 ·exact (po.flatten).trans ((a5c mu _).trans (List.Perm.append_left _ mp))
 ·rw [po.length_eq]
  have:=a4c mu (up n.toNat)
  rw [C1] at this;unfold dblK;walk_at "o"
 ·rw [a53 po,show worthK ts (dblK n mu)=((up n.toNat).map fun p=>Gp ts p (mat mu p)).sum from a27 hw mu _];have eX:((up n.toNat).map (xM n m)).sum=((up n.toNat).map fun p=>mkv m p.toNat).sum - ((up n.toNat).map fun p=>mkv m (p + n).toNat).sum:=a3P _;have lo:((up n.toNat).map (xM n m)).sum<=((up n.toNat).map fun p=>Gp ts p (mat mu p)).sum:=by
   have h1:=R8 (mp.map fun q=>mkv m (q + n).toNat);rw [qG] at h1;have h2:((up n.toNat).map fun p=>mkv m p.toNat - mkv m (mat mu p + n).toNat).sum<=((up n.toNat).map fun p=>Gp ts p (mat mu p)).sum:=V9 fun p hp=>by
    have:=E5.mp hp
    have z:mkv m p.toNat + -gainOf ts (pairK p (mat mu p))<=mkv m (mat mu p + n).toNat:=dnm p this.1 (by walk_at "o")
    show mkv m p.toNat - mkv m (mat mu p + n).toNat<=gainOf ts (pairK p (mat mu p));walk_at "o"
   rw [a3P] at h2;have h1:((up n.toNat).map fun p=>mkv m (mat mu p + n).toNat).sum=((up n.toNat).map fun p=>mkv m (p + n).toNat).sum:=h1;walk_at "o"
  have hi:2 * ((up n.toNat).map fun p=>Gp ts p (mat mu p)).sum<=2 * ((up n.toNat).map (xM n m)).sum:=by
   rw [<-a6o];have h1:=R8 (mp.map (xM n m));rw [qG] at h1;have h1:((up n.toNat).map fun p=>xM n m (mat mu p)).sum=((up n.toNat).map (xM n m)).sum:=h1;have h2:((up n.toNat).map fun p=>2 * Gp ts p (mat mu p)).sum<=((up n.toNat).map fun p=>xM n m p + xM n m (mat mu p)).sum:=V9 fun p hp=>by
    have hp':=E5.mp hp;have hpar:=hm.par p hp'.1 (by walk_at "o")
    have hr:=hm.ok.rng p hp'.1 (by walk_at "o")
    show 2 * gainOf ts (pairK p (mat mu p))<=_
    by_cases e:p=mat mu p
    ·rw [<-e,V4,a0F hw]
     have:=nn p hp'.1 (by walk_at "o")
     walk_at "o"
    ·have hk:pairK p (mat mu p)∈parK n ts:=hpar _ (by unfold twice;rw [if_neg e];exact List.mem_singleton_self _)
     by_cases lt:p < mat mu p
     ·rw [(G9 lt).1] at hk ⊢;exact (two _ _ hk).2.2.2
     ·have lt:mat mu p < p:=by walk_at "o"
      rw [(G9 lt).2] at hk ⊢
      have:=(two _ _ hk).2.2.2
      walk_at "o"
   rw [a7g,h1] at h2;walk_at "o"
  walk_at "o"
theorem a8h {n:Int}{ts:List Tie}(hw:WebOk n ts)(mu:List Int):worthM n ts mu<=8 * 10 ^ 12:=by
 have hn:=hw.n1;have key:∀l:List Int,(l.map fun p=>Gp ts p (mat mu p)).sum<=(l.length:Int) * 10 ^ 12:=by
  intro l
  induction l with
  | nil=>simp
  | cons p l ih=>
   have:=(a0r hw.t (pairK p (mat mu p))).2
   rw [zK,qV,qI];show gainOf ts (pairK p (mat mu p)) + _<=_;walk_at "o"
 have:=key (up n.toNat)
 rw [C1] at this;unfold worthM;walk_at "o"
def ysM:D->List D
 | .tup [.int a,.int b]=>(twice a b).map tupI
 | _=>[]
theorem b2d {n:Int}{mu:List Int}(h:mu.length=n.toNat):enumD (mu.map D.int)=(up n.toNat).map fun p=>D.tup [.int p,.int (mat mu p)]:=by
 unfold enumD;apply List.ext_getElem
 ·rw [length_mapIdx,zD,zD,C1];exact h
 ·intro i h1 h2;have hi:i < mu.length:=by rw [length_mapIdx,zD] at h1;exact h1
  rw [List.getElem_mapIdx,getElem_map,getElem_map];have e:(up n.toNat)[i]'(by rw [C1];walk_at "o")=(i:Int):=by
   have:=a5G (show i < n.toNat by walk_at "o")
   rw [zL,zZ (by rw [C1];walk_at "o")] at this
   exact this
  rw [e];unfold mat;rw [qM,zL,zZ hi];rfl
theorem a6S (mu:List Int):∀l:List Int,((l.map fun p=>D.tup [.int p,.int (mat mu p)]).flatMap ysM).map id=(l.flatMap fun p=>twice p (mat mu p)).map tupI
 | []=>rfl
 | p :: l=>by
  have ih:=a6S mu l;rw [zK,xX,qF,ih,xX,qF,map_id];rfl
abbrev P3:Stmt:=top 33
theorem a0h:FnScope ["mates"] ["mates"] (defScope P3):=by walk_at "c"
def a1a (g:LO):Prop:=∀(n:Int) (mu:List Int),n<=8->mu.length=n.toNat->g [.lst (mu.map .int)]=some (.v (.tup ((sortK (dblK n mu)).map tupI)))
theorem a4h {J8:LO}(K4:Fn P w K mg base "party_twice" k J8)(K7:U4 J8)(j9:mg "tuple"=none)(M3:mg "sorted"=none)(B7:mg "enumerate"=none)(F:Fun K "double_of" "double_of" P3 f fd)(B:Binds K fd ["mates"] [])(hm:mg "double_of"=some (.ref f)):∃g,Fn P w K mg base "double_of" (k + 1) g/\a1a g:=by
 have nd:=a0h.nd;refine ⟨_,n4 F a0h B hm rfl rfl (fun cdv A outer s H E hr=>(b5 (c9 (qx_t D4 Z4 j9 (a7 (a2y hr rfl M3 (a7 (a9N (N:=["person","mate","party"]) (js:=[none,none,none]) rfl (A2 (by exact (.own (.own (.own .nil)))) rfl (by exact trivial) (by rfl)) (X0 (a59 B7 (a7 (a6 0) a9))) (fun _ _ _ _=>(E1 rfl (g7 (c6 0 (show ((["person","mate","party"]:List Str) ++ [accN]).Nodup by decide +kernel)) (g7 (c6 1 (show ((["person","mate","party"]:List Str) ++ [accN]).Nodup by decide +kernel)) A5)))) (fun _ _ _ _=>(K2 (g5 K4 hr (a7 (a6 0) (a7 (a6 1) a9))))) (fun _ _ _ _=>(c6 2 (show ((["person","mate","party"]:List Str) ++ [accN]).Nodup by decide +kernel))) (fun _ _ _ _=>(a6 2))) a9)) a9))))),?_⟩
 intro n mu h8 hl;have ef:((enumD (mu.map D.int)).flatMap ysM).map id=(dblK n mu).map tupI:=by rw [b2d hl];exact a6S mu _
 have dl:(dblK n mu).length<=16:=by
  have:=a4c mu (up n.toNat)
  rw [C1] at this;unfold dblK;walk_at "o"
 have ne:∀k∈dblK n mu,k≠[]:=fun k hk=>by
  obtain ⟨p,_,hk⟩:=mem_flatMap.mp hk;unfold twice at hk;split at hk
  ·simp only [zS,xG,or_false,or_self] at hk;rw [hk];exact List.cons_ne_nil _ _
  ·rw [zU.mp hk];exact List.cons_ne_nil _ _
 have so:=a1b (ks:=dblK n mu) (by walk_at "o") ne
 have ls:=D2 (sortK (dblK n mu));have ld:=D2 (dblK n mu);walk_at "q";rw [a7O (ρ1:=[some (.v (.lst (mu.map .int)))]) (xs:=enumD (mu.map .int)) (fun B=>∃o1 o2 o3:Option D,B=[o1.map .v,o2.map .v,o3.map .v]) ysM id]
 ·rw [ef]
  repeat (first | walk_at "z r" | simp only [so,ls])
 ·walk_at "q"
 ·rintro _ ⟨_,_,_,rfl⟩;rfl
 ·exact ⟨none,none,none,rfl⟩
 ·have:=congrArg List.length ef
  rw [zD,zD] at this;rw [this];unfold lim;walk_at "o"
 ·rw [ef];exact ld
 ·rintro x hx _ zs ⟨o1,o2,o3,rfl⟩;obtain ⟨i,hi,rfl⟩:=a4S hx;rw [getElem_map];have et:=K7 (i:Int) (mu[i]'(by rw [zD] at hi;exact hi))
  have lt:=D2 (twice (i:Int) (mu[i]'(by rw [zD] at hi;exact hi)))
  refine ⟨[some (.v (.int i)),some (.v (.int (mu[i]'(by rw [zD] at hi;exact hi)))),o3.map .v],[some (.v (.int i)),some (.v (.int (mu[i]'(by rw [zD] at hi;exact hi)))),o3.map .v],⟨some _,some _,o3,rfl⟩,?_,?_⟩
  ·walk_at "q"
  ·repeat (first | walk_at "z r" | simp only [et,lt,ysM])
 ·rintro x hx y hy _ zs ⟨o1,o2,o3,rfl⟩;obtain ⟨i,hi,rfl⟩:=a4S hx;rw [getElem_map] at hy;obtain ⟨k,_,rfl⟩:=a4T (show y∈(twice _ _).map tupI from hy);refine ⟨[o1.map .v,o2.map .v,some (.v (tupI k))],.v (tupI k),⟨o1,o2,some _,rfl⟩,?_,?_,.inl rfl⟩
  ·walk_at "q"
  ·walk_at "q"
def muW (n:Int) (ts:List Tie):List (Option W)->Nat:=fun ρ=>match ρ[2]? with
 | some (some (W.o (D.lst xs)))=>(8 * 10 ^ 12 - worthM n ts ((intsOf xs).getD [])).toNat
 | _=>0
theorem a9k (n:Int)(ts:List Tie)(mu:List Int)(a b c d e f g:Option W):muW n ts [a,b,some (.o (.lst (mu.map .int))),c,d,e,f,g]=(8 * 10 ^ 12 - worthM n ts mu).toNat:=by
 show (8 * 10 ^ 12 - worthM n ts ((intsOf (mu.map D.int)).getD [])).toNat=_;rw [C7];rfl
abbrev a3F:Stmt:=top 27
theorem a4x:FnScope ["web","people","mates","marks","ring","start","end","more"] ["web"] (defScope a3F):=by walk_at "c"
def a6f (g:LO):Prop:=∀(n:Int) (ts:List Tie),WebOk n ts->∃(xs:List Int) (os:List (List Int)),CovOk n ts xs os/\g [webD n ts]=some (.v (.tup [.tup ((xs.map fun x=>Rat.divInt x 2).map ratD),.tup (os.map tupI)]))
theorem b08 {S7:LO}{M9:LO}{Q8:LO}{S3:LO}(T3:Fn P w K mg base "settled" k S7)(a0O:a20 S7)(M7:Fn P w K mg base "steps_of" k M9)(V8:a1T M9)(O9:Fn P w K mg base "shares_by" k Q8)(Q3:a04 Q8)(S1:Fn P w K mg base "double_of" k S3)(P1:a1a S3)(N6:mg "list"=none)(j0:mg "range"=none)(F:Fun K "cover" "cover" a3F f fd)(B:Binds K fd ["web"] [])(hm:mg "cover"=some (.ref f)):∃g,Fn P w K mg base "cover" (k + 1) g/\a6f g:=by
 have nd:=a4x.nd
 refine ⟨_,n4 F a4x B hm rfl rfl (fun cdv A outer s H E hr=>(b4 (g8 1 nd (b7 hr (a6 0) a8))
  (b4 (g8 2 nd (a81 rfl N6 j0 (a7 (a6 1) a9)))
  (b4 (A8 (g5 T3 hr (a7 (g5 M7 hr (a7 (a6 0) (a7 (a6 2) a9))) (a7 (a6 1) a9))) (E1 rfl (g7 (c6 3 nd) (g7 (c6 4 nd) A5))))
  (b4 (Z3 zX (C0 (a6 4)) (b4 (D1 zX rfl (K2 (a6 4)) (E1 rfl (g7 (c6 5 nd) (g7 (c6 6 nd) (g7 (c6 7 nd) A5)))) (b5 (n5 (b3d (a6 5) (a6 1)) (b5 (A8 (C9 (a6 5) (a6 1)) (G8 (a6 2) (a6 6)))) j7)))
  (b5 (A8 (g5 T3 hr (a7 (g5 M7 hr (a7 (a6 0) (a7 (a6 2) a9))) (a7 (a6 1) a9))) (E1 rfl (g7 (c6 3 nd) (g7 (c6 4 nd) A5)))))))
  (b5 (c9 (m9 (a7 (g5 O9 hr (a7 (a6 3) a9)) (a7 (g5 S1 hr (a7 (a6 2) a9)) a9)))))))))),?_⟩
 intro n ts hw;have hn:=hw.n1;obtain ⟨N,hN⟩:∃N:Nat,2 * n=(N:Int):=⟨(2 * n).toNat,by walk_at "o"⟩
 have ew:webD n ts= .tup [.int n,.tup (ts.map tieD)]:=rfl;have r1:(0<=n/\n<=1000):=by walk_at "o"
 have ru:rngD 0 n.toNat=(up n.toNat).map .int:=a5X _;have lu:lfL ((up n.toNat).map D.int)=true:=t7 _;have st:∀mu,MuP n ts mu->∃a b:D,S7 [.lst ((stepsOf n ts mu).map tieD),.int n]=some (.v (.tup [a,b]))/\((∃m,Calm (stepsOf n ts mu) N m/\a= .lst (m.map .int)/\b= .lst [])\/∃R,Ring (stepsOf n ts mu) N R/\a= .non/\b= .lst (R.map tieD)):=fun mu hm=>by
  rcases a0O n N (stepsOf n ts mu) hn.1 hn.2 hN (a5e hw hm.ok hN) with ⟨m,hc,e⟩ | ⟨R,hr,e⟩
  ·exact ⟨_,_,e,.inl ⟨m,hc,rfl,rfl⟩⟩
  ·exact ⟨_,_,e,.inr ⟨R,hr,rfl,rfl⟩⟩
 have ss:∀mu:List Int,MuP n ts mu->M9 [.tup [.int n,.tup (ts.map tieD)],.lst (mu.map .int)]=some (.o (.lst ((stepsOf n ts mu).map tieD))):=fun mu hm=>V8 n ts mu hw hm.len;have ls:∀mu:List Int,lfL ((stepsOf n ts mu).map tieD)=true:=fun mu=>a0l _;obtain ⟨a0,b0,e0,h0⟩:=st (up n.toNat) MuP.start;have s0:=ss (up n.toNat) MuP.start;have ls0:=ls (up n.toNat);rw [ew]
 repeat (first | walk_at "z i" | simp only [r1,ru,lu,qQ,and_self,s0,ls0,e0])
 generalize ew:whileV _ _ _=r;refine a2m ew (fun ρ=>∃(mu:List Int) (a b:D) (o5 o6 o7:Option D),ρ=[some (.v (.tup [.int n,.tup (ts.map tieD)])),some (.v (.int n)),some (.o (.lst (mu.map .int))),some (.v a),some (.v b),o5.map .v,o6.map .v,o7.map .v]/\MuP n ts mu/\((∃m,Calm (stepsOf n ts mu) N m/\a= .lst (m.map .int)/\b= .lst [])\/∃R,Ring (stepsOf n ts mu) N R/\a= .non/\b= .lst (R.map tieD))) (fun ρ=>∃(mu m:List Int) (o5 o6 o7:Option D),ρ=[some (.v (.tup [.int n,.tup (ts.map tieD)])),some (.v (.int n)),some (.o (.lst (mu.map .int))),some (.v (.lst (m.map .int))),some (.v (.lst [])),o5.map .v,o6.map .v,o7.map .v]/\MuP n ts mu/\Calm (stepsOf n ts mu) N m) (muW n ts) ⟨up n.toNat,a0,b0,none,none,none,rfl,MuP.start,h0⟩ ?_ ?_
 ·rintro _ ⟨mu,a,b,o5,o6,o7,rfl,hm,⟨m,hc,rfl,rfl⟩ | ⟨R,hr,rfl,rfl⟩⟩
  ·refine .inl ⟨_,?_,mu,m,o5,o6,o7,rfl,hm,hc⟩
   repeat (first | walk_at "z r" | simp only [isEmpty_nil,Bool.not_true])
  ·refine .inr ⟨[some (.v (.tup [.int n,.tup (ts.map tieD)])),some (.v (.int n)),some (.o (.lst (mu.map .int))),some (.v .non),some (.v (.lst (R.map tieD))),o5.map .v,o6.map .v,o7.map .v],?_⟩;have ne:(R.map tieD).isEmpty=false:=by
    have:=hr.ne
    cases R with
    | nil=>simp at this
    | cons s R=>rfl
   obtain ⟨hm',hwo⟩:=a5F hw hm hN hr;obtain ⟨u1,_,_,_,_⟩:=a1E hw hm hN hr;obtain ⟨a1,b1,e1,h1⟩:=st _ hm';have s1:=ss _ hm';have ls1:=ls (updM n R mu);have hl:=hm.len
   repeat (first | walk_at "z i" | simp only [ne,Bool.not_false,true_and])
   generalize el:loopF _ _ _=r2;refine J1 el (fun i ρ=>∃(o5 o6 o7:Option D),ρ=[some (.v (.tup [.int n,.tup (ts.map tieD)])),some (.v (.int n)),some (.o (.lst ((updM n (R.take i) mu).map .int))),some (.v .non),some (.v (.lst (R.map tieD))),o5.map .v,o6.map .v,o7.map .v]) ⟨o5,o6,o7,rfl⟩ ?_ ?_
   ·rintro i x _ hx ⟨o5,o6,o7,rfl⟩;rw [qA] at hx;cases hs:R[i]? with
    | none=>rw [hs] at hx;cases hx
    | some s=>
     rw [hs] at hx;cases hx;have eT:R.take (i + 1)=R.take i ++ [s]:=by rw [List.take_add_one,hs];rfl
     have lu:=a2a n (R.take i) mu;refine ⟨_,?_,some (.int s.1),some (.int s.2.1),some (.int s.2.2),rfl⟩;rw [eT,a3l]
     by_cases hge:n<=s.1
     ·have hd:decide (n<=s.1)=true:=qE hge;have hy:=(u1 s (jV hs) hge).y;have x1:ixN ((updM n (R.take i) mu).map D.int).length s.2.1=some s.2.1.toNat:=a0w hy.1 (by rw [zD];walk_at "o")
      have sx:((updM n (R.take i) mu).map D.int).set s.2.1.toNat (.int (s.1 - n))=((updM n (R.take i) mu).set s.2.1.toNat (s.1 - n)).map .int:=map_set.symm;rw [if_pos hge];unfold tieD
      repeat (first | walk_at "z r" | simp only [hd,x1,sx])
     ·have hd:decide (n<=s.1)=false:=qK hge;rw [if_neg hge];unfold tieD
      repeat (first | walk_at "z r" | simp only [hd])
   ·rintro _ rfl ⟨o5,o6,o7,rfl⟩;rw [zD,take_length];refine ⟨[some (.v (.tup [.int n,.tup (ts.map tieD)])),some (.v (.int n)),some (.o (.lst ((updM n R mu).map .int))),some (.v a1),some (.v b1),o5.map .v,o6.map .v,o7.map .v],?_,⟨updM n R mu,a1,b1,o5,o6,o7,rfl,hm',h1⟩,?_⟩
    ·repeat (first | walk_at "z r" | simp only [s1,ls1,e1])
    ·rw [a9k,a9k]
     have:=a8h hw (updM n R mu)
     walk_at "o"
 ·rintro _ rfl ⟨mu,m,o5,o6,o7,rfl,hm,hc⟩;have e3:=Q3 n m hn.1 hn.2 (by rw [hc.len];exact hN.symm)
  have e4:=P1 n mu hn.2 hm.len;have l3:lfL (((up n.toNat).map (shM n m)).map ratD)=true:=w4 fun x hx=>by obtain ⟨q,_,rfl⟩:=zW.mp hx;rfl
  have l4:=D2 (sortK (dblK n mu));have es:((up n.toNat).map (xM n m)).map (fun x=>Rat.divInt x 2)=(up n.toNat).map (shM n m):=by rw [qG];rfl
  refine ⟨_,_,a5A hw hm hN hc,?_⟩;rw [es]
  repeat (first | walk_at "z r" | simp only [e3,e4,l3,l4])
theorem a0T:∀(rs:List Rat) (q r:Rat),sumR (rs ++ [q]) r=sumR rs r + q
 | [],q,r=>rfl
 | x :: rs,q,r=>by rw [cons_append,sumR,sumR,a0T rs]
theorem a4Z {qs rs:List Rat}(h:qs.map ratD=rs.map ratD):qs=rs:=List.map_inj_right (fun _ _=>a8H) |>.mp h
theorem D3 (qs:List Rat):lfL (qs.map ratD)=true:=w4 fun x hx=>by obtain ⟨q,_,rfl⟩:=zW.mp hx;rfl
theorem a2e {ss:List Rat}{i:Int}(h:0<=i)(l:i < ss.length):atI (ss.map ratD) i=some (ratD (ss.getD i.toNat 0)):=by
 refine a5D h ?_;rw [qA,zL,zZ (by walk_at "o")]
 rfl
abbrev a32:Stmt:=top 19
theorem a40:FnScope ["some","told","one"] ["some"] (defScope a32):=by walk_at "c"
def a6l (g:LO):Prop:=∀(qs:List Rat) (m:Nat),(∀q∈qs,Sz m q)->(qs.length + 1) * (m + 2)<=7900->g [.lst (qs.map ratD)]=some (.v (ratD (sumR qs 0)))
theorem b0V {a5H:LO}(a5R:Fn P w K mg base "plus" k a5H)(a5Z:b0W a5H)(C3:a0p mg K)(F:Fun K "total" "total" a32 f fd)(B:Binds K fd ["some"] [])(hm:mg "total"=some (.ref f)):∃g,Fn P w K mg base "total" (k + 1) g/\a6l g:=by
 have nd:=a40.nd
 refine ⟨_,n4 F a40 B hm rfl rfl (fun cdv A outer s H E hr=>(b4 (g8 1 nd (a19 C3))
  (b4 (D1 zX rfl (K2 (a6 0)) (c6 2 nd) (b5 (g8 1 nd (g5 a5R hr (a7 (a6 1) (a7 (a6 2) a9))))))
  (b5 (c9 (a6 1)))))),?_⟩
 intro qs m hq hl;have n0:D.tup ([0,1].map D.int)=ratD 0:=rfl
 repeat (first | walk_at "z r" | simp only [n0])
 generalize el:loopF _ _ _=r;refine a0J el (fun d ρ=>∃(rs:List Rat) (o:Option D),d=rs.map ratD/\ρ=[some (.v (.lst (qs.map ratD))),some (.v (ratD (sumR rs 0))),o.map .v]/\Sz (rs.length * (m + 2) + 1) (sumR rs 0)) ⟨[],none,rfl,rfl,by rw [jP,Nat.zero_mul];exact sz_0⟩ ?_ ?_
 ·rintro d x _ hx hd ⟨rs,o,rfl,rfl,hz⟩;obtain ⟨q,hqq,rfl⟩:=zW.mp hx;rw [zD,zD] at hd;have b1:(rs.length + 1) * (m + 2)<=(qs.length + 1) * (m + 2):=Nat.mul_le_mul_right _ (by walk_at "o")
  rw [Nat.add_mul,Nat.one_mul] at b1;have ep:=a5Z _ _ _ _ hz (hq q hqq) (by walk_at "o")
  have hs:=a3W hz (hq q hqq);refine ⟨_,?_,rs ++ [q],some (ratD q),by rw [qF];rfl,rfl,?_⟩
  ·rw [a0T]
   repeat (first | walk_at "z r" | simp only [ep,A6])
  ·rw [a0T,zT,jQ,Nat.add_mul,Nat.one_mul];exact hs.mono (by walk_at "o")
 ·rintro _ rfl ⟨rs,o,he,rfl,_⟩;rw [a4Z he];walk_at "q"
def slackR (ts:List Tie) (ss:List Rat) (k:List Int):Rat:=sumR (k.map fun i=>ss.getD i.toNat 0) 0 - ((gainOf ts k:Int):Rat)
def ratH (ss:List Rat):D->D
 | .int i=>ratD (ss.getD i.toNat 0)
 | d=>d
theorem a43 (ss:List Rat)(k:List Int):((k.map D.int).filter fun _=>true).map (ratH ss)=(k.map fun i=>ss.getD i.toNat 0).map ratD:=by
 rw [m4,qG,qG];rfl
structure ShOk (n:Int) (ss:List Rat):Prop where
 len:ss.length=n.toNat
 sz:∀s∈ss,Sz 1500 s
theorem ShOk.get {n:Int}{ss:List Rat}(h:ShOk n ss){i:Int}(h0:0<=i)(h1:i < n):Sz 1500 (ss.getD i.toNat 0):=by
 rw [zL,zZ (by rw [h.len];walk_at "o")]
 exact h.sz _ (getElem_mem _)
theorem a5j {n:Int}{ts:List Tie}{ss:List Rat}{k:List Int}(hw:WebOk n ts)(hs:ShOk n ss)(hk:k∈parK n ts):Sz 4000 (sumR (k.map fun i=>ss.getD i.toNat 0) 0)/\Sz 41 ((gainOf ts k:Int):Rat):=by
 obtain ⟨hp,h1,h2⟩:=P7 hw hk;refine ⟨?_,a5S (by have:=a0r hw.t k;walk_at "o") (by decide)⟩
 match k,hp,h1,h2 with
 | [a],hp,_,_=>
  have:=hp a (by simp)
  exact (a3W sz_0 (hs.get this.1 this.2)).mono (by decide)
 | [a,b],hp,_,_=>
  have p1:=hp a (by simp)
  have p2:=hp b (by simp)
  exact (a3W (a3W sz_0 (hs.get p1.1 p1.2)) (hs.get p2.1 p2.2)).mono (by decide)
abbrev a3q:Stmt:=top 23
theorem a5f:FnScope ["web","shares","party","gain"] ["web","shares","party"] (defScope a3q):=by walk_at "c"
def a6m (g:LO):Prop:=∀(n:Int) (ts:List Tie) (ss:List Rat) (k:List Int),WebOk n ts->ShOk n ss->k∈parK n ts->g [webD n ts,.tup (ss.map ratD),tupI k]=some (.v (ratD (slackR ts ss k)))
theorem b0m {a0D:LO}{a4d:LO}{a35:LO}(a0u:Fn P w K mg base "gain_of" k a0D)(a0I:a2A a0D)(a3S:Fn P w K mg base "minus" k a4d)(a3R:a7w a4d)(a3I:Fn P w K mg base "total" k a35)(a3Z:a6l a35)(F:Fun K "slack" "slack" a3q f fd)(B:Binds K fd ["web","shares","party"] [])(hm:mg "slack"=some (.ref f)):∃g,Fn P w K mg base "slack" (k + 1) g/\a6m g:=by
 have nd:=a5f.nd
 refine ⟨_,n4 F a5f B hm rfl rfl (fun cdv A outer s H E hr=>(b4 (g8 3 nd (g5 a0u hr (a7 (a6 0) (a7 (a6 2) a9))))
  (b5 (c9 (g5 a3S hr (a7 (g5 a3I hr (a7 (w6 (N:=["person","shares"]) (js:=[none,some 1]) (li:=none) rfl (A2 (by exact (.own (.cap rfl rfl rfl rfl .nil))) rfl (by exact ⟨rfl,trivial⟩) (by rfl)) (B9 2) (fun _ _ _ _=>(c6 0 (show ((["person","shares"]:List Str) ++ [accN]).Nodup by decide +kernel))) (fun _ _ _ _=>w5) (fun _ _ _ _=>(b7 hr (a6 1) (a6 0)))) a9)) (a7 (m9 (a7 (a6 3) (a7 a8 a9))) a9))))))),?_⟩
 intro n ts ss k hw hs hk;obtain ⟨hp,h1,h2⟩:=P7 hw hk;obtain ⟨z1,z2⟩:=a5j hw hs hk;have eg:=a0I n ts k hw hk
 have et:=a3Z (k.map fun i=>ss.getD i.toNat 0) 1500 (fun q hq=>by obtain ⟨i,hi,rfl⟩:=zW.mp hq;exact hs.get (hp i hi).1 (hp i hi).2) (by
  rw [zD]
  exact zY (Nat.mul_le_mul_right _ (show k.length + 1<=3 by walk_at "o")) (by decide))
 have em:=a3R _ _ _ _ z1 z2 (by decide)
 rw [a1P] at em
 repeat (first | walk_at "z r" | simp only [eg])
 rw [t6 (ρ1:=[some (.v (webD n ts)),some (.v (.tup (ss.map ratD))),some (.v (tupI k)),some (.v (.int (gainOf ts k)))]) (xs:=k.map .int) (fun B=>∃o1:Option D,B=[o1.map .v,some (.v (.tup (ss.map ratD)))]) (fun _=>true) (ratH ss)]
 ·rw [a43]
  repeat (first | walk_at "z r" | simp only [et,em,A6])
  rfl
 ·unfold tupI;walk_at "q"
 ·rintro _ ⟨_,rfl⟩;rfl
 ·exact ⟨none,rfl⟩
 ·rw [zD];unfold lim;walk_at "o"
 ·rw [a43];exact D3 _
 ·rintro x hx _ zs ⟨o1,rfl⟩;obtain ⟨i,hi,rfl⟩:=Q2 hx;have ha:=a2e (ss:=ss) (i:=i) (hp i hi).1 (by have:=hs.len;have:=(hp i hi).2;walk_at "o")
  refine ⟨[some (.v (.int i)),some (.v (.tup (ss.map ratD)))],.v (ratD (ss.getD i.toNat 0)),⟨some _,rfl⟩,?_,rfl,fun _=>⟨?_,.inl rfl⟩⟩
  ·walk_at "q"
  ·repeat (first | walk_at "z r" | simp only [ha])
def negP (ts:List Tie) (ss:List Rat) (k:List Int):Bool:=decide ((slackR ts ss k).num < 0)
def onT (p:List Int->Bool):D->Bool
 | .tup ds=>match intsOf ds with
  | some k=>p k
  | none=>false
 | _=>false
theorem a6U (p:List Int->Bool)(k:List Int):onT p (tupI k)=p k:=by unfold onT tupI;simp only [C7]
theorem a1G (p:List Int->Bool)(ks:List (List Int)):((ks.map tupI).filter (onT p)).map id=(ks.filter p).map tupI:=by
 rw [map_id,filter_map];congr 1;congr 1
 funext k
 exact a6U p k
abbrev a3Q:Stmt:=top 24
theorem a4o:FnScope ["web","shares"] ["web","shares"] (defScope a3Q):=by walk_at "c"
def a6W (g:LO):Prop:=∀(n:Int) (ts:List Tie) (ss:List Rat),WebOk n ts->ShOk n ss->g [webD n ts,.tup (ss.map ratD)]=some (.o (.lst (((sortK (parK n ts)).filter (negP ts ss)).map tupI)))
theorem b03 {z9:LO}{a0L:LO}{a3z:LO}(z7:Fn P w K mg base "parties" k z9)(A1:T5 z9)(a0Q:Fn P w K mg base "less" k a0L)(a0q:a5O a0L)(a3H:Fn P w K mg base "slack" k a3z)(a3C:a6m a3z)(C3:a0p mg K)(F:Fun K "loose" "loose" a3Q f fd)(B:Binds K fd ["web","shares"] [])(hm:mg "loose"=some (.ref f)):∃g,Fn P w K mg base "loose" (k + 1) g/\a6W g:=by
 have nd:=a4o.nd;refine ⟨_,n4 F a4o B hm rfl rfl (fun cdv A outer s H E hr=>(b5 (c9 (w6 (N:=["party","web","shares"]) (js:=[none,some 0,some 1]) (li:=none) rfl (A2 (by exact (.own (.cap rfl rfl rfl rfl (.cap rfl rfl rfl rfl .nil)))) rfl (by exact ⟨rfl,⟨rfl,trivial⟩⟩) (by rfl)) (X0 (K2 (g5 z7 hr (a7 (a6 0) a9)))) (fun _ _ _ _=>(c6 0 (show ((["party","web","shares"]:List Str) ++ [accN]).Nodup by decide +kernel))) (fun _ _ _ _=>(a7i rfl (C0 (g5 a0Q hr (a7 (g5 a3H hr (a7 (a6 1) (a7 (a6 2) (a7 (a6 0) a9)))) (a7 (a19 C3) a9)))))) (fun _ _ _ _=>(a6 0)))))),?_⟩
 intro n ts ss hw hs;have ep:=A1 n ts hw;have lt:=D2 (sortK (parK n ts));walk_at "q";rw [t6 (ρ1:=[some (.v (webD n ts)),some (.v (.tup (ss.map ratD)))]) (xs:=(sortK (parK n ts)).map tupI) (fun B=>∃o1:Option D,B=[o1.map .v,some (.v (webD n ts)),some (.v (.tup (ss.map ratD)))]) (onT (negP ts ss)) id]
 ·rw [a1G];walk_at "q"
 ·repeat (first | walk_at "z r" | simp only [ep,lt])
 ·rintro _ ⟨_,rfl⟩;rfl
 ·exact ⟨none,rfl⟩
 ·rw [zD,(m5 _).length_eq];have:=(Y3 hw).1;unfold lim;walk_at "o"
 ·rw [a1G];exact D2 _
 ·rintro x hx _ zs ⟨o1,rfl⟩;obtain ⟨k,hk,rfl⟩:=a4T hx;have hk':=(m5 _).mem_iff.mp hk;have es:=a3C n ts ss k hw hs hk';obtain ⟨z1,z2⟩:=a5j hw hs hk';have el:=a0q _ _ _ _ (b3Q z1 z2) sz_0 (by decide)
  rw [show sumR (k.map fun i=>ss.getD i.toNat 0) 0 - ((gainOf ts k:Int):Rat)=slackR ts ss k from rfl] at el;have n0:D.tup [D.int 0,D.int 1]=ratD 0:=rfl;have en:decide ((slackR ts ss k).num * ((0:Rat).den:Int) < (0:Rat).num * ((slackR ts ss k).den:Int))=negP ts ss k:=by
   unfold negP;rw [show ((0:Rat).den:Int)=1 from rfl,show (0:Rat).num=0 from rfl,Int.mul_one,Int.zero_mul]
  refine ⟨[some (.v (tupI k)),some (.v (webD n ts)),some (.v (.tup (ss.map ratD)))],.v (tupI k),⟨some _,rfl⟩,?_,?_,fun _=>⟨?_,.inl rfl⟩⟩
  ·walk_at "q"
  ·rw [a6U]
   repeat (first | walk_at "z r" | simp only [es,A6,n0,el,en])
  ·walk_at "q"
def firmB (n:Int) (ts:List Tie) (ss:List Rat):Bool:=(((sortK (parK n ts)).filter (negP ts ss)).map tupI).isEmpty
theorem b1x (q:Rat):Int.gcd (if q.num < 0 then -q.num else q.num) (q.den:Int)=1:=by
 rw [a1m];exact q.reduced
abbrev X6:Stmt:=top 20
theorem a1h:FnScope ["thing"] ["thing"] (defScope X6):=by walk_at "c"
def a1Q (g:LO):Prop:=∀q:Rat,g [ratD q]=some (.v (.bl true))
theorem a4N {L8:LO}{B0:LO}{n9:LO}(L5:Fn P w K mg base "is_row" k L8)(M2:a2g L8)(B4:Fn P w K mg base "is_whole" k B0)(A7:W9 B0)(n6:Fn P w K mg base "common_divisor" k n9)(n8:C5 n9)(m_abs:mg "abs"=none)(F:Fun K "is_ratio" "is_ratio" X6 f fd)(B:Binds K fd ["thing"] [])(hm:mg "is_ratio"=some (.ref f)):∃g,Fn P w K mg base "is_ratio" (k + 1) g/\a1Q g:=by
 have nd:=a1h.nd
 refine ⟨_,n4 F a1h B hm rfl rfl (fun cdv A outer s H E hr=>(b4 (n5 (a3d (a08 (G5 (C0 (g5 L5 hr (a7 (a6 0) (a7 a8 a9))))) (a08 (G5 (C0 (g5 B4 hr (a7 (b7 hr (a6 0) a8) a9)))) (a12 (G5 (C0 (g5 B4 hr (a7 (b7 hr (a6 0) a8) a9)))))))) (b5 (c9 Y4)) j7)
  (b5 (c9 (C8 (a9g (b7 hr (a6 0) a8) a8) (A9 (F6 hr (g5 n6 hr (a7 (qx_b Z5 a3B m_abs (a7 (b7 hr (a6 0) a8) a9)) (a7 (b7 hr (a6 0) a8) a9))) a8))))))),?_⟩
 intro q;have hd:=q.den_pos;have e1:=M2 [.int q.num,.int q.den] 2;have z22:(((2:Nat):Int) == 2)=true:=rfl;rw [show (((([D.int q.num,D.int (q.den:Int)]:List D).length:Nat):Int) == 2)=true from rfl] at e1;have w1:=A7 (.int q.num) rfl;have w2:=A7 (.int q.den) rfl;have e2:=n8 (if q.num < 0 then -q.num else q.num) (q.den:Int) (by split <;> walk_at "o") (by walk_at "o")
 rw [b1x] at e2;have p1:decide ((0:Int) < (q.den:Int))=true:=qE (by walk_at "o")
 have z11:(((1:Nat):Int) == 1)=true:=rfl;rw [show ratD q= .tup [.int q.num,.int q.den] from rfl]
 repeat (first | walk_at "z r" | simp only [e1,w1,w2,whole,p1,e2,z11])
def nnD:D->Bool
 | .tup [.int a,_]=>decide (0<=a)
 | _=>false
theorem a87 (q:Rat):nnD (ratD q)=decide (0<=q.num):=rfl
def posB (ss:List Rat):Bool:=ss.all fun s=>decide (0<=s.num)
theorem b0z (ss:List Rat):gBools (fun bs=>bs.all id) (.lst ((ss.map ratD).map fun d=>D.bl (nnD d)))=some (.v (.bl (posB ss))):=by
 have gb:=b02 (r:=fun bs=>bs.all id) (a07 nnD (ss.map ratD))
 rwa [a14,all_map] at gb
abbrev P0:Stmt:=top 22
theorem a0d:FnScope ["web","thing"] ["web","thing"] (defScope P0):=by walk_at "c"
def a1d (g:LO):Prop:=∀(n:Int) (ts:List Tie) (ss:List Rat),1<=n->ss.length<=63->(∀s∈ss,Sz 400 s)->g [webD n ts,.tup (ss.map ratD)]=some (.v (.bl (decide (ss.length=n.toNat) && posB ss)))
theorem a3O {L8:LO}{X9:LO}{a0L:LO}(L5:Fn P w K mg base "is_row" k L8)(M2:a2g L8)(U9:Fn P w K mg base "is_ratio" k X9)(V1:a1Q X9)(a0Q:Fn P w K mg base "less" k a0L)(a0q:a5O a0L)(m_all:mg "all"=none)(C3:a0p mg K)(F:Fun K "is_shares" "is_shares" P0 f fd)(B:Binds K fd ["web","thing"] [])(hm:mg "is_shares"=some (.ref f)):∃g,Fn P w K mg base "is_shares" (k + 1) g/\a1d g:=by
 have nd:=a0d.nd
 refine ⟨_,n4 F a0d B hm rfl rfl (fun cdv A outer s H E hr=>(b4 (n5 (G5 (C0 (g5 L5 hr (a7 (a6 1) (a7 (b7 hr (a6 0) a8) a9))))) (b5 (c9 Y4)) j7)
  (b5 (c9 (qx_b (L9 rfl) R7 m_all (a7 (w6 (N:=["share"]) (js:=[none]) (li:=none) rfl (A2 (by exact (.own .nil)) rfl (by exact trivial) (by rfl)) (B9 1) (fun _ _ _ _=>(c6 0 (show ((["share"]:List Str) ++ [accN]).Nodup by decide +kernel))) (fun _ _ _ _=>w5) (fun _ _ _ _=>(C8 (g5 U9 hr (a7 (a6 0) a9)) (A9 (a1n (g5 a0Q hr (a7 (a6 0) (a7 (a19 C3) a9)))))))) a9)))))),?_⟩
 intro n ts ss hn hl hz;have e1:=M2 (ss.map ratD) n;have zl:((((ss.map ratD).length:Nat):Int) == n)=decide (ss.length=n.toNat):=by
  rw [zD,yH,beq_iff_eq,jM];walk_at "o"
 rw [zl] at e1;have n0:D.tup [D.int 0,D.int 1]=ratD 0:=rfl;rw [show webD n ts= .tup [.int n,.tup (ts.map tieD)] from rfl];cases hb:decide (ss.length=n.toNat) with
 | false=>rw [hb] at e1;repeat (first | walk_at "z r" | simp only [e1])
 | true=>
  rw [hb] at e1
  repeat (first | walk_at "z r" | simp only [e1])
  rw [t6 (ρ1:=[some (.v (.tup [.int n,.tup (ts.map tieD)])),some (.v (.tup (ss.map ratD)))]) (xs:=ss.map ratD) (fun B=>∃o1:Option D,B=[o1.map .v]) (fun _=>true) (fun d=>.bl (nnD d))]
  ·rw [m4];have gb:=b0z ss
   repeat (first | walk_at "z r" | simp only [gb])
  ·walk_at "q"
  ·rintro _ ⟨_,rfl⟩;rfl
  ·exact ⟨none,rfl⟩
  ·rw [zD];unfold lim;walk_at "o"
  ·exact a2j _ _
  ·rintro x hx _ zs ⟨o1,rfl⟩;obtain ⟨q,hq,rfl⟩:=zW.mp hx;have e2:=V1 q;have e3:=a0q q 0 400 400 (hz q hq) (sz_0.mono (by decide)) (by decide)
   have en:(!decide (q.num * ((0:Rat).den:Int) < (0:Rat).num * (q.den:Int)))=nnD (ratD q):=by
    rw [a87,show ((0:Rat).den:Int)=1 from rfl,show (0:Rat).num=0 from rfl,Int.mul_one,Int.zero_mul,yH,Bool.not_eq_true',decide_eq_false_iff_not,jM];walk_at "o"
   refine ⟨[some (.v (ratD q))],.v (.bl (nnD (ratD q))),⟨some _,rfl⟩,?_,rfl,fun _=>⟨?_,.inl rfl⟩⟩
   ·walk_at "q"
   ·repeat (first | walk_at "z r" | simp only [e2,n0,e3,en])
abbrev X7:Stmt:=top 26
theorem a06:FnScope ["web","shares"] ["web","shares"] (defScope X7):=by walk_at "c"
def covB (n:Int) (ts:List Tie) (ss:List Rat):Bool:=(decide (ss.length=n.toNat) && posB ss) && firmB n ts ss
def a1X (g:LO):Prop:=∀(n:Int) (ts:List Tie) (ss:List Rat),WebOk n ts->ss.length<=63->(∀s∈ss,Sz 400 s)->g [webD n ts,.tup (ss.map ratD)]=some (.v (.bl (covB n ts ss)))
theorem a45 {Q0:LO}{a3t:LO}(Q9:Fn P w K mg base "is_shares" k Q0)(P2:a1d Q0)(a3n:Fn P w K mg base "loose" k a3t)(a3p:a6W a3t)(F:Fun K "is_cover" "is_cover" X7 f fd)(B:Binds K fd ["web","shares"] [])(hm:mg "is_cover"=some (.ref f)):∃g,Fn P w K mg base "is_cover" (k + 1) g/\a1X g:=by
 have nd:=a06.nd;refine ⟨_,n4 F a06 B hm rfl rfl (fun cdv A outer s H E hr=>(b5 (c9 (C8 (g5 Q9 hr (a7 (a6 0) (a7 (a6 1) a9))) (A9 (a1n (g5 a3n hr (a7 (a6 0) (a7 (a6 1) a9))))))))),?_⟩;intro n ts ss hw hl hz;have hn:=hw.n1;have e1:=P2 n ts ss hn.1 hl hz;unfold covB;cases hb:(decide (ss.length=n.toNat) && posB ss) with
 | false=>rw [hb] at e1;repeat (first | walk_at "z r" | simp only [e1])
 | true=>
  rw [hb] at e1;have eo:=a3p n ts ss hw ⟨by rw [jH,jM] at hb;exact hb.1,fun s hs=>(hz s hs).mono (by decide)⟩
  have lt:=D2 ((sortK (parK n ts)).filter (negP ts ss))
  repeat (first | walk_at "z r" | simp only [e1,eo,lt,Bool.not_not])
  rfl
abbrev M6:Stmt:=top 40
theorem U3:FnScope ["thing"] ["thing"] (defScope M6):=by walk_at "c"
def a0o (g:LO):Prop:=∀i:Int,g [.int i]=some (.v (.bl true))
theorem a2s (c8:mg "isinstance"=none)(m_int:mg "int"=none)(N9:mg "bool"=none)(F:Fun K "_law_whole" "_law_whole" M6 f fd)(B:Binds K fd ["thing"] [])(hm:mg "_law_whole"=some (.ref f)):∃g,Fn P w K mg base "_law_whole" (k + 1) g/\a0o g:=by
 have nd:=U3.nd;refine ⟨_,n4 F U3 B hm rfl rfl (fun cdv A outer s H E hr=>(b5 (c9 (C8 (O1 (T:="int") (N2 (by decide)) c8 m_int (a6 0)) (A9 (a1n (O1 (T:="bool") (N2 (by decide)) c8 N9 (a6 0)))))))),?_⟩
 intro i;have i1:=a9r (d:=.int i) rfl;have i2:=a3u (d:=.int i) rfl;have j1:isI (.int i)=true:=rfl;have j2:isB (.int i)=false:=rfl
 repeat (first | walk_at "z r" | simp only [i1,i2,j1,j2])
abbrev J6:Stmt:=top 41
theorem Q7:FnScope ["one","other"] ["one","other"] (defScope J6):=by walk_at "c"
def J9 (g:LO):Prop:=∀a b:Int,g [.int a,.int b]=some (.v (.int (Int.gcd a b:Nat)))
theorem a1W (m_abs:mg "abs"=none)(F:Fun K "_law_common" "_law_common" J6 f fd)(B:Binds K fd ["one","other"] [])(hm:mg "_law_common"=some (.ref f)):∃g,Fn P w K mg base "_law_common" (k + 1) g/\J9 g:=by
 have nd:=Q7.nd
 refine ⟨_,n4 F Q7 B hm rfl rfl (fun cdv A outer s H E hr=>(b4 (g8 0 nd (qx_b Z5 a3B m_abs (a7 (a6 0) a9)))
  (b4 (g8 1 nd (qx_b Z5 a3B m_abs (a7 (a6 1) a9)))
  (b4 (Z3 zX (b3p (a6 1) a8) (b5 (a4b 0 1 rfl nd (a7 (a6 1) (a7 (K9 (a6 0) (a6 1)) a9)) rfl)))
  (b5 (c9 (a6 0))))))),?_⟩
 intro a b;have l:=a4W (i:=0) (j:=1) (a:=if a < 0 then -a else a) (b:=if b < 0 then -b else b) (ρ:=[some (.v (.int (if a < 0 then -a else a))),some (.v (.int (if b < 0 then -b else b)))]) (by decide) (by split <;> walk_at "o") (by split <;> walk_at "o") rfl rfl
 rw [a1m,Int.gcd_comm,a1m,Int.gcd_comm] at l
 repeat (first | walk_at "z r" | simp only [l])
abbrev D9:Stmt:=top 42
theorem M1:FnScope ["thing"] ["thing"] (defScope D9):=by walk_at "c"
def O6 (g:LO):Prop:=∀q:Rat,g [ratD q]=some (.v (.bl true))
theorem a0x {v6:LO}{N4:LO}(v5:Fn P w K mg base "_law_common" k v6)(v7:J9 v6)(N5:Fn P w K mg base "_law_whole" k N4)(O5:a0o N4)(c8:mg "isinstance"=none)(j9:mg "tuple"=none)(m_len:mg "len"=none)(m_all:mg "all"=none)(F:Fun K "_law_is_ratio" "_law_is_ratio" D9 f fd)(B:Binds K fd ["thing"] [])(hm:mg "_law_is_ratio"=some (.ref f)):∃g,Fn P w K mg base "_law_is_ratio" (k + 1) g/\O6 g:=by
 have nd:=M1.nd
 refine ⟨_,n4 F M1 B hm rfl rfl (fun cdv A outer s H E hr=>(b4 (n5 (a3d (a08 (G5 (C0 (O1 (T:="tuple") (N2 (by decide)) c8 j9 (a6 0)))) (a08 (a5l hr (qx_b l5 G7 m_len (a7 (a6 0) a9)) a8) (a12 (G5 (C0 (qx_b (L9 rfl) R7 m_all (a7 (w6 (N:=["part"]) (js:=[none]) (li:=none) rfl (A2 (by exact (.own .nil)) rfl (by exact trivial) (by rfl)) (B9 0) (fun _ _ _ _=>(c6 0 (show ((["part"]:List Str) ++ [accN]).Nodup by decide +kernel))) (fun _ _ _ _=>w5) (fun _ _ _ _=>(g5 N5 hr (a7 (a6 0) a9)))) a9)))))))) (b5 (c9 Y4)) j7)
  (b5 (c9 (C8 (a9g (b7 hr (a6 0) a8) a8) (A9 (F6 hr (g5 v5 hr (a7 (b7 hr (a6 0) a8) (a7 (b7 hr (a6 0) a8) a9))) a8))))))),?_⟩
 intro q;have hd:=q.den_pos;have it:=Y9 (d:=.tup [.int q.num,.int q.den]) rfl;have iT:isT (.tup [.int q.num,.int (q.den:Int)])=true:=rfl;have z22:(((2:Nat):Int) == 2)=true:=rfl;have p1:decide ((0:Int) < (q.den:Int))=true:=qE (by walk_at "o")
 have ec:=v7 q.num q.den;rw [show Int.gcd q.num (q.den:Int)=1 from q.reduced] at ec;have z11:(((1:Nat):Int) == 1)=true:=rfl;rw [show ratD q= .tup [.int q.num,.int q.den] from rfl]
 repeat (first | walk_at "z r" | simp only [it,iT,z22])
 rw [t6 (ρ1:=[some (.v (.tup [.int q.num,.int q.den]))]) (xs:=[.int q.num,.int q.den]) (fun B=>∃o1:Option D,B=[o1.map .v]) (fun _=>true) (fun _=>.bl true)]
 ·rw [m4];have at':gBools (fun bs=>bs.all id) (.lst [D.bl true,D.bl true])=some (.v (.bl true)):=a5P [.int q.num,.int (q.den:Int)]
  repeat (first | walk_at "z r" | simp only [at',p1,ec,z11])
 ·walk_at "q"
 ·rintro _ ⟨_,rfl⟩;rfl
 ·exact ⟨none,rfl⟩
 ·show 2<=lim;unfold lim;walk_at "o"
 ·exact a2j _ _
 ·rintro x hx _ zs ⟨o1,rfl⟩;obtain ⟨i,rfl⟩:∃i:Int,x= .int i:=by
   simp only [zS,xG,or_false] at hx;rcases hx with rfl | rfl
   ·exact ⟨_,rfl⟩
   ·exact ⟨_,rfl⟩
  have ew:=O5 i;refine ⟨[some (.v (.int i))],.v (.bl true),⟨some _,rfl⟩,?_,rfl,fun _=>⟨?_,.inl rfl⟩⟩
  ·walk_at "q"
  ·repeat (first | walk_at "z r" | simp only [ew])
abbrev S0:Stmt:=top 43
theorem a0n:FnScope ["one","other"] ["one","other"] (defScope S0):=by walk_at "c"
def R5 (g:LO):Prop:=∀(a b c d:Int),a.natAbs < 2 ^ 250->b.natAbs < 2 ^ 250->c.natAbs < 2 ^ 250->d.natAbs < 2 ^ 250->g [.tup [.int a,.int b],.tup [.int c,.int d]]=some (.v (.tup [.int (a * d + c * b),.int (b * d)]))
theorem a3U (F:Fun K "_law_plus" "_law_plus" S0 f fd)(B:Binds K fd ["one","other"] [])(hm:mg "_law_plus"=some (.ref f)):∃g,Fn P w K mg base "_law_plus" (k + 1) g/\R5 g:=by
 have nd:=a0n.nd;refine ⟨_,n4 F a0n B hm rfl rfl (fun cdv A outer s H E hr=>(b5 (c9 (m9 (a7 (k7 (m8 (b7 hr (a6 0) a8) (b7 hr (a6 1) a8)) (m8 (b7 hr (a6 1) a8) (b7 hr (a6 0) a8))) (a7 (m8 (b7 hr (a6 0) a8) (b7 hr (a6 1) a8)) a9)))))),?_⟩;intro a b c d ha hb hc hd;have m1:mOk a d:=D5 ha hd (by decide) (by decide)
 have m2:mOk c b:=D5 hc hb (by decide) (by decide)
 have m3:mOk b d:=D5 hb hd (by decide) (by decide)
 repeat (first | walk_at "z r" | simp only [m1,m2,m3])
abbrev W2:Stmt:=top 47
theorem a1g:FnScope ["top","bottom","by"] ["top","bottom"] (defScope W2):=by walk_at "c"
def X1 (g:LO):Prop:=∀t b:Int,0 < b->b.natAbs < big->g [.int t,.int b]=some (.v (ratD (Rat.divInt t b)))
theorem a4z {v6:LO}(v5:Fn P w K mg base "_law_common" k v6)(v7:J9 v6)(F:Fun K "_law_low" "_law_low" W2 f fd)(B:Binds K fd ["top","bottom"] [])(hm:mg "_law_low"=some (.ref f)):∃g,Fn P w K mg base "_law_low" (k + 1) g/\X1 g:=by
 have nd:=a1g.nd
 refine ⟨_,n4 F a1g B hm rfl rfl (fun cdv A outer s H E hr=>(b4 (g8 2 nd (g5 v5 hr (a7 (a6 0) (a7 (a6 1) a9))))
  (b5 (c9 (m9 (a7 (O0 (a6 0) (a6 2)) (a7 (O0 (a6 1) (a6 2)) a9))))))),?_⟩
 intro t b hb hs;have d:=a6P (t:=t) hb hs;have e:=v7 t b;obtain ⟨p1,p2⟩:=O2 (t:=t) hb;unfold ratD;rw [p1,p2]
 repeat (first | walk_at "z r" | simp only [e,d])
theorem slack1 (ts:List Tie)(ss:List Rat)(a:Int):slackR ts ss [a]=ss.getD a.toNat 0:=by
 unfold slackR;rw [A3];show (0:Rat) + _ - (0:Rat)=_
 grind
theorem slack2 (ts:List Tie)(ss:List Rat)(a c:Int):slackR ts ss [a,c]=ss.getD a.toNat 0 + ss.getD c.toNat 0 - (gainOf ts [a,c]:Int):=by
 unfold slackR;show (0:Rat) + _ + _ - _=_
 grind
theorem a7u (q:Rat):(q.num:Rat)=q * ((q.den:Int):Rat):=by
 have h:=G3 q;rw [Rat.divInt_eq_div] at h;have hd:((q.den:Int):Rat)≠0:=by
  intro z
  have:(q.den:Int)=0:=by exact_mod_cast z
  have:=q.den_pos
  walk_at "o"
 generalize ((q.den:Int):Rat)=d at h hd ⊢;generalize (q.num:Rat)=t at h ⊢;rw [<-h,Rat.div_mul_cancel hd]
theorem b1R {t b:Int}{q:Rat}(hb:0 < b)(h:(t:Rat)=q * (b:Rat)):(t=0↔q=0)/\(0<=t↔0<=q.num):=by
 have hb':(0:Rat) < (b:Rat):=by exact_mod_cast hb
 have e:q=(t:Rat) / (b:Rat):=by rw [h,Rat.mul_div_cancel (by grind)]
 refine ⟨⟨fun z=>?_,fun z=>?_⟩,⟨fun z=>?_,fun z=>?_⟩⟩
 ·rw [e,z,Rat.div_def];exact Rat.zero_mul _
 ·rw [z,Rat.zero_mul] at h;exact_mod_cast h
 ·rw [Rat.num_nonneg];refine Rat.not_lt.mp fun z2=>?_
  have:=Rat.mul_lt_mul_of_pos_right z2 hb'
  rw [<-h,Rat.zero_mul] at this
  have:t < 0:=by exact_mod_cast this
  walk_at "o"
 ·have:(0:Rat)<=(t:Rat):=by rw [h];exact Rat.mul_nonneg (Rat.num_nonneg.mp z) (Rat.le_of_lt hb')
  exact_mod_cast this
theorem a9U (n:Int)(ts:List Tie)(ss:List Rat):((sortK (parK n ts)).all fun k=>decide (0<=(slackR ts ss k).num))=firmB n ts ss:=by
 unfold firmB;rw [yH,List.isEmpty_iff,List.map_eq_nil_iff,List.filter_eq_nil_iff,jN];refine forall_congr' fun k=>imp_congr_right fun _=>?_;unfold negP;rw [jM,jM,Int.not_lt]
theorem a9E {ts:List Tie}(nd:(ts.map key2).Nodup){a b g:Int}(h:(a,b,g)∈ts):gainOf ts [a,b]=g:=by
 induction ts with
 | nil=>cases h
 | cons t ts ih=>
  rw [zK,nodup_cons] at nd;rw [gainOf];rcases zS.mp h with rfl | h
  ·rw [if_pos rfl]
  ·rw [if_neg fun e=>nd.1 (zW.mpr ⟨_,h,e.symm⟩)];exact ih nd.2 h
theorem a7Q {n:Int}{ts:List Tie}{ss:List Rat}(hw:WebOk n ts)(hl:ss.length=n.toNat)(hp:posB ss=true):firmB n ts ss=ts.all fun t=>decide (0<=(slackR ts ss [t.1,t.2.1]).num):=by
 rw [<-a9U,yH,jN,jN];constructor
 ·intro h t ht;exact h [t.1,t.2.1] ((m5 _).mem_iff.mpr (zP _ (zW.mpr ⟨t,ht,rfl⟩)))
 ·intro h k hk;rcases a5i.mp ((m5 _).mem_iff.mp hk) with ⟨i,hi,rfl⟩ | hk
  ·rw [slack1];have hi':(i:Int).toNat < ss.length:=by walk_at "o"
   rw [zL,zZ hi'];exact jN.mp hp _ (getElem_mem hi')
  ·obtain ⟨t,ht,rfl⟩:=zW.mp hk;exact h t ht
def tieB (ts:List Tie) (ss:List Rat):D->Bool
 | .tup [.int a,.int b,.int _]=>decide (0<=(slackR ts ss [a,b]).num)
 | _=>false
theorem b2e (ts us:List Tie)(ss:List Rat):(us.map tieD).all (tieB ts ss)=us.all fun t=>decide (0<=(slackR ts ss [t.1,t.2.1]).num):=by rw [all_map];rfl
abbrev M5:Stmt:=top 46
theorem U6:FnScope ["web","shares","a","b","gain","both"] ["web","shares"] (defScope M5):=by walk_at "c"
def Y2 (g:LO):Prop:=∀(n:Int) (ts:List Tie) (ss:List Rat),WebOk n ts->ss.length<=63->(∀s∈ss,Sz 240 s)->g [webD n ts,.tup (ss.map ratD)]=some (.v (.bl (covB n ts ss)))
theorem a2v {B6:LO}{E3:LO}(w9:Fn P w K mg base "_law_plus" k B6)(z5:R5 B6)(E2:Fn P w K mg base "_law_is_ratio" k E3)(E4:O6 E3)(m_all:mg "all"=none)(c8:mg "isinstance"=none)(j9:mg "tuple"=none)(m_len:mg "len"=none)(F:Fun K "_law_cover" "_law_cover" M5 f fd)(B:Binds K fd ["web","shares"] [])(hm:mg "_law_cover"=some (.ref f)):∃g,Fn P w K mg base "_law_cover" (k + 1) g/\Y2 g:=by
 have nd:=U6.nd
 refine ⟨_,n4 F U6 B hm rfl rfl (fun cdv A outer s H E hr=>(b4 (n5 (a3d (a08 (G5 (C0 (O1 (T:="tuple") (N2 (by decide)) c8 j9 (a6 1)))) (a08 (a5l hr (qx_b l5 G7 m_len (a7 (a6 1) a9)) (b7 hr (a6 0) a8)) (a12 (G5 (C0 (qx_b (L9 rfl) R7 m_all (a7 (w6 (N:=["share"]) (js:=[none]) (li:=none) rfl (A2 (by exact (.own .nil)) rfl (by exact trivial) (by rfl)) (B9 1) (fun _ _ _ _=>(c6 0 (show ((["share"]:List Str) ++ [accN]).Nodup by decide +kernel))) (fun _ _ _ _=>w5) (fun _ _ _ _=>(g5 E2 hr (a7 (a6 0) a9)))) a9)))))))) (b5 (c9 Y4)) j7)
  (b4 (n5 (G5 (C0 (qx_b (L9 rfl) R7 m_all (a7 (w6 (N:=["share"]) (js:=[none]) (li:=none) rfl (A2 (by exact (.own .nil)) rfl (by exact trivial) (by rfl)) (B9 1) (fun _ _ _ _=>(c6 0 (show ((["share"]:List Str) ++ [accN]).Nodup by decide +kernel))) (fun _ _ _ _=>w5) (fun _ _ _ _=>(qx_ge (b7 hr (a6 0) a8) a8))) a9)))) (b5 (c9 Y4)) j7)
  (b4 (D1 zX rfl (K2 (b7 hr (a6 0) a8)) (E1 rfl (g7 (c6 2 nd) (g7 (c6 3 nd) (g7 (c6 4 nd) A5)))) (b4 (g8 5 nd (g5 w9 hr (a7 (b7 hr (a6 1) (a6 2)) (a7 (b7 hr (a6 1) (a6 3)) a9))))
  (b5 (n5 (a4g hr (b7 hr (a6 5) a8) (m8 (a6 4) (b7 hr (a6 5) a8))) (b5 (c9 Y4)) j7))))
  (b5 (c9 Y4)))))),?_⟩
 intro n ts ss hw hl hz;have hn:=hw.n1;have ew:webD n ts= .tup [.int n,.tup (ts.map tieD)]:=rfl;have zl:((ss.length:Int) == n)=decide (ss.length=n.toNat):=by rw [yH,beq_iff_eq,jM];walk_at "o"
 have it:oIsi "tuple" (.tup (ss.map ratD))=some (.v (.bl true)):=Y9 (d:=.tup (ss.map ratD)) rfl;unfold covB;rw [ew];cases hb:decide (ss.length=n.toNat) with
 | false=>repeat (first | walk_at "z r" | simp only [it,zD,zl,hb])
 | true=>
  have hs:ss.length=n.toNat:=xP hb
  repeat (first | walk_at "z r" | simp only [it,zD,zl,hb])
  rw [t6 (ρ1:=[some (.v (.tup [.int n,.tup (ts.map tieD)])),some (.v (.tup (ss.map ratD))),none,none,none,none]) (xs:=ss.map ratD) (fun B=>∃o1:Option D,B=[o1.map .v]) (fun _=>true) (fun _=>.bl true)]
  ·rw [m4];have a1:=a5P (ss.map ratD)
   repeat (first | walk_at "z r" | simp only [a1])
   rw [t6 (ρ1:=[some (.v (.tup [.int n,.tup (ts.map tieD)])),some (.v (.tup (ss.map ratD))),none,none,none,none]) (xs:=ss.map ratD) (fun B=>∃o1:Option D,B=[o1.map .v]) (fun _=>true) (fun d=>.bl (nnD d))]
   ·rw [m4];have a2:=b0z ss;cases hp:posB ss with
    | false=>rw [hp] at a2;repeat (first | walk_at "z r" | simp only [a2])
    | true=>
     rw [hp] at a2
     repeat (first | walk_at "z r" | simp only [a2])
     have ft:=a7Q hw hs hp;rw [<-b2e] at ft;rw [ft];generalize el:loopF _ _ _=r;refine a2t el (fun ρ=>∃o2 o3 o4 o5:Option D,ρ=[some (.v (.tup [.int n,.tup (ts.map tieD)])),some (.v (.tup (ss.map ratD))),o2.map .v,o3.map .v,o4.map .v,o5.map .v]) (tieB ts ss) (.v (.bl false)) ⟨none,none,none,none,rfl⟩ ?_ ?_ ?_
     ·rintro x hx' _ ⟨o2,o3,o4,o5,rfl⟩;obtain ⟨⟨a,b,gn⟩,ht,rfl⟩:=zW.mp hx';have g1:0<=a/\a < b/\b < n/\1<=gn/\gn<=10 ^ 12:=hw.t _ ht;have s2:=slack2 ts ss a b;rw [a9E hw.nk ht] at s2;have a1:=a2e (ss:=ss) (i:=a) g1.1 (by walk_at "o")
      have a2:=a2e (ss:=ss) (i:=b) (by walk_at "o") (by walk_at "o")
      have z1:Sz 240 (ss.getD a.toNat 0):=by
       rw [zL,zZ (by walk_at "o")]
       exact hz _ (getElem_mem _)
      have z2:Sz 240 (ss.getD b.toNat 0):=by
       rw [zL,zZ (by walk_at "o")]
       exact hz _ (getElem_mem _)
      generalize ss.getD a.toNat 0=q at a1 z1 s2;generalize ss.getD b.toNat 0=q' at a2 z2 s2;have n1:=a7u q;have n2:=a7u q';have dp:=q.den_pos;have dp':=q'.den_pos;have hB:(0:Int) < (q.den:Int) * (q'.den:Int):=Int.mul_pos (by walk_at "o") (by walk_at "o")
      have eq:(((q.num * (q'.den:Int) + q'.num * (q.den:Int)) - gn * ((q.den:Int) * (q'.den:Int)):Int):Rat)=slackR ts ss [a,b] * (((q.den:Int) * (q'.den:Int):Int):Rat):=by
       rw [s2,Rat.intCast_sub,Rat.intCast_add,Rat.intCast_mul,Rat.intCast_mul,Rat.intCast_mul,Rat.intCast_mul,n1,n2]
       grind
      have kk:=(b1R hB eq).2;have hn1:q.num.natAbs < 2 ^ 250:=zB z1.1 (by decide)
      have hd1:(q.den:Int).natAbs < 2 ^ 250:=by rw [qY];exact zB z1.2 (by decide)
      have hn2:q'.num.natAbs < 2 ^ 250:=zB z2.1 (by decide)
      have hd2:(q'.den:Int).natAbs < 2 ^ 250:=by rw [qY];exact zB z2.2 (by decide)
      have ep:=z5 q.num q.den q'.num q'.den hn1 hd1 hn2 hd2;have hm:((q.den:Int) * (q'.den:Int)).natAbs < 2 ^ 500:=by
       rw [xS,show (500:Nat)=250 + 250 from rfl,Nat.pow_add];exact jR hd1 hd2
      have mk:mOk gn ((q.den:Int) * (q'.den:Int)):=D5 (m:=60) (n:=500) (by walk_at "o") hm (by decide) (by decide)
      have a1:atI (ss.map ratD) a=some (.tup [.int q.num,.int q.den]):=a1;have a2:atI (ss.map ratD) b=some (.tup [.int q'.num,.int q'.den]):=a2;have tb:tieB ts ss (tieD (a,b,gn))=decide (0<=(slackR ts ss [a,b]).num):=rfl;rw [tb];generalize (slackR ts ss [a,b]).num=S at kk;generalize (q.num * (q'.den:Int) + q'.num * (q.den:Int))=T at kk ep;generalize ((q.den:Int) * (q'.den:Int))=B at kk ep mk;generalize hG:gn * B=G at kk;refine ⟨fun h=>?_,fun h=>?_⟩
      ·have h:=xP h;have lt:decide (T < G)=false:=qK (by have:=kk.mpr h;walk_at "o")
       refine ⟨_,?_,some (.int a),some (.int b),some (.int gn),some (.tup [.int T,.int B]),rfl⟩;unfold tieD
       repeat (first | walk_at "z r" | simp only [a1,a2,ep,mk,hG,lt])
      ·have h:=of_decide_eq_false h
       have lt:decide (T < G)=true:=qE (by
        apply Classical.byContradiction;intro z
        exact h (kk.mp (by walk_at "o")))
       refine ⟨[some (.v (.tup [.int n,.tup (ts.map tieD)])),some (.v (.tup (ss.map ratD))),some (.v (.int a)),some (.v (.int b)),some (.v (.int gn)),some (.v (.tup [.int T,.int B]))],?_⟩;unfold tieD
       repeat (first | walk_at "z r" | simp only [a1,a2,ep,mk,hG,lt])
     ·rintro h _ rfl ⟨o2,o3,o4,o5,rfl⟩;rw [h];walk_at "q"
     ·rintro h _ rfl;rw [h];walk_at "q"
   ·walk_at "q"
   ·rintro _ ⟨_,rfl⟩;rfl
   ·exact ⟨none,rfl⟩
   ·rw [zD];unfold lim;walk_at "o"
   ·exact a2j _ _
   ·rintro x hx _ zs ⟨o1,rfl⟩;obtain ⟨q,hq,rfl⟩:=zW.mp hx;refine ⟨[some (.v (ratD q))],.v (.bl (nnD (ratD q))),⟨some _,rfl⟩,?_,rfl,fun _=>⟨?_,.inl rfl⟩⟩
    ·walk_at "q"
    ·rw [a87];unfold ratD;walk_at "q"
  ·walk_at "q"
  ·rintro _ ⟨_,rfl⟩;rfl
  ·exact ⟨none,rfl⟩
  ·rw [zD];unfold lim;walk_at "o"
  ·exact a2j _ _
  ·rintro x hx' _ zs ⟨o1,rfl⟩;obtain ⟨y,hy,rfl⟩:=zW.mp hx';have er:=E4 y;refine ⟨[some (.v (ratD y))],.v (.bl true),⟨some _,rfl⟩,?_,rfl,fun _=>⟨?_,.inl rfl⟩⟩
   ·walk_at "q"
   ·repeat (first | walk_at "z r" | simp only [er])
def hasP (i:Int):D->Bool
 | .tup [.int a,.int b,.int _]=>decide (i∈[a,b])
 | _=>false
def gainT:D->D
 | .tup [_,_,c]=>c
 | d=>d
def gnsOf (ts:List Tie) (i:Int):List Int:=(ts.filter fun t=>decide (i∈[t.1,t.2.1])).map fun t=>t.2.2
def mostOf (ts:List Tie) (i:Int):Int:=maxI (0 :: gnsOf ts i)
theorem a3T (i:Int):∀ts:List Tie,((ts.map tieD).filter (hasP i)).map gainT=(gnsOf ts i).map D.int
 | []=>rfl
 | t :: ts=>by
  have ih:=a3T i ts;unfold gnsOf at ih ⊢;rw [zK,List.filter_cons,List.filter_cons];have e:hasP i (tieD t)=decide (i∈[t.1,t.2.1]):=rfl;rw [e];cases decide (i∈[t.1,t.2.1]) with
  | true=>simp only [qQ,zK];rw [ih];rfl
  | false=>simp only [qX,jW];exact ih
theorem a9j {n:Int}{ts:List Tie}(hw:WebOk n ts)(i:Int):0<=mostOf ts i/\mostOf ts i<=10 ^ 12:=by
 obtain ⟨h1,h2,h3⟩:=a0z (gnsOf ts i) 0;have hb:∀x∈gnsOf ts i,x<=10 ^ 12:=fun x hx=>by
  obtain ⟨t,ht,rfl⟩:=zW.mp hx;exact (hw.t t (qW.mp ht).1).2.2.2.2
 unfold mostOf;refine ⟨h2,?_⟩;rcases h1 with h1 | h1
 ·show (gnsOf ts i).foldl _ 0<=_;rw [h1];decide
 ·exact hb _ h1
def mostH (ts:List Tie):D->D
 | .int i=>.int (mostOf ts i)
 | d=>d
theorem a4I (ts:List Tie)(m:Nat):((rngD 0 m).filter fun _=>true).map (mostH ts)=((up m).map (mostOf ts)).map D.int:=by
 rw [m4,a5X,qG,qG];rfl
def lowH:D->D
 | .int x=>ratD (Rat.divInt x 2)
 | d=>d
def oneH:D->D
 | .int x=>.tup [.int x,.int 1]
 | d=>d
abbrev J5:Stmt:=top 48
theorem P9:FnScope ["pool","web","way","most","bottom"] ["pool","web"] (defScope J5):=by walk_at "c"
def U5 (g:LL):Prop:=∀(n:Int) (ts:List Tie) (p:Int),WebOk n ts->∃(ss:List Rat) (q:Int),ss.length=n.toNat/\(∀s∈ss,Sz 200 s)/\g (poolD p) [webD n ts]=some (.o (.lst (ss.map ratD)),poolD q)
theorem a16 {j8:LL}{D0:LO}{a3V:LO}(b8:FnL P w K mg base "_law_take" k j8)(b9:D7 j8)(t9:Fn P w K mg base "_law_low" k D0)(u4:X1 D0)(a3w:Fn P w K mg base "cover" k a3V)(a4j:a6f a3V)(N6:mg "list"=none)(m_max:mg "max"=none)(m_int:mg "int"=none)(j0:mg "range"=none)(F:Fun K "_law_shares" "_law_shares" J5 f fd)(B:Binds K fd ["pool","web"] [])(hm:mg "_law_shares"=some (.ref f)):∃g,FnL P w K mg base "_law_shares" (k + 1) g/\U5 g:=by
 have nd:=P9.nd
 refine ⟨_,a3v F P9 B hm rfl rfl (fun cdv A outer s H E hr=>(b4 (g8 2 nd (j5 b8 hr (a7 (a6 0) (a7 a8 a9))))
  (b4 (n5 (E6 hr (a6 2) a8) (b5 (c9 (a4Y rfl N6 (a7 (b7 hr (g5 a3w hr (a7 (a6 1) a9)) a8) a9)))) j7)
  (b4 (b1a 3 nd (a76 (N:=["person","web"]) (js:=[none,some 1]) (li:=none) rfl (b10 (by exact (.own (.cap rfl rfl rfl rfl .nil))) rfl (by exact ⟨rfl,trivial⟩) (by rfl) (by rfl)) (X0 (a05 j0 (a7 (b7 hr (a6 1) a8) a9))) (fun _ _ _ _=>(c6 0 (show ((["person","web"]:List Str) ++ [accN]).Nodup by decide +kernel))) (fun _ _ _ _=>w5) (fun _ _ _ _=>(qx_b (a8k rfl) b2a m_max (a7 (k7 (B5 (a7 a8 a9)) (w6 (N:=["a","b","gain","person"]) (js:=[none,none,none,some 0]) (li:=none) rfl (A2 (by exact (.own (.own (.own (.cap rfl rfl rfl rfl .nil))))) rfl (by exact ⟨rfl,trivial⟩) (by rfl)) (X0 (K2 (b7 hr (a6 1) a8))) (fun _ _ _ _=>(E1 rfl (g7 (c6 0 (show ((["a","b","gain","person"]:List Str) ++ [accN]).Nodup by decide +kernel)) (g7 (c6 1 (show ((["a","b","gain","person"]:List Str) ++ [accN]).Nodup by decide +kernel)) (g7 (c6 2 (show ((["a","b","gain","person"]:List Str) ++ [accN]).Nodup by decide +kernel)) A5))))) (fun _ _ _ _=>(a7i rfl (b39 hr (a6 3) (m9 (a7 (a6 0) (a7 (a6 1) a9)))))) (fun _ _ _ _=>(a6 2)))) a9)))))
  (b4 (n5 (E6 hr (a6 2) a8) (b5 (c9 (w6 (N:=["one"]) (js:=[none]) (li:=none) rfl (A2 (by exact (.own .nil)) rfl (by exact trivial) (by rfl)) (B9 3) (fun _ _ _ _=>(c6 0 (show ((["one"]:List Str) ++ [accN]).Nodup by decide +kernel))) (fun _ _ _ _=>w5) (fun _ _ _ _=>(g5 t9 hr (a7 (a6 0) (a7 a8 a9))))))) j7)
  (b4 (n5 (E6 hr (a6 2) a8) (b5 (c9 (w6 (N:=["one"]) (js:=[none]) (li:=none) rfl (A2 (by exact (.own .nil)) rfl (by exact trivial) (by rfl)) (B9 3) (fun _ _ _ _=>(c6 0 (show ((["one"]:List Str) ++ [accN]).Nodup by decide +kernel))) (fun _ _ _ _=>w5) (fun _ _ _ _=>(m9 (a7 (a6 0) (a7 a8 a9))))))) j7)
  (b4 (g8 4 nd (b7 hr (B5 (a7 (k7 a8 (j5 b8 hr (a7 (a6 0) (a7 a8 a9)))) (a7 (C9 (C9 (a0t a8 a8) a8) (j5 b8 hr (a7 (a6 0) (a7 a8 a9)))) a9))) (qx_t a71 b4i m_int (a7 (F6 hr (j5 b8 hr (a7 (a6 0) (a7 a8 a9))) a8) a9))))
  (b5 (c9 (w6 (N:=["one","bottom","pool"]) (js:=[none,some 4,some 0]) (li:=some (2,0)) rfl (A2 (by exact (.own (.cap rfl rfl rfl rfl (.cap rfl rfl rfl rfl .nil)))) rfl (by exact ⟨rfl,⟨rfl,trivial⟩⟩) (by rfl)) (X0 (K2 (a6 3))) (fun _ _ _ _=>(c6 0 (show ((["one","bottom","pool"]:List Str) ++ [accN]).Nodup by decide +kernel))) (fun _ _ _ _=>w5) (fun _ _ _ _=>(g5 t9 hr (a7 (j5 b8 hr (a7 (a6 2) (a7 (k7 (m8 (a6 1) (a6 0)) a8) a9))) (a7 (a6 1) a9)))))))))))))),?_⟩
 intro n ts p hw;have hn:=hw.n1;have hl:=hw.len;have ew:webD n ts= .tup [.int n,.tup (ts.map tieD)]:=rfl;have lp:∀q,lfC (poolD q)=true:=fun _=>rfl;obtain ⟨i1,p1,h1,e1⟩:=b9 p 4 (by decide) (by decide)
 by_cases w0:i1=0
 ·subst w0;obtain ⟨xs,os,hc,e4⟩:=a4j n ts hw;have lr:=D3 (xs.map fun x=>Rat.divInt x 2);have lt:=D2 os;refine ⟨xs.map fun x=>Rat.divInt x 2,p1,by rw [zD];exact hc.len,fun s hs=>?_,?_⟩
  ·obtain ⟨x,hx,rfl⟩:=zW.mp hs
   have:=hc.rng x hx
   exact (P5 (n:=60) (by decide) (xK (show x.natAbs<=10 ^ 16 by walk_at "o") (by decide)) (by decide)).mono (by decide)
  ·repeat (first | walk_at "z r" | simp only [e1,lp,Int.reduceBEq,e4,lr,lt])
 ·have q0:(i1 == 0)=false:=xY.mpr w0;have r1:(-(2 ^ 62:Int)<=n/\n < 2 ^ 62):=by walk_at "o"
  obtain ⟨ms,ems,hml,hmr⟩:∃ms:List Int,(up n.toNat).map (mostOf ts)=ms/\ms.length=n.toNat/\∀x∈ms,0<=x/\x<=10 ^ 12:=⟨_,rfl,by rw [zD,C1],fun x hx=>by
   obtain ⟨i,_,rfl⟩:=zW.mp hx
   exact a9j hw i⟩
  have lm:=t7 ms;rw [ew]
  repeat (first | walk_at "z r" | simp only [e1,lp,q0])
  rw [t6 (ρ1:=[some (.l (poolD p1)),some (.v (.tup [.int n,.tup (ts.map tieD)])),some (.v (.int i1)),none,none]) (xs:=rngD 0 n.toNat) (fun B=>∃o1:Option D,B=[o1.map .v,some (.v (.tup [.int n,.tup (ts.map tieD)]))]) (fun _=>true) (mostH ts)]
  ·rw [a4I,ems];rcases (by walk_at "o":i1=1\/i1=2\/i1=3) with rfl | rfl | rfl
   ·have lr:=D3 (ms.map fun x=>Rat.divInt x 2);have em:((ms.map D.int).filter fun _=>true).map lowH=(ms.map fun x=>Rat.divInt x 2).map ratD:=by rw [m4,qG,qG];rfl
    refine ⟨ms.map fun x=>Rat.divInt x 2,p1,by rw [zD];exact hml,fun s hs=>?_,?_⟩
    ·obtain ⟨x,hx,rfl⟩:=zW.mp hs
     have:=hmr x hx
     exact (P5 (n:=60) (by decide) (xK (show x.natAbs<=10 ^ 12 by walk_at "o") (by decide)) (by decide)).mono (by decide)
    ·repeat (first | walk_at "z r" | simp only [Int.reduceBEq,lm])
     rw [t6 (ρ1:=[some (.l (poolD p1)),some (.v (.tup [.int n,.tup (ts.map tieD)])),some (.v (.int 1)),some (.o (.lst (ms.map .int))),none]) (xs:=ms.map .int) (fun B=>∃o1:Option D,B=[o1.map .v]) (fun _=>true) lowH]
     ·rw [em]
      repeat (first | walk_at "z r" | simp only [lr,lp])
     ·repeat (first | walk_at "z r" | simp only [lm])
     ·rintro _ ⟨_,rfl⟩;rfl
     ·exact ⟨none,rfl⟩
     ·rw [zD];unfold lim;walk_at "o"
     ·rw [em];exact lr
     ·rintro x hx _ zs ⟨o1,rfl⟩;obtain ⟨y,hy,rfl⟩:=Q2 hx;have el:=u4 y 2 (by decide) (by decide)
      refine ⟨[some (.v (.int y))],.v (ratD (Rat.divInt y 2)),⟨some _,rfl⟩,?_,rfl,fun _=>⟨?_,.inl rfl⟩⟩
      ·walk_at "q"
      ·repeat (first | walk_at "z r" | simp only [el,A6])
   ·have lr:=D3 (ms.map fun x=>((x:Int):Rat));have em:((ms.map D.int).filter fun _=>true).map oneH=(ms.map fun x=>((x:Int):Rat)).map ratD:=by
     rw [m4,qG,qG];exact jE fun x _=>(a1P x).symm
    refine ⟨ms.map fun x=>((x:Int):Rat),p1,by rw [zD];exact hml,fun s hs=>?_,?_⟩
    ·obtain ⟨x,hx,rfl⟩:=zW.mp hs
     have:=hmr x hx
     exact (a5S (m:=60) (xK (show x.natAbs<=10 ^ 12 by walk_at "o") (by decide)) (by decide)).mono (by decide)
    ·repeat (first | walk_at "z r" | simp only [Int.reduceBEq,lm])
     rw [t6 (ρ1:=[some (.l (poolD p1)),some (.v (.tup [.int n,.tup (ts.map tieD)])),some (.v (.int 2)),some (.o (.lst (ms.map .int))),none]) (xs:=ms.map .int) (fun B=>∃o1:Option D,B=[o1.map .v]) (fun _=>true) oneH]
     ·rw [em]
      repeat (first | walk_at "z r" | simp only [lr,lp])
     ·repeat (first | walk_at "z r" | simp only [lm])
     ·rintro _ ⟨_,rfl⟩;rfl
     ·exact ⟨none,rfl⟩
     ·rw [zD];unfold lim;walk_at "o"
     ·rw [em];exact lr
     ·rintro x hx _ zs ⟨o1,rfl⟩;obtain ⟨y,hy,rfl⟩:=Q2 hx;refine ⟨[some (.v (.int y))],.v (.tup [.int y,.int 1]),⟨some _,rfl⟩,?_,rfl,fun _=>⟨?_,.inl rfl⟩⟩
      ·walk_at "q"
      ·walk_at "q"
   ·obtain ⟨i2,p2,h2,e2⟩:=b9 p1 12 (by decide) (by decide)
    obtain ⟨i3,p3,h3,e3⟩:=b9 p2 99 (by decide) (by decide)
    obtain ⟨i4,p4,h4,e4⟩:=b9 p3 3 (by decide) (by decide)
    have pw:CPow 10 46:=by decide
    obtain ⟨B,eB,hB⟩:∃B:Int,atI [D.int (1 + i2),.int ((10:Int) ^ (46:Int).toNat - 1 - i3)] (if (i4 == 0)=true then 1 else 0)=some (.int B)/\0 < B/\B<=10 ^ 46:=by
     have e46:(10:Int) ^ (46:Int).toNat=10 ^ 46:=rfl;cases (i4 == 0) with
     | true=>exact ⟨_,a_1,by rw [e46];walk_at "o",by rw [e46];walk_at "o"⟩
     | false=>exact ⟨_,a_0,by walk_at "o",by walk_at "o"⟩
    have hBb:B.natAbs < big:=zB (show B.natAbs < 2 ^ 160 by walk_at "o") (qD (by decide) (by decide))
    repeat (first | walk_at "z r" | simp only [Int.reduceBEq,lm,e2,e3,e4,lp,pw,eB])
    generalize ec:fComp _ _ _ _ _ _ _=r;refine a7U ec (fun d B' zs=>∃(o:Option D) (p:Int) (ps:List Rat),B'=[o.map .v,some (.v (.int B)),some (.l (poolD p))]/\zs=ps.map ratD/\ps.length=d.length/\∀q∈ps,Sz 200 q) (xs:=ms.map .int) (ρ1:=[some (.l (poolD p4)),some (.v (.tup [.int n,.tup (ts.map tieD)])),some (.v (.int 3)),some (.v (.lst (ms.map .int))),some (.v (.int B))]) ?_ ?_ ?_ ?_ ?_ ?_ ?_ ?_
    ·repeat (first | walk_at "z r" | simp only [lm])
    ·rw [zD];unfold lim;walk_at "o"
    ·rfl
    ·rintro d _ _ ⟨_,_,_,rfl,_⟩;rfl
    ·exact ⟨none,p4,[],rfl,rfl,rfl,fun _ h=>nomatch h⟩
    ·rintro d x _ _ hx ⟨o,p,ps,rfl,rfl,hb,hps⟩ hl';obtain ⟨y,hy,rfl⟩:=Q2 hx;have hy:=hmr y hy;have hT:0<=B * y/\B * y<=10 ^ 46 * 10 ^ 12:=⟨Int.mul_nonneg (by walk_at "o") hy.1,Int.mul_le_mul hB.2 hy.2 hy.1 (by decide)⟩
     have mk:mOk B y:=D5 (m:=160) (n:=60) (by walk_at "o") (by walk_at "o") (by decide) (by decide)
     obtain ⟨j,p',hj,ej⟩:=b9 p (B * y + 1) (by walk_at "o") (by walk_at "o")
     have el:=u4 j B hB.1 hBb;rw [zD] at hl';unfold lim at hl';refine ⟨[some (.v (.int y)),some (.v (.int B)),some (.l (poolD p'))],(ps ++ [Rat.divInt j B]).map ratD,?_,⟨some _,p',ps ++ [Rat.divInt j B],rfl,rfl,?_,fun x hx=>?_⟩,?_⟩
     ·repeat (first | walk_at "z r" | simp only [mk,ej,lp,el,A6,zD,hl',qF])
     ·rw [zT,zT,hb];rfl
     ·rcases jC.mp hx with hx | hx
      ·exact hps x hx
      ·rw [zU.mp hx];exact P5 hB.1 (by walk_at "o") (by walk_at "o")
     ·rw [zD,zD,zT];exact zE _
    ·rintro _ _ ⟨o,p,ps,rfl,rfl,_⟩;exact ⟨D3 ps,_,rfl,rfl⟩
    ·rintro _ _ c ⟨o,p,ps,rfl,rfl,hb,hps⟩ hc rfl;cases hc;rw [zD,hml] at hb;have lr:=D3 ps;refine ⟨ps,p,hb,hps,?_⟩
     repeat (first | walk_at "z r" | simp only [lr,lp])
  ·repeat (first | walk_at "z r" | simp only [r1])
  ·rintro _ ⟨_,rfl⟩;rfl
  ·exact ⟨none,rfl⟩
  ·rw [U0];unfold lim;walk_at "o"
  ·rw [a4I];exact t7 _
  ·rintro x hx _ zs ⟨o1,rfl⟩;obtain ⟨i,rfl,_⟩:=T0 hx;have gl:(gnsOf ts i).length<=63:=by unfold gnsOf;rw [zD];exact zY (List.length_filter_le _ _) (by walk_at "o")
   have l1:1 + (gnsOf ts i).length<=1000000:=by walk_at "o"
   have om:=b4n (ns:=0 :: gnsOf ts i) (by simp)
   have om:gMaxL (.lst (D.int 0 :: (gnsOf ts i).map .int))=some (.v (.int (mostOf ts i))):=om;refine ⟨[some (.v (.int i)),some (.v (.tup [.int n,.tup (ts.map tieD)]))],.v (.int (mostOf ts i)),⟨some _,rfl⟩,?_,rfl,fun _=>⟨?_,.inl rfl⟩⟩
   ·walk_at "q"
   ·walk_at "q";rw [t6 (ρ1:=some (.v (.int i)) :: some (.v (.tup [.int n,.tup (ts.map tieD)])) :: acc zs) (xs:=ts.map tieD) (fun B=>∃o1 o2 o3:Option D,B=[o1.map .v,o2.map .v,o3.map .v,some (.v (.int i))]) (hasP i) gainT]
    ·rw [a3T]
     repeat (first | walk_at "z r" | simp only [zD,l1,om,qI,jP])
    ·walk_at "q"
    ·rintro _ ⟨_,_,_,rfl⟩;rfl
    ·exact ⟨none,none,none,rfl⟩
    ·rw [zD];unfold lim;walk_at "o"
    ·rw [a3T];exact t7 _
    ·rintro x hx _ zs ⟨o1,o2,o3,rfl⟩;obtain ⟨⟨a,b,c⟩,ha,rfl⟩:=zW.mp hx;have tl:=b1g (b:=false) (n:=i) (xs:=[.int a,.int b]) (ns:=[a,b]) rfl;refine ⟨[some (.v (.int a)),some (.v (.int b)),some (.v (.int c)),some (.v (.int i))],.v (.int c),⟨some _,some _,some _,rfl⟩,?_,?_,fun _=>⟨?_,.inl rfl⟩⟩
     ·unfold tieD;walk_at "q"
     ·rw [show hasP i (tieD (a,b,c))=decide (i∈[a,b]) from rfl]
      repeat (first | walk_at "z r" | simp only [tl])
     ·walk_at "q"
theorem a8C {l:List Rat}{i:Int}(h0:0<=i)(h:i < l.length)(hl:l.length<=1000):mPopAt (l.map ratD) [.int i]=some (.v (ratD (l.getD i.toNat 0)),(l.eraseIdx i.toNat).map ratD):=by
 show (if 0<=i/\i < 2 ^ 62 then ((l.map ratD)[i.toNat]?).map fun d=>(W.v d,(l.map ratD).eraseIdx i.toNat) else none)=_;rw [if_pos ⟨h0,by walk_at "o"⟩,qA,zL,zZ (by walk_at "o"),a28]
 rfl
theorem b0H {l:List Rat}{i:Int}{q:Rat}(h0:0<=i)(h:i < l.length)(hl:l.length<=1000):mIns (l.map ratD) [.int i,ratD q]=some (.v .non,(insL l i.toNat q).map ratD):=by
 rw [r_ins,if_pos ⟨⟨h0,by walk_at "o"⟩,by rw [zD];unfold lim;walk_at "o"⟩]
 unfold insL;rw [qF,zK,List.map_take,List.map_drop]
theorem a6j {m:Nat}{ss:List Rat}{i:Nat}(hz:∀s∈ss,Sz m s)(hi:i < ss.length):Sz m (ss.getD i 0):=by
 rw [zL,zZ hi];exact hz _ (getElem_mem _)
theorem Y0 {m k:Nat}{ss:List Rat}{i:Nat}{r:Rat}(hz:∀s∈ss,Sz m s)(hr:Sz k r)(hm:m<=k):∀s∈ss.set i r,Sz k s:=fun s hs=>by
 rcases List.mem_or_eq_of_mem_set hs with h | h
 ·exact (hz s h).mono hm
 ·rw [h];exact hr
theorem a93 (l:List Rat):(l.map ratD).reverse=l.reverse.map ratD:=List.map_reverse.symm
theorem a7l {q:Rat}{u v:Int}(h:Sz 200 q)(hu:u=1\/u= -1)(hv:0 < v/\v<=20):(q.num * v + u * (q.den:Int)).natAbs < 2 ^ 206/\((q.den:Int) * v).natAbs < 2 ^ 206/\0 < (q.den:Int) * v:=by
 have h1:=h.1;have h2:=h.2;have dp:=q.den_pos;have a1:(q.num * v).natAbs < 2 ^ 200 * 32:=by rw [xS];exact jR h1 (by walk_at "o")
 have a2:((q.den:Int) * v).natAbs < 2 ^ 200 * 32:=by rw [xS,qY];exact jR h2 (by walk_at "o")
 refine ⟨?_,zB a2 (by decide),Int.mul_pos (by walk_at "o") hv.1⟩
 rcases hu with rfl | rfl <;> walk_at "o"
abbrev K6:Stmt:=top 49
theorem Q1:FnScope ["pool","shares","way","at","to","one","part","more","lower"] ["pool","shares"] (defScope K6):=by walk_at "c"
def U8 (g:D->D->Option (W×D)):Prop:=∀(p:Int) (ss:List Rat),1<=ss.length->ss.length<=8->(∀s∈ss,Sz 200 s)->∃(rs:List Rat) (q:Int),rs.length<=63/\(∀s∈rs,Sz 240 s)/\g (poolD p) (.lst (ss.map ratD))=some (.o (.lst (rs.map ratD)),poolD q)
theorem a2b {j8:LL}{D0:LO}{B6:LO}(b8:FnL P w K mg base "_law_take" k j8)(b9:D7 j8)(t9:Fn P w K mg base "_law_low" k D0)(u4:X1 D0)(w9:Fn P w K mg base "_law_plus" k B6)(z5:R5 B6)(m_len:mg "len"=none)(F:Fun K "_law_spoilt" "_law_spoilt" K6 f fd)(B:Binds K fd ["pool","shares"] [])(hm:mg "_law_spoilt"=some (.ref f)):∃g,FnG P w K mg base "_law_spoilt" (k + 1) g/\U8 g:=by
 have nd:=Q1.nd
 refine ⟨_,b4d F Q1 B hm rfl rfl (fun cdv A outer s H E hr=>(b4 (g8 2 nd (j5 b8 hr (a7 (a6 0) (a7 a8 a9))))
  (b4 (g8 3 nd (j5 b8 hr (a7 (a6 0) (a7 (qx_b l5 G7 m_len (a7 (a6 1) a9)) a9))))
  (b4 (g8 4 nd (j5 b8 hr (a7 (a6 0) (a7 (qx_b l5 G7 m_len (a7 (a6 1) a9)) a9))))
  (b4 (n5 (E6 hr (a6 2) a8) (b5 (A8 (g5 t9 hr (a7 (C9 (C9 (a0t a8 a8) a8) (j5 b8 hr (a7 (a6 0) (a7 a8 a9)))) (a7 (k7 (a0t a8 a8) (j5 b8 hr (a7 (a6 0) (a7 a8 a9)))) a9))) (G8 (a6 1) (a6 3)))) (b5 (n5 (E6 hr (a6 2) a8) (b5 (T8 (a9u (a6 1) (a7 (a6 3) a9)))) (b5 (n5 (E6 hr (a6 2) a8) (b5 (T8 (a8u (a6 1) (a7 (a6 3) (a7 (b7 hr (a6 1) (a6 4)) a9))))) (b5 (n5 (E6 hr (a6 2) a8) (b5 (A8 (g5 t9 hr (a7 (C9 (m8 (b7 hr (b7 hr (a6 1) (a6 3)) a8) a8) (b7 hr (b7 hr (a6 1) (a6 3)) a8)) (a7 (m8 (b7 hr (b7 hr (a6 1) (a6 3)) a8) a8) a9))) (G8 (a6 1) (a6 3)))) (b5 (n5 (E6 hr (a6 2) a8) (b5 (A8 (m9 (a7 (C9 (C9 a8 (b7 hr (b7 hr (a6 1) (a6 3)) a8)) a8) (a7 a8 a9))) (G8 (a6 1) (a6 3)))) (b5 (n5 (E6 hr (a6 2) a8) (b4 (g8 5 nd (b7 hr (a6 1) (a6 3)))
  (b4 (A8 (b7 hr (a6 1) (a6 4)) (G8 (a6 1) (a6 3)))
  (b5 (A8 (a6 5) (G8 (a6 1) (a6 4)))))) (b5 (n5 (E6 hr (a6 2) a8) (b5 (g8 1 nd (b1F (a6 1)))) (b5 (n5 (E6 hr (a6 2) a8) (b4 (g8 6 nd (m9 (a7 a8 (a7 (k7 a8 (j5 b8 hr (a7 (a6 0) (a7 a8 a9)))) a9))))
  (b4 (g8 7 nd (g5 w9 hr (a7 (b7 hr (a6 1) (a6 3)) (a7 (a6 6) a9))))
  (b4 (g8 8 nd (g5 w9 hr (a7 (b7 hr (a6 1) (a6 4)) (a7 (m9 (a7 (P4 a8) (a7 (b7 hr (a6 6) a8) a9))) a9))))
  (b4 (A8 (g5 t9 hr (a7 (b7 hr (a6 7) a8) (a7 (b7 hr (a6 7) a8) a9))) (G8 (a6 1) (a6 3)))
  (b5 (A8 (g5 t9 hr (a7 (b7 hr (a6 8) a8) (a7 (b7 hr (a6 8) a8) a9))) (G8 (a6 1) (a6 4)))))))) j7)))))))))))))))
  (b5 (c9 (a6 1)))))))),?_⟩
 intro p ss h1 h8 hz;have lp:∀q,lfC (poolD q)=true:=fun _=>rfl;obtain ⟨W',p1,hW,e1⟩:=b9 p 9 (by decide) (by decide)
 obtain ⟨A,p2,hA,e2⟩:=b9 p1 (ss.length:Nat) (by walk_at "o") (by walk_at "o")
 obtain ⟨O,p3,hO,e3⟩:=b9 p2 (ss.length:Nat) (by walk_at "o") (by walk_at "o")
 have lr:=D3 ss;have aA:=a2e (ss:=ss) hA.1 hA.2;have aO:=a2e (ss:=ss) hO.1 hO.2;have xA:ixN (ss.map ratD).length A=some A.toNat:=a0w hA.1 (by rw [zD];exact hA.2)
 have gA:=a6j (i:=A.toNat) hz (by walk_at "o")
 have gO:=a6j (i:=O.toNat) hz (by walk_at "o")
 have dA:atI (ss.map ratD) A=some (.tup [.int (ss.getD A.toNat 0).num,.int ((ss.getD A.toNat 0).den:Int)]):=aA;have dO:atI (ss.map ratD) O=some (.tup [.int (ss.getD O.toNat 0).num,.int ((ss.getD O.toNat 0).den:Int)]):=aO;have up:∀s∈ss,Sz 240 s:=fun s hs=>(hz s hs).mono (by decide)
 rw [b3X]
 repeat (first | walk_at "z i" | simp only [e1,e2,e3,lp,zD,lr,Nat.reduceSub,List.replicate])
 rcases (by walk_at "o":W'=0\/W'=1\/W'=2\/W'=3\/W'=4\/W'=5\/W'=6\/W'=7\/W'=8) with rfl | rfl | rfl | rfl | rfl | rfl | rfl | rfl | rfl
 ·have pp:=a8C (l:=ss) hA.1 hA.2 (by walk_at "o")
  refine ⟨ss.eraseIdx A.toNat,p3,by have:=List.length_eraseIdx_le ss A.toNat;walk_at "o",fun s hs=>up s (List.mem_of_mem_eraseIdx hs),?_⟩
  repeat (first | walk_at "z r" | simp only [Int.reduceBEq,pp,A6])
 ·have pp:=b0H (l:=ss) (q:=ss.getD O.toNat 0) hA.1 hA.2 (by walk_at "o")
  refine ⟨insL ss A.toNat (ss.getD O.toNat 0),p3,by rw [a4F];walk_at "o",fun s hs=>?_,?_⟩
  ·rcases b0C.mp hs with rfl | hs
   ·exact gO.mono (by decide)
   ·exact up s hs
  ·repeat (first | walk_at "z r" | simp only [Int.reduceBEq,aO,pp,A6])
 ·generalize ss.getD A.toNat 0=q at dA gA;have dp:=q.den_pos;have z1:=gA.1;have z2:=gA.2;have m1:mOk q.num 7:=D5 (m:=200) (n:=3) z1 (by decide) (by decide) (by decide)
  have m2:mOk (q.den:Int) 7:=D5 (m:=200) (n:=3) (by rw [qY];exact z2) (by decide) (by decide) (by decide)
  have el:=u4 (q.num * 7 - q.den) ((q.den:Int) * 7) (by walk_at "o") (zB (show ((q.den:Int) * 7).natAbs < 2 ^ 204 by walk_at "o") (qD (by decide) (by decide)))
  have zr:Sz 240 (Rat.divInt (q.num * 7 - q.den) ((q.den:Int) * 7)):=P5 (by walk_at "o") (by walk_at "o") (by walk_at "o")
  generalize Rat.divInt (q.num * 7 - q.den) ((q.den:Int) * 7)=r at el zr;have s1:(ss.map ratD).set A.toNat (ratD r)=(ss.set A.toNat r).map ratD:=map_set.symm;refine ⟨ss.set A.toNat r,p3,by rw [qL];walk_at "o",Y0 hz zr (by decide),?_⟩
  repeat (first | walk_at "z r" | simp only [Int.reduceBEq,dA,m1,m2,el,xA,s1,A6])
 ·generalize ss.getD A.toNat 0=q at dA gA;have z1:=gA.1;have er:D.tup [.int (0 - q.num - 1),.int 1]=ratD (((0 - q.num - 1:Int)):Rat):=(a1P _).symm;have zr:Sz 240 (((0 - q.num - 1:Int)):Rat):=a5S (by walk_at "o") (by decide)
  generalize (((0 - q.num - 1:Int)):Rat)=r at er zr;have s1:(ss.map ratD).set A.toNat (ratD r)=(ss.set A.toNat r).map ratD:=map_set.symm;refine ⟨ss.set A.toNat r,p3,by rw [qL];walk_at "o",Y0 hz zr (by decide),?_⟩
  repeat (first | walk_at "z r" | simp only [Int.reduceBEq,dA,er,xA,s1,A6])
 ·generalize ss.getD A.toNat 0=x at aA gA;generalize ss.getD O.toNat 0=y at aO gO;have s1:(ss.map ratD).set A.toNat (ratD y)=(ss.set A.toNat y).map ratD:=map_set.symm;have z1:∀s∈ss.set A.toNat y,Sz 200 s:=Y0 hz gO (by decide)
  have l1:(ss.set A.toNat y).length=ss.length:=qL;generalize ss.set A.toNat y=qs at s1 z1 l1;have xO:ixN (qs.map ratD).length O=some O.toNat:=a0w hO.1 (by rw [zD];walk_at "o")
  have s2:(qs.map ratD).set O.toNat (ratD x)=(qs.set O.toNat x).map ratD:=map_set.symm;refine ⟨qs.set O.toNat x,p3,by rw [qL];walk_at "o",fun s hs=>(Y0 z1 gA (by decide) s hs).mono (by decide),?_⟩
  repeat (first | walk_at "z r" | simp only [Int.reduceBEq,aA,aO,xA,s1,A6,xO,s2])
 ·refine ⟨ss.reverse,p3,by rw [List.length_reverse];walk_at "o",fun s hs=>up s (List.mem_reverse.mp hs),?_⟩
  have rr:=a93 ss;have lr':=D3 ss.reverse
  repeat (first | walk_at "z r" | simp only [Int.reduceBEq,r_rvL,b32,b3R,rr,lr'])
 ·obtain ⟨t,p4,ht,e4⟩:=b9 p3 9 (by decide) (by decide)
  obtain ⟨v,ev,hv⟩:∃v:Int,2 + t=v/\0 < v/\v<=20:=⟨_,rfl,by walk_at "o",by walk_at "o"⟩
  generalize ss.getD A.toNat 0=x at dA gA;generalize ss.getD O.toNat 0=y at dO gO;have dp:=x.den_pos;have dp':=y.den_pos;obtain ⟨a1,a2,a3⟩:=a7l (u:=1) (v:=v) gA (.inl rfl) hv;obtain ⟨b1,b2,b3⟩:=a7l (u:=-1) (v:=v) gO (.inr rfl) hv;have k1:=gA.1;have k2:(x.den:Int).natAbs < 2 ^ 200:=by rw [qY];exact gA.2
  have k3:=gO.1;have k4:(y.den:Int).natAbs < 2 ^ 200:=by rw [qY];exact gO.2
  have e5:=z5 x.num x.den 1 v (zB k1 (by decide)) (zB k2 (by decide)) (by decide) (xK (show v.natAbs<=20 by walk_at "o") (by decide))
  have e6:=z5 y.num y.den (-1) v (zB k3 (by decide)) (zB k4 (by decide)) (by decide) (xK (show v.natAbs<=20 by walk_at "o") (by decide))
  have l1:=u4 (x.num * v + 1 * (x.den:Int)) _ a3 (zB a2 (qD (by decide) (by decide)))
  have l2:=u4 (y.num * v + -1 * (y.den:Int)) _ b3 (zB b2 (qD (by decide) (by decide)))
  have z1:=P5 a3 a1 a2;have z2:=P5 b3 b1 b2;generalize x.num * v + 1 * (x.den:Int)=T1 at e5 l1 z1;generalize (x.den:Int) * v=B1 at e5 l1 z1;generalize y.num * v + -1 * (y.den:Int)=T2 at e6 l2 z2;generalize (y.den:Int) * v=B2 at e6 l2 z2;generalize Rat.divInt T1 B1=r1 at l1 z1;generalize Rat.divInt T2 B2=r2 at l2 z2;have s1:(ss.map ratD).set A.toNat (ratD r1)=(ss.set A.toNat r1).map ratD:=map_set.symm;have y1:∀s∈ss.set A.toNat r1,Sz 206 s:=Y0 hz z1 (by decide)
  have ll:(ss.set A.toNat r1).length=ss.length:=qL;generalize ss.set A.toNat r1=qs at s1 y1 ll;have xO:ixN (qs.map ratD).length O=some O.toNat:=a0w hO.1 (by rw [zD];walk_at "o")
  have s2:(qs.map ratD).set O.toNat (ratD r2)=(qs.set O.toNat r2).map ratD:=map_set.symm;refine ⟨qs.set O.toNat r2,p4,by rw [qL];walk_at "o",fun s hs=>(Y0 y1 z2 (by decide) s hs).mono (by decide),?_⟩
  repeat (first | walk_at "z r" | simp only [Int.reduceBEq,Int.reduceNeg,e4,lp,ev,dA,dO,e5,e6,l1,l2,xA,s1,xO,s2,A6])
 ·refine ⟨ss,p3,by walk_at "o",up,?_⟩
  repeat (first | walk_at "z r" | simp only [Int.reduceBEq])
 ·obtain ⟨t,p4,ht,e4⟩:=b9 p3 99 (by decide) (by decide)
  obtain ⟨u,p5,hu,e5⟩:=b9 p4 99 (by decide) (by decide)
  have pw:CPow 10 60:=by decide
  have pw':CPow 10 59:=by decide
  have c60:(10:Int) ^ (60:Int).toNat=10 ^ 60:=rfl;have c59:(10:Int) ^ (59:Int).toNat=10 ^ 59:=rfl;have el:=u4 ((10:Int) ^ (60:Int).toNat - 1 - t) ((10:Int) ^ (59:Int).toNat + u) (by rw [c59];walk_at "o") (zB (show ((10:Int) ^ (59:Int).toNat + u).natAbs < 2 ^ 220 by rw [c59];walk_at "o") (qD (by decide) (by decide)))
  have zr:Sz 240 (Rat.divInt ((10:Int) ^ (60:Int).toNat - 1 - t) ((10:Int) ^ (59:Int).toNat + u)):=P5 (by rw [c59];walk_at "o") (by rw [c60];walk_at "o") (by rw [c59];walk_at "o")
  generalize Rat.divInt ((10:Int) ^ (60:Int).toNat - 1 - t) ((10:Int) ^ (59:Int).toNat + u)=r at el zr;have s1:(ss.map ratD).set A.toNat (ratD r)=(ss.set A.toNat r).map ratD:=map_set.symm;refine ⟨ss.set A.toNat r,p5,by rw [qL];walk_at "o",Y0 hz zr (by decide),?_⟩
  repeat (first | walk_at "z r" | simp only [Int.reduceBEq,pw,pw',e4,e5,lp,el,xA,s1,A6])
abbrev a0g:Stmt:=top 50
theorem b0e:FnScope ["script","at","pool","web","turn","shares","found"] ["script"] (defScope a0g):=by walk_at "c"
theorem b35 {R3:LO}{W1:LL}{W6:LO}{L3:D->D->Option (W×D)}{L1:LL}{O4:LO}(S2:Fn P w K mg base "_law_pool" k R3)(O8:a1c R3)(W8:FnL P w K mg base "_law_web" k W1)(X4:a1O W1)(V7:Fn P w K mg base "is_cover" k W6)(V3:a1X W6)(J3:FnG P w K mg base "_law_spoilt" k L3)(J7:U8 L3)(K8:FnL P w K mg base "_law_shares" k L1)(J4:U5 L1)(N8:Fn P w K mg base "_law_cover" k O4)(M8:Y2 O4)(j0:mg "range"=none)(m_max:mg "max"=none)(m_min:mg "min"=none)(j9:mg "tuple"=none)(m_len:mg "len"=none)(c8:mg "isinstance"=none)(N9:mg "bool"=none)(F:Fun K "law" "law" a0g f fd):FnOk P w K mg base CX0 (k + 1) f fd ["script"] (spLaw K):=by
 have nd:=b0e.nd
 refine b3Z F b0e rfl rfl (fun cdv A outer s H E hr=>(b4 (D1 zX rfl (b3s j0 (a7 a8 (a7 (qx_b (a0B rfl) a52 m_max (a7 a8 (a7 (qx_b (M4 rfl) a15 m_min (a7 a8 (a7 (qx_b l5 G7 m_len (a7 (a6 0) a9)) a9))) a9))) a9))) (c6 1 nd) (b4 (g8 2 nd (g5 S2 hr (a7 (a6 0) (a7 (a6 1) a9))))
  (b4 (g8 3 nd (j5 W8 hr (a7 (a6 2) (a7 a8 a9))))
  (b5 (D1 zX rfl (a05 j0 (a7 a8 a9)) (c6 4 nd) (b4 (g8 5 nd (qx_t D4 Z4 j9 (a7 (b1m 2 J3 hr (a6 2) (j5 K8 hr (a7 (a6 2) (a7 (a6 3) a9)))) a9)))
  (b4 (g8 6 nd (g5 V7 hr (a7 (a6 3) (a7 (a6 5) a9))))
  (b5 (n5 (a3d (a08 (G5 (C0 (O1 (T:="bool") (N2 (by decide)) c8 N9 (a6 6)))) (a12 (a5l hr (a6 6) (g5 N8 hr (a7 (a6 3) (a7 (a6 5) a9))))))) (b5 (c9 Y4)) j7)))))))))
  (b5 (c9 Y4)))) ?_
 intro ns hl;obtain ⟨M,eM,hM⟩:∃M:Int,(if (if (ns.length:Int) < 6 then (ns.length:Int) else 6) > 1 then (if (ns.length:Int) < 6 then (ns.length:Int) else 6) else 1)=M/\1<=M/\M<=6:=⟨_,rfl,by split <;> (try split) <;> walk_at "o",by split <;> (try split) <;> walk_at "o"⟩
 have r1:((-(2 ^ 62:Int)<=0/\(0:Int) < 2 ^ 62)/\-(2 ^ 62:Int)<=M/\M < 2 ^ 62):=by walk_at "o"
 have ln:=t7 ns;have lp:∀q,lfC (poolD q)=true:=fun q=>rfl;have lp':∀q,lfW (.o (poolD q))=true:=fun q=>rfl
 repeat (first | walk_at "z r" | simp only [zD,eM,r1])
 generalize el:loopF _ _ _=r;refine a0J el (fun _ ρ=>∃x1 x2 x3 x4 x5 x6:Option W,ρ=[some (.v (.lst (ns.map .int))),x1,x2,x3,x4,x5,x6]/\freeO x1=true/\freeO x2=true/\freeO x3=true/\freeO x4=true/\freeO x5=true/\freeO x6=true) ⟨none,none,none,none,none,none,rfl,rfl,rfl,rfl,rfl,rfl,rfl⟩ ?_ ?_
 ·rintro d x _ hx _ ⟨x1,x2,x3,x4,x5,x6,rfl,f1,f2,f3,f4,f5,f6⟩;obtain ⟨i,rfl,hi⟩:=T0 hx;obtain ⟨p,e1⟩:=O8 ns i hl (by walk_at "o") (by walk_at "o")
  obtain ⟨n,q',ts,hw,e3⟩:=X4 p 8 (by decide) (by decide)
  have lw:=b4a n ts;have hn:=hw.n1;have r4:(-(2 ^ 62:Int)<=4/\(4:Int) < 2 ^ 62):=by decide
  repeat (first | walk_at "z i" | simp only [f1,f2,f3,f4,f5,f6,ln,e1,lp,lp',e3,lw,r4])
  generalize el2:loopF _ _ _=r2;refine a0J el2 (fun _ ρ=>∃(q:Int) (x4 x5 x6:Option W),ρ=[some (.v (.lst (ns.map .int))),some (.v (.int i)),some (.o (poolD q)),some (.v (webD n ts)),x4,x5,x6]/\freeO x4=true/\freeO x5=true/\freeO x6=true) ⟨q',x4,x5,x6,rfl,f4,f5,f6⟩ ?_ ?_
  ·rintro d x _ hx _ ⟨q,x4,x5,x6,rfl,f4,f5,f6⟩;obtain ⟨j,rfl,_⟩:=T0 hx;obtain ⟨ss,q1,hs1,hs2,e4⟩:=J4 n ts q hw;obtain ⟨rs,q2,hr1,hr2,e5⟩:=J7 q1 ss (by walk_at "o") (by walk_at "o") hs2
   have e6:=V3 n ts rs hw hr1 fun s hs=>(hr2 s hs).mono (by decide)
   have e7:=M8 n ts rs hw hr1 hr2;have lr:=D3 rs;have ls:=D3 ss;generalize covB n ts rs=b at e6 e7;have i2:=a3u (d:=.bl b) rfl;have j2:isB (.bl b)=true:=rfl;have bb:(b == b)=true:=beq_self_eq_true b;refine ⟨_,?_,q2,some (.v (.int j)),some (.v (.tup (rs.map ratD))),some (.v (.bl b)),rfl,rfl,rfl,rfl⟩
   repeat (first | walk_at "z r" | simp only [f4,f5,f6,lw,e4,ls,lp,lp',r_dg,r_dg1,r_dg2,r_dg3,r_dg4,e5,lr,e6,e7,i2,j2,bb])
  ·rintro _ rfl ⟨q,x4,x5,x6,rfl,f4,f5,f6⟩;refine ⟨_,?_,some (.v (.int i)),some (.o (poolD q)),some (.v (webD n ts)),x4,x5,x6,rfl,rfl,rfl,rfl,f4,f5,f6⟩;rfl
 ·rintro _ rfl ⟨x1,x2,x3,x4,x5,x6,rfl,_⟩;walk_at "q"
end
end Q27
namespace Q27
open PySem PySem.Spec PyProof.Rows L2 Z
structure DI (K:PySem.W.Frag) (x:Str) (st:Stmt) (f:Addr) (fd:FuncData):Prop where
 a:PySem.W.nsIn K mainGlobals x=some (some (.ref f))
 F:Fun K x x st f fd
theorem DI.mk2 {K:PySem.W.Frag}{x:Str}{st:Stmt}{f:Addr}{od an:Option Addr}{sl:Array (Option Value)}{oc kV dc pm cd ct:Value}(a:PySem.W.nsIn K mainGlobals x=some (some (.ref f)))(l:K.lookup f=some ⟨oc,od,.func (PySem.W.fnOf x x (defArgs st) (defBody st) (defScope st) .none kV dc pm an cd ct),sl⟩)(c:PySem.W.codeIn K cd x=true)(k:PySem.W.keepIn K (.ref f)=true):DI K x st f (PySem.W.fnOf x x (defArgs st) (defBody st) (defScope st) .none kV dc pm an cd ct):=⟨a,a8S l c k⟩
section
variable {P:Program}{w:World}{K:PySem.W.Frag}{mg:Str->Option Value}{base:Heap}{x:Str}{j k:Nat}
theorem _root_.Z.FnS.up {sp:Sp}(F:FnS P w K mg base x j sp)(h:j<=k:=by decide):FnS P w K mg base x k sp:=F.mono h
end
theorem b3V {l:PySem.W.OpenLaw}{w:World}{K:PySem.W.Frag}{h:Heap}{mg:Str->Option Value}{fa f1 f2 f3 f4 f5 f6 f7 f8 f9 f10 f11 f12 f13 f14 f15 f16 f17 f18 f19 f20 f21 f22 f23 f24 f25 f26 f27 f28 f29 f30 f31 f32 f33 f34 f35 f36 f37 f38:Addr}{d1 d2 d3 d4 d5 d6 d7 d8 d9 d10 d11 d12 d13 d14 d15 d16 d17 d18 d19 d20 d21 d22 d23 d24 d25 d26 d27 d28 d29 d30 d31 d32 d33 d34 d35 d36 d37:FuncData}(X:K.In h)(G:h.Ns mainGlobals mg)(hfa:mg "law"=some (.ref fa))
  {od an:Option Addr} {sl:Array (Option Value)} {oc kV dc pm cd ct:Value}
  (i1:DI K "_law_cell_at" G1 f1 d1) (i2:DI K "_law_pool" Q6 f2 d2) (i3:DI K "_law_take" Q5 f3 d3) (i4:DI K "_law_wanted" K0 f4 d4) (i5:DI K "_law_web" X5 f5 d5) (i6:DI K "is_row" a1v f6 d6) (i7:DI K "is_whole" V5 f7 d7) (i8:DI K "common_divisor" C6 f8 d8) (i9:DI K "is_ratio" X6 f9 d9) (i10:DI K "less" a5I f10 d10) (i11:DI K "is_shares" P0 f11 d11) (i12:DI K "parties" a0M f12 d12) (i13:DI K "is_party" W4 f13 d13) (i14:DI K "gains" a4f f14 d14) (i15:DI K "gain_of" a0R f15 d15) (i16:DI K "ratio" a3E f16 d16) (i17:DI K "minus" a3o f17 d17) (i18:DI K "plus" a5T f18 d18) (i19:DI K "total" a32 f19 d19) (i20:DI K "slack" a3q f20 d20) (i21:DI K "loose" a3Q f21 d21) (i22:DI K "is_cover" X7 f22 d22) (i23:DI K "_law_common" J6 f23 d23) (i24:DI K "_law_low" W2 f24 d24) (i25:DI K "_law_plus" S0 f25 d25) (i26:DI K "_law_spoilt" K6 f26 d26) (i27:DI K "climbed" a0Z f27 d27) (i28:DI K "settled" a0Y f28 d28) (i29:DI K "steps_of" W3 f29 d29) (i30:DI K "shares_by" R0 f30 d30) (i31:DI K "party_twice" K1 f31 d31) (i32:DI K "double_of" P3 f32 d32) (i33:DI K "cover" a3F f33 d33) (i34:DI K "_law_shares" J5 f34 d34) (i35:DI K "_law_whole" M6 f35 d35) (i36:DI K "_law_is_ratio" D9 f36 d36) (i37:DI K "_law_cover" M5 f37 d37)
  (a:PySem.W.nsIn K mainGlobals "law"=some (some (.ref f38))) (ll:K.lookup f38=some ⟨oc,od,.func (PySem.W.fnOf "law" "law" (defArgs a0g) (defBody a0g) (defScope a0g) .none kV dc pm an cd ct),sl⟩) (c:PySem.W.codeIn K cd "law"=true) (k:PySem.W.keepIn K (.ref f38)=true)
  (y1:PySem.W.nsIn K mainGlobals "len"=some none) (y2:PySem.W.nsIn K mainGlobals "range"=some none) (y3:PySem.W.nsIn K mainGlobals "min"=some none) (y4:PySem.W.nsIn K mainGlobals "tuple"=some none) (y5:PySem.W.nsIn K mainGlobals "isinstance"=some none) (y6:PySem.W.nsIn K mainGlobals "int"=some none) (y7:PySem.W.nsIn K mainGlobals "bool"=some none) (y8:PySem.W.nsIn K mainGlobals "abs"=some none) (y9:PySem.W.nsIn K mainGlobals "all"=some none) (y10:PySem.W.nsIn K mainGlobals "sorted"=some none) (y11:PySem.W.nsIn K mainGlobals "list"=some none) (y12:PySem.W.nsIn K mainGlobals "enumerate"=some none) (y13:PySem.W.nsIn K mainGlobals "max"=some none) {ga1:Addr} {gz1:Array (Option Value)} {gn1:Nat} {gt1_0 gt1_1:Tok} (n1:PySem.W.nsIn K mainGlobals "NOUGHT"=some (some (.ref ga1))) (q1:K.lookup ga1=some ⟨.type "tuple",none,.seq #[.int 0 gt1_0,.int 1 gt1_1] gn1,gz1⟩):
  ∃fd:FuncData,(∀(s:Shared) (v:Value),BindsTo s fd ⟨[v],[]⟩ [("script",v)])/\∀base:Heap,K.In base->base.Ns mainGlobals mg->FnOk l.prog w K mg base CX0 60 fa fd ["script"] (spLaw K):=by
 cases hfa.symm.trans (zM X G a);have m_len:=qN X G y1;have j0:=qN X G y2;have m_min:=qN X G y3;have j9:=qN X G y4;have c8:=qN X G y5;have m_int:=qN X G y6;have N9:=qN X G y7;have m_abs:=qN X G y8;have m_all:=qN X G y9;have M3:=qN X G y10;have N6:=qN X G y11;have B7:=qN X G y12;have m_max:=qN X G y13;have C3:a0p mg K:=⟨ga1,zM X G n1,.inr ⟨_,_,_,q1,rfl,rfl,rfl,(show (2:Nat)<=sizeLine by decide),(.cons ⟨_,rfl⟩ (.cons ⟨_,rfl⟩ .nil))⟩⟩
 refine ⟨PySem.W.fnOf "law" "law" (defArgs a0g) (defBody a0g) (defScope a0g) .none kV dc pm an cd ct,fun s v=>.of_eq rfl,fun base _ _=>?_⟩;obtain ⟨F9,F7,G4⟩:=a1l (P:=l.prog) (w:=w) (base:=base) (k:=0) m_len i1.F (i1.F.binds (ps:=["script","k"]) fun _ _ _ _ _ _ us hl=>us2 hl fun _ _=>rfl) (zM X G i1.a);obtain ⟨R3,S2,O8⟩:=a4e (P:=l.prog) (w:=w) (base:=base) (k:=1) F7.up G4 j0 i2.F (i2.F.binds (ps:=["script","at"]) fun _ _ _ _ _ _ us hl=>us2 hl fun _ _=>rfl) (zM X G i2.a);obtain ⟨j8,b8,b9⟩:=a3N (P:=l.prog) (w:=w) (base:=base) (k:=0) i3.F (i3.F.binds (ps:=["pool","many"]) fun _ _ _ _ _ _ us hl=>us2 hl fun _ _=>rfl) (zM X G i3.a);obtain ⟨L0,K3,K5⟩:=a1z (P:=l.prog) (w:=w) (base:=base) (k:=1) b8.up b9 i4.F (i4.F.binds (ps:=["pool","kind","ring","a","b"]) fun _ _ _ _ _ _ us hl=>us5 hl fun _ _ _ _ _=>rfl) (zM X G i4.a);obtain ⟨W1,W8,X4⟩:=a4A (P:=l.prog) (w:=w) (base:=base) (k:=2) b8.up b9 K3.up K5 m_min j0 j9 i5.F (i5.F.binds (ps:=["pool","most"]) fun _ _ _ _ _ _ us hl=>us2 hl fun _ _=>rfl) (zM X G i5.a);obtain ⟨L8,L5,M2⟩:=a7I (P:=l.prog) (w:=w) (base:=base) (k:=0) c8 j9 m_len i6.F (i6.F.binds (ps:=["thing","count"]) fun _ _ _ _ _ _ us hl=>us2 hl fun _ _=>rfl) (zM X G i6.a);obtain ⟨B0,B4,A7⟩:=a4V (P:=l.prog) (w:=w) (base:=base) (k:=0) c8 m_int N9 i7.F (i7.F.binds (ps:=["thing"]) fun _ _ _ _ _ _ us hl=>us1 hl fun _=>rfl) (zM X G i7.a);obtain ⟨n9,n6,n8⟩:=a0i (P:=l.prog) (w:=w) (base:=base) (k:=0) i8.F (i8.F.binds (ps:=["one","other"]) fun _ _ _ _ _ _ us hl=>us2 hl fun _ _=>rfl) (zM X G i8.a);obtain ⟨X9,U9,V1⟩:=a4N (P:=l.prog) (w:=w) (base:=base) (k:=1) L5.up M2 B4.up A7 n6.up n8 m_abs i9.F (i9.F.binds (ps:=["thing"]) fun _ _ _ _ _ _ us hl=>us1 hl fun _=>rfl) (zM X G i9.a);obtain ⟨a0L,a0Q,a0q⟩:=b1W (P:=l.prog) (w:=w) (base:=base) (k:=0) i10.F (i10.F.binds (ps:=["one","other"]) fun _ _ _ _ _ _ us hl=>us2 hl fun _ _=>rfl) (zM X G i10.a);obtain ⟨Q0,Q9,P2⟩:=a3O (P:=l.prog) (w:=w) (base:=base) (k:=2) L5.up M2 U9.up V1 a0Q.up a0q m_all C3 i11.F (i11.F.binds (ps:=["web","thing"]) fun _ _ _ _ _ _ us hl=>us2 hl fun _ _=>rfl) (zM X G i11.a);obtain ⟨z9,z7,A1⟩:=a51 (P:=l.prog) (w:=w) (base:=base) (k:=0) M3 j0 i12.F (i12.F.binds (ps:=["web"]) fun _ _ _ _ _ _ us hl=>us1 hl fun _=>rfl) (zM X G i12.a);obtain ⟨X2,V6,W7⟩:=a46 (P:=l.prog) (w:=w) (base:=base) (k:=1) z7.up A1 B4.up A7 c8 j9 m_all i13.F (i13.F.binds (ps:=["web","thing"]) fun _ _ _ _ _ _ us hl=>us2 hl fun _ _=>rfl) (zM X G i13.a);obtain ⟨T6,S9,S8⟩:=b05 (P:=l.prog) (w:=w) (base:=base) (k:=0) i14.F (i14.F.binds (ps:=["web"]) fun _ _ _ _ _ _ us hl=>us1 hl fun _=>rfl) (zM X G i14.a);obtain ⟨a0D,a0u,a0I⟩:=a5r (P:=l.prog) (w:=w) (base:=base) (k:=2) V6.up W7 S9.up S8 i15.F (i15.F.binds (ps:=["web","party"]) fun _ _ _ _ _ _ us hl=>us2 hl fun _ _=>rfl) (zM X G i15.a);obtain ⟨E8,F1,E9⟩:=a8z (P:=l.prog) (w:=w) (base:=base) (k:=1) n6.up n8 m_abs i16.F (i16.F.binds (ps:=["top","bottom"]) fun _ _ _ _ _ _ us hl=>us2 hl fun _ _=>rfl) (zM X G i16.a);obtain ⟨a4d,a3S,a3R⟩:=a9o (P:=l.prog) (w:=w) (base:=base) (k:=2) F1.up E9 i17.F (i17.F.binds (ps:=["one","other"]) fun _ _ _ _ _ _ us hl=>us2 hl fun _ _=>rfl) (zM X G i17.a);obtain ⟨a5H,a5R,a5Z⟩:=b2g (P:=l.prog) (w:=w) (base:=base) (k:=2) F1.up E9 i18.F (i18.F.binds (ps:=["one","other"]) fun _ _ _ _ _ _ us hl=>us2 hl fun _ _=>rfl) (zM X G i18.a);obtain ⟨a35,a3I,a3Z⟩:=b0V (P:=l.prog) (w:=w) (base:=base) (k:=3) a5R.up a5Z C3 i19.F (i19.F.binds (ps:=["some"]) fun _ _ _ _ _ _ us hl=>us1 hl fun _=>rfl) (zM X G i19.a);obtain ⟨a3z,a3H,a3C⟩:=b0m (P:=l.prog) (w:=w) (base:=base) (k:=4) a0u.up a0I a3S.up a3R a3I.up a3Z i20.F (i20.F.binds (ps:=["web","shares","party"]) fun _ _ _ _ _ _ us hl=>us3 hl fun _ _ _=>rfl) (zM X G i20.a);obtain ⟨a3t,a3n,a3p⟩:=b03 (P:=l.prog) (w:=w) (base:=base) (k:=5) z7.up A1 a0Q.up a0q a3H.up a3C C3 i21.F (i21.F.binds (ps:=["web","shares"]) fun _ _ _ _ _ _ us hl=>us2 hl fun _ _=>rfl) (zM X G i21.a);obtain ⟨W6,V7,V3⟩:=a45 (P:=l.prog) (w:=w) (base:=base) (k:=6) Q9.up P2 a3n.up a3p i22.F (i22.F.binds (ps:=["web","shares"]) fun _ _ _ _ _ _ us hl=>us2 hl fun _ _=>rfl) (zM X G i22.a);obtain ⟨v6,v5,v7⟩:=a1W (P:=l.prog) (w:=w) (base:=base) (k:=0) m_abs i23.F (i23.F.binds (ps:=["one","other"]) fun _ _ _ _ _ _ us hl=>us2 hl fun _ _=>rfl) (zM X G i23.a);obtain ⟨D0,t9,u4⟩:=a4z (P:=l.prog) (w:=w) (base:=base) (k:=1) v5.up v7 i24.F (i24.F.binds (ps:=["top","bottom"]) fun _ _ _ _ _ _ us hl=>us2 hl fun _ _=>rfl) (zM X G i24.a);obtain ⟨B6,w9,z5⟩:=a3U (P:=l.prog) (w:=w) (base:=base) (k:=0) i25.F (i25.F.binds (ps:=["one","other"]) fun _ _ _ _ _ _ us hl=>us2 hl fun _ _=>rfl) (zM X G i25.a);obtain ⟨L3,J3,J7⟩:=a2b (P:=l.prog) (w:=w) (base:=base) (k:=2) b8.up b9 t9.up u4 w9.up z5 m_len i26.F (i26.F.binds (ps:=["pool","shares"]) fun _ _ _ _ _ _ us hl=>us2 hl fun _ _=>rfl) (zM X G i26.a);obtain ⟨a0G,a0y,a02⟩:=a5u (P:=l.prog) (w:=w) (base:=base) (k:=0) j0 N6 m_len i27.F (i27.F.binds (ps:=["marks","steps"]) fun _ _ _ _ _ _ us hl=>us2 hl fun _ _=>rfl) (zM X G i27.a);obtain ⟨S7,T3,a0O⟩:=a5J (P:=l.prog) (w:=w) (base:=base) (k:=1) a0y.up a02 j0 m_len i28.F (i28.F.binds (ps:=["steps","people"]) fun _ _ _ _ _ _ us hl=>us2 hl fun _ _=>rfl) (zM X G i28.a);obtain ⟨M9,M7,V8⟩:=a4D (P:=l.prog) (w:=w) (base:=base) (k:=1) z7.up A1 S9.up S8 B7 m_min m_max i29.F (i29.F.binds (ps:=["web","mates"]) fun _ _ _ _ _ _ us hl=>us2 hl fun _ _=>rfl) (zM X G i29.a);obtain ⟨Q8,O9,Q3⟩:=a3G (P:=l.prog) (w:=w) (base:=base) (k:=2) F1.up E9 j9 m_len j0 i30.F (i30.F.binds (ps:=["marks"]) fun _ _ _ _ _ _ us hl=>us1 hl fun _=>rfl) (zM X G i30.a);obtain ⟨J8,K4,K7⟩:=a1w (P:=l.prog) (w:=w) (base:=base) (k:=0) m_min m_max i31.F (i31.F.binds (ps:=["one","other"]) fun _ _ _ _ _ _ us hl=>us2 hl fun _ _=>rfl) (zM X G i31.a);obtain ⟨S3,S1,P1⟩:=a4h (P:=l.prog) (w:=w) (base:=base) (k:=1) K4.up K7 j9 M3 B7 i32.F (i32.F.binds (ps:=["mates"]) fun _ _ _ _ _ _ us hl=>us1 hl fun _=>rfl) (zM X G i32.a);obtain ⟨a3V,a3w,a4j⟩:=b08 (P:=l.prog) (w:=w) (base:=base) (k:=3) T3.up a0O M7.up V8 O9.up Q3 S1.up P1 N6 j0 i33.F (i33.F.binds (ps:=["web"]) fun _ _ _ _ _ _ us hl=>us1 hl fun _=>rfl) (zM X G i33.a);obtain ⟨L1,K8,J4⟩:=a16 (P:=l.prog) (w:=w) (base:=base) (k:=4) b8.up b9 t9.up u4 a3w.up a4j N6 m_max m_int j0 i34.F (i34.F.binds (ps:=["pool","web"]) fun _ _ _ _ _ _ us hl=>us2 hl fun _ _=>rfl) (zM X G i34.a);obtain ⟨N4,N5,O5⟩:=a2s (P:=l.prog) (w:=w) (base:=base) (k:=0) c8 m_int N9 i35.F (i35.F.binds (ps:=["thing"]) fun _ _ _ _ _ _ us hl=>us1 hl fun _=>rfl) (zM X G i35.a);obtain ⟨E3,E2,E4⟩:=a0x (P:=l.prog) (w:=w) (base:=base) (k:=1) v5.up v7 N5.up O5 c8 j9 m_len m_all i36.F (i36.F.binds (ps:=["thing"]) fun _ _ _ _ _ _ us hl=>us1 hl fun _=>rfl) (zM X G i36.a);obtain ⟨O4,N8,M8⟩:=a2v (P:=l.prog) (w:=w) (base:=base) (k:=2) w9.up z5 E2.up E4 m_all c8 j9 m_len i37.F (i37.F.binds (ps:=["web","shares"]) fun _ _ _ _ _ _ us hl=>us2 hl fun _ _=>rfl) (zM X G i37.a);exact b35 (P:=l.prog) (w:=w) (base:=base) (k:=59) S2.up O8 W8.up X4 V7.up V3 J3.up J7 K8.up J4 N8.up M8 j0 m_max m_min j9 m_len c8 N9 (a8S (st:=a0g) ll c k)
end Q27
open PySem PySem.W PyProof.Rows
namespace PySem.W.Fast
def tw6056266395522402946:=()
def tw12249837297677118475:=()
def tw2499820185522419093:=()
def tw10130444984181079825:=()
def tw7395708760168084218:=()
def tw13851646002731935942:=()
def tw18323520643405128732:=()
def tw17606294349297847756:=()
def tw7455553927725136725:=()
def tw6574550415609883232:=()
def tw13533057770560657963:=()
def tw15674140917344712945:=()
def tw17329842605520722566:=()
def tw785915971503675017:=()
def tw17795301516958443785:=()
def tw1924622190873297256:=()
def tw11865622855004460071:=()
def tw7825997746447975080:=()
def tw8889482971039255944:=()
def tw13856606203929919656:=()
def tw10745003779019053462:=()
def tw8676986351433728692:=()
def tw1101747276296014416:=()
def tw5637228987770957081:=()
def tw17070509662776756934:=()
def tw10176880469937809001:=()
def tw7954917256764061092:=()
def tw6869638406224593326:=()
def tw5399108534177904226:=()
def tw13277931622133973755:=()
def tw9427223352408432560:=()
def tw12728432028353123863:=()
def tw6570692803784563607:=()
def tw5834244576601535197:=()
def tw12275146561838199996:=()
def tw7949622736695661100:=()
def tw16294604065384781165:=()
def tw13334622376591233412:=()
def tw3467524513703965237:=()
def tw12228402062420156563:=()
def tw8064086666162005709:=()
def tw15863786089704493985:=()
def tw17041097182734457669:=()
def tw13232982793079771510:=()
def tw138290583998482129:=()
def tw14684913397536102149:=()
def tw3510789675320520950:=()
def tw17551759045234308504:=()
def tw5061338944521447960:=()
def tw3815029357986166032:=()
def tw9384893995303064738:=()
def tw13632005332848778018:=()
def tw2592999112713149403:=()
def tw9626925862664333685:=()
def tw11040245247877091469:=()
def tw17496395279265987723:=()
def tw1621756233936127915:=()
def tw16606708837251973631:=()
def tw12335421200418356711:=()
def tw5336681335215293955:=()
def tw11381745030055153460:=()
def tw14736921393327274573:=()
def tw17377511991735151118:=()
def tw3214075996481277406:=()
def tw12430452391914901029:=()
def tw13157275840539470139:=()
def tw8472869671487639511:=()
def tw11722128506579852738:=()
def tw2465695399779448015:=()
def tw809195242408614468:=()
def tw17929334023568875007:=()
def tw8037442498995708520:=()
def tw5464162485006431789:=()
def tw10241999310738834620:=()
def tw6444342028850127897:=()
def tw9332146070201169956:=()
def tw8623423541949996:=()
def tw12427248105565479563:=()
def tw1920512679943177445:=()
def tw7249046176893871166:=()
def tw14502254228560681262:=()
def tw9266738919040556935:=()
def tw9804741086796684514:=()
def tw15824912881502969982:=()
def tw12737815685122786250:=()
def tw12234345572808117891:=()
def tw7519520046321281678:=()
def tw10943558083074777026:=()
def tw2305053499052486955:=()
def tw3553310654284729181:=()
def tw8601926415459743651:=()
def tw5347116988761055909:=()
def tw15298133256937288521:=()
def tw13011462859778909373:=()
def tw1468916667223436486:=()
def tw12884087830780308246:=()
def tw11721264317247228800:=()
def tw12500854653671750271:=()
def tw16403602874813676493:=()
def tw17564172364882312576:=()
def tw14762467559488848379:=()
def tw12021775737282625320:=()
def tw17890327909169243535:=()
def tw4805544644078396048:=()
def tw12623621182819877284:=()
def tw17672477636887281289:=()
def tw17519483182046478396:=()
def tw1558444442667679835:=()
def tw17155767914557128141:=()
def tw11128645585778977949:=()
def tw379138860463258263:=()
def tw12263286951920886905:=()
def tw13796471751064675095:=()
def tw12699968003005811761:=()
def tw3883797113791932879:=()
def tw1749690058575259486:=()
def tw2233364579432406952:=()
def tw14268320415407677804:=()
def tw6853263053583013416:=()
def tw11182726242043089545:=()
def tw9604507155379052052:=()
def tw13359417981613994800:=()
def tw6795293812182750547:=()
def tw17598149341408828020:=()
def tw5848627216113659785:=()
def tw3436593751936860468:=()
def tw8913588339242967139:=()
def tw10038767642087881826:=()
def tw7868259928645006166:=()
def tw12717578382616463591:=()
def tw1617679211163667159:=()
def tw6464246682438487616:=()
def tw2124391739190221593:=()
def tw8249747529749430439:=()
def tw7892269423510506459:=()
def tw17313485666443333925:=()
def tw17972038275733022977:=()
def tw14245346704497049951:=()
def tw3371422628967211345:=()
def tw6057182677782024322:=()
end PySem.W.Fast
set_option maxRecDepth 100000 in
set_option maxHeartbeats 0 in
theorem PySem.Challenge.cw_twainhoard_k27_covers_known_holds : PySem.Challenge.rw_twainhoard_k27_covers_known.Holds := by
 w_on;o_law;k_head;(case hw=>w_witness2)
 k_fill
 refine Z.walk (l:=PySem.Challenge.rw_twainhoard_k27_covers_known) rfl rfl (fun w h Y=>PySem.W.kIn_of Y) ?F
 case F=>
  intro w mg fa h KX G hmg
  refine' Q27.b3V KX G hmg (Q27.DI.mk2 ?_ ?_ ?_ ?_) (Q27.DI.mk2 ?_ ?_ ?_ ?_) (Q27.DI.mk2 ?_ ?_ ?_ ?_) (Q27.DI.mk2 ?_ ?_ ?_ ?_) (Q27.DI.mk2 ?_ ?_ ?_ ?_) (Q27.DI.mk2 ?_ ?_ ?_ ?_) (Q27.DI.mk2 ?_ ?_ ?_ ?_) (Q27.DI.mk2 ?_ ?_ ?_ ?_) (Q27.DI.mk2 ?_ ?_ ?_ ?_) (Q27.DI.mk2 ?_ ?_ ?_ ?_) (Q27.DI.mk2 ?_ ?_ ?_ ?_) (Q27.DI.mk2 ?_ ?_ ?_ ?_) (Q27.DI.mk2 ?_ ?_ ?_ ?_) (Q27.DI.mk2 ?_ ?_ ?_ ?_) (Q27.DI.mk2 ?_ ?_ ?_ ?_) (Q27.DI.mk2 ?_ ?_ ?_ ?_) (Q27.DI.mk2 ?_ ?_ ?_ ?_) (Q27.DI.mk2 ?_ ?_ ?_ ?_) (Q27.DI.mk2 ?_ ?_ ?_ ?_) (Q27.DI.mk2 ?_ ?_ ?_ ?_) (Q27.DI.mk2 ?_ ?_ ?_ ?_) (Q27.DI.mk2 ?_ ?_ ?_ ?_) (Q27.DI.mk2 ?_ ?_ ?_ ?_) (Q27.DI.mk2 ?_ ?_ ?_ ?_) (Q27.DI.mk2 ?_ ?_ ?_ ?_) (Q27.DI.mk2 ?_ ?_ ?_ ?_) (Q27.DI.mk2 ?_ ?_ ?_ ?_) (Q27.DI.mk2 ?_ ?_ ?_ ?_) (Q27.DI.mk2 ?_ ?_ ?_ ?_) (Q27.DI.mk2 ?_ ?_ ?_ ?_) (Q27.DI.mk2 ?_ ?_ ?_ ?_) (Q27.DI.mk2 ?_ ?_ ?_ ?_) (Q27.DI.mk2 ?_ ?_ ?_ ?_) (Q27.DI.mk2 ?_ ?_ ?_ ?_) (Q27.DI.mk2 ?_ ?_ ?_ ?_) (Q27.DI.mk2 ?_ ?_ ?_ ?_) (Q27.DI.mk2 ?_ ?_ ?_ ?_) ?_ ?_ ?_ ?_ ?_ ?_ ?_ ?_ ?_ ?_ ?_ ?_ ?_ ?_ ?_ ?_ ?_ ?_ ?_
  all_goals try k_is
