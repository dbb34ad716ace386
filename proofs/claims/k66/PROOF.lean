import PyProof.Rows.All
import Wide.All
import OpenK.AllK
import Wide.FinOn
import Lean
import PyProof.EqAt
import PyProof.EqKinds
import PyProof.TupleCall
import PyProof.DictRoadsH
import PyProof.DictRoads
import PyProof.DictIter
import PyProof.CompUse
import PyProof.SumWalkG
import KE.KSort
import PyProof.EnumMake
import PyProof.Rows.ZipGen
import PyProof.Rows.RuleDivmod
import PyProof.ListRange
import KE.KDictSum
import KE.KSortTup
import PyProof.DictCompW
import PyProof.ListMulAny
import PyProof.ReprRoads
import PyProof.FitsInt
import PyProof.WalksMore
import PyProof.Rows.SetFrom
import PyProof.FactsAll.set_1
import PyProof.AutoListH
import PyProof.Rows.Range3
import PyProof.Rows.ListMulArg
import PyProof.SetRoads
import PySem.Challenge.RW_twainhoard_k66_sides_or_a_round
set_option Elab.async false
set_option compiler.extract_closed false
set_option genSizeOf false
set_option genInjectivity false
set_option bootstrap.genMatcherCode false
set_option linter.all false
set_option maxRecDepth 100000
theorem ex5 {α β:Type}{A B C:α->β->Prop}{G:Prop}(h:∃x y,A x y/\B x y/\C x y)(k:∀x y,A x y->B x y->C x y->G):G:=by
 obtain ⟨x,y,a,b,c⟩:=h;exact k x y a b c
open List (mem_filter mem_filterMap filterMap_cons append_nil of_mem_zip zip_nil_left all_cons any_cons reverse_cons flatten_cons append_assoc nodup_append find?_cons nodup_nil mem_iff_getElem getElem?_eq_getElem getElem_mem drop_zero take_length nil_append length_range length_filter_le take_zero map_id filter_map take_add_one range_succ getElem?_drop mem_iff_getElem? map_drop nodup_range)
open Option (getD_none isSome_some isSome_map bind_some isSome_none)

abbrev zA:=@PySem.wpAny_bind
abbrev zB:=@PySem.wpAny_pure
abbrev zC:=@PySem.Heap.get?_push_of_some
abbrev zD:=@List.length_map
abbrev zE:=@Nat.le_refl
abbrev zF:=@Nat.lt_of_lt_of_le
abbrev zG:=@Nat.ne_of_lt
abbrev zH:=@List.getD_eq_getElem?_getD
abbrev zI:=@Int.toNat_natCast
abbrev zJ:=@List.map_cons
abbrev zK:=@List.getElem?_eq_some_iff
abbrev zL:=@PySem.Heap.get?_push_size
abbrev zM:=@List.getElem?_eq_getElem
abbrev zN:=@List.mem_cons_of_mem
abbrev zO:=@List.mem_cons
abbrev zP:=@Bool.false_ne_true
abbrev zQ:=@List.getElem?_append_left
abbrev zR:=@List.mem_cons_self
abbrev zS:=@PySem.Heap.lt_size
abbrev zT:=@List.getElem?_append_right
abbrev zU:=@PySem.PassesOwn.never
abbrev zV:=@List.size_toArray
abbrev zW:=@List.getElem?_map
abbrev zX:=@List.getElem?_set_ne
abbrev zY:=@List.mem_map
abbrev zZ:=@List.length_append
abbrev qA:=@List.mem_singleton
abbrev qB:=@PySem.wpAny_mono
abbrev qC:=@Option.some.inj
abbrev qD:=@Array.length_toList
abbrev qE:=@decide_eq_true
abbrev qF:=@PySem.wpAny_newObj_type
abbrev qG:=@decide_eq_false
abbrev qH:=@Nat.le_trans
abbrev qI:=@PySem.wpAny_call_entry
abbrev qJ:=@PyProof.Rows.slot_tuple_getitem
abbrev qK:=@PySem.wpAny_callSpecial?_slot
abbrev qL:=@List.length_cons
abbrev qM:=@PySem.wpAny_holding
abbrev qN:=@PySem.W.mg_none_of
abbrev qO:=@PySem.Heap.SameBut.update
abbrev qP:=@List.mem_append_right
abbrev qQ:=@Bool.false_eq_true
abbrev qR:=@List.mem_of_getElem?
abbrev qS:=@List.getElem?_eq_none
abbrev qT:=@Nat.mod_two_eq_zero_or_one
abbrev qU:=@PySem.W.mg_of
abbrev qW:=@if_true
abbrev qX:=@List.getElem?_cons_succ
abbrev qY:=@PySem.sizeLine_eq
abbrev qZ:=@PySem.wpAny_field
abbrev jA:=@Ne.symm
abbrev jB:=@List.map_map
abbrev jC:=@List.map_append
abbrev jD:=@Nat.lt_irrefl
abbrev jE:=@Nat.sub_self
abbrev jF:=@PyProof.Rows.callWith_type1
abbrev jG:=@List.length_drop
abbrev jH:=@Array.getElem?_eq_none
abbrev jI:=@Array.getElem?_toList
abbrev jJ:=@Option.map_some
abbrev jK:=@if_false
abbrev jL:=@PySem.Heap.get?_update_self
abbrev jM:=@List.length_singleton
abbrev jN:=@PySem.wpAny_setField_rec
abbrev jO:=@PySem.F.slot_dict_keyiterator_next
abbrev jP:=@Option.isSome_iff_exists
abbrev jQ:=@List.take_of_length_le
abbrev jR:=@PySem.Heap.size_push
abbrev jS:=@List.not_mem_nil
abbrev jT:=@List.zip_cons_cons
abbrev jU:=@Nat.lt_succ_self
abbrev jV:=@Bool.and_eq_true
abbrev jW:=@Nat.zero_le
abbrev jX:=@List.length_take
abbrev jY:=@List.all_eq_true
abbrev jZ:=@PySem.W.kia_one
abbrev xA:=@PyProof.Rows.KeyOrd.kle_refl
abbrev xB:=@List.mem_range
abbrev xC:=@PySem.wpAny_typeNameOfWhole_keyiter
abbrev xD:=@PySem.Heap.get?_update_ne
abbrev xE:=@Nat.ne_of_gt
abbrev xF:=@PySem.wpAny_passesOwn
abbrev xG:=@congrArg
abbrev xH:=@decide_eq_true_eq
abbrev xI:=@Nat.lt_succ_of_lt
abbrev xJ:=@List.mem_append
abbrev xK:=@List.length_set
abbrev xL:=@List.drop_eq_getElem_cons
abbrev xM:=@List.pairwise_iff_getElem
abbrev xN:=@List.replicate_succ
abbrev xO:=@List.getElem?_range
abbrev xP:=@PySem.isSubtype_type
abbrev xQ:=@List.ext_getElem?
abbrev xR:=@PySem.wpAny_typeNameOf_keyiter
abbrev xS:=@List.pairwise_map
abbrev xT:=@List.Pairwise.imp_of_mem
abbrev xU:=@PySem.mem_of_lookup
abbrev xV:=@List.getElem?_cons_zero
abbrev xW:=@List.filter_cons_of_pos
abbrev xX:=@PySem.Paired.length
abbrev xY:=@List.map_nil
abbrev xZ:=@PySem.wpAny_Call_Name_kw
abbrev yA:=@List.nodup_cons
abbrev yB:=@List.length_nil
abbrev yC:=@PySem.wpAny_rule
abbrev yD:=@PyProof.Rows.get?_update_seq
abbrev yE:=@PyProof.Rows.subscriptTail_builtinR
abbrev yF:=@List.lookup_cons
abbrev yG:=@or_false
abbrev yH:=@of_decide_eq_true
abbrev yI:=@PySem.wpAny_sequenceKey
abbrev yJ:=@Nat.le_of_succ_le
abbrev yK:=@PySem.codeAny_mono
abbrev yL:=@List.append_assoc
abbrev yM:=@PySem.F.slot_enumerate_next
abbrev yN:=@List.map_congr_left
noncomputable section
local macro_rules | `(tactic| walk_at "o") => `(tactic| first | lia | omega)
namespace L2
open PySem PySem.Spec PyProof.Rows
abbrev Key:=Sum Int Str
def keyIs:Key->Value->Bool
 | .inl k,v=>Value.isInt k v
 | .inr x,v=>Value.isStrOf x v
def keyH (w:World):Key->Int
 | .inl k=>hashInt k
 | .inr x=>hashStr w x
theorem l7:∀{k:Key} {v:Value},keyIs k v=true->(∃i t,k=Sum.inl i/\v=Value.int i t)\/(∃x t,k=Sum.inr x/\v=Value.str x t)
 | .inl i,v,h=>by
  obtain⟨t,e⟩:=Value.isInt_shape (k:=i) (v:=v) h;exact .inl ⟨i,t,rfl,e⟩
 | .inr x,v,h=>by
  obtain⟨t,e⟩:=Value.isStrOf_shape (x:=x) (v:=v) h;exact .inr ⟨x,t,rfl,e⟩
theorem a40 (i:Int)(t:Tok):keyIs (.inl i) (.int i t)=true:=by simp[keyIs,Value.isInt]
theorem a4j (x:Str)(t:Tok):keyIs (.inr x) (.str x t)=true:=by simp[keyIs,Value.isStrOf]
theorem a9j (a b:Int):decide ((Sum.inl a:Key)=Sum.inl b)=(a==b):=by
 by_cases e:a=b
 ·subst e;simp
 ·have h:¬(Sum.inl a:Key)=Sum.inl b:=fun q=>e (Sum.inl.inj q);rw[qG h];exact(beq_eq_false_iff_ne.mpr e).symm
theorem b0c (a b:Str):decide ((Sum.inr a:Key)=Sum.inr b)=decide (a=b):=by
 by_cases e:a=b
 ·subst e;simp
 ·have h:¬(Sum.inr a:Key)=Sum.inr b:=fun q=>e (Sum.inr.inj q);rw[qG h,qG e]
theorem a94 (a:Int)(b:Str):decide ((Sum.inl a:Key)=Sum.inr b)=false:=qG (fun q=>nomatch q)
theorem a9O (a:Str)(b:Int):decide ((Sum.inr a:Key)=Sum.inl b)=false:=qG (fun q=>nomatch q)
def mixKind (prog:Program) (w:World):PySem.KeyKind prog w Key where
 is:=keyIs
 hash:=keyH w
 inj:=fun v a b ha hb=>by
  rcases l7 ha with ⟨i,t,rfl,rfl⟩|⟨x,t,rfl,rfl⟩
  ·rcases l7 hb with ⟨j,u,rfl,e⟩|⟨y,u,rfl,e⟩
   ·injection e with e1 _;rw[e1]
   ·exact nomatch e
  ·rcases l7 hb with ⟨j,u,rfl,e⟩|⟨y,u,rfl,e⟩
   ·exact nomatch e
   ·injection e with e1 _;rw[e1]
 byValue:=fun k v h=>by
  rcases l7 h with ⟨i,t,rfl,rfl⟩|⟨x,t,rfl,rfl⟩<;>rfl
 pyHash:=fun hv h=>by
  rcases l7 hv with ⟨i,t,rfl,rfl⟩|⟨x,t,rfl,rfl⟩
  ·exact wpAny_pyHash_int h
  ·exact wpAny_pyHash_str h
 eqBool:=fun hu hv h=>by
  rcases l7 hu with ⟨i,t,rfl,rfl⟩|⟨x,t,rfl,rfl⟩
  ·rcases l7 hv with ⟨j,u,rfl,rfl⟩|⟨y,u,rfl,rfl⟩
   ·rw[a9j] at h;exact wpAny_eqBool_int h
   ·rw[a94] at h;exact SeqAt.EqAt.int_str i t y u _ _ _ _ h
  ·rcases l7 hv with ⟨j,u,rfl,rfl⟩|⟨y,u,rfl,rfl⟩
   ·rw[a9O] at h;exact SeqAt.EqAt.str_int x t j u _ _ _ _ h
   ·rw[b0c] at h;exact wpAny_eqBool_str h
 «strs»:=fun k x t v h=>by
  rcases l7 h with ⟨i,u,rfl,e⟩|⟨y,u,rfl,e⟩
  ·exact nomatch e
  ·injection e with e1 _
   subst e1;cases v<;>rfl
theorem a2q (prog:Program)(w:World)(i:Int)(t:Tok):(mixKind prog w).is (.inl i) (.int i t)=true:=a40 i t
theorem a16 (prog:Program)(w:World)(x:Str)(t:Tok):(mixKind prog w).is (.inr x) (.str x t)=true:=a4j x t
inductive V where
 | non|bl (b:Bool)|int (i:Int)|str (x:Str)|byt (b:Array UInt8)|flt (b:UInt64)|ref (a:Addr)|ty (n:String)
def RelV:V->Value->Prop
 | .non,u=>u=Value.none
 | .bl b,u=>u=Value.bool b
 | .int i,u=>∃t,u=Value.int i t
 | .str x,u=>∃t,u=Value.str x t
 | .byt b,u=>∃t,u=Value.bytes b t
 | .flt b,u=>∃t,u=Value.float b t
 | .ref a,u=>u=Value.ref a
 | .ty n,u=>u=Value.type n
abbrev Vals:List V->List Value->Prop:=Paired RelV
theorem Vals.length {xs:List V}{us:List Value}(r:Vals xs us):xs.length=us.length:=xX r
theorem Vals.get:∀{xs:List V} {us:List Value} {i:Nat} {x:V},Vals xs us->xs[i]? =some x->∃u,us[i]? =some u/\RelV x u
 | _,_,_,_,.nil,e=>by simp at e
 | _,_,0,_,.cons r _,e=>by simp at e;subst e;exact⟨_,rfl,r⟩
 | _,_,i+1,x,.cons _ t,e=>by
  obtain⟨u,h1,h2⟩:=Vals.get (i:=i) (x:=x) t (by simpa using e)
  exact⟨u,by simpa using h1,h2⟩
theorem Vals.set {x:V}{u:Value}(r:RelV x u):∀{xs:List V} {us:List Value} (i:Nat),Vals xs us->Vals (xs.set i x) (us.set i u)
 | _,_,_,.nil=>.nil
 | _,_,0,.cons _ t=>.cons r t
 | _,_,i+1,.cons q t=>.cons q (Vals.set r i t)
theorem Vals.append:∀{xs ys:List V} {us ws:List Value},Vals xs us->Vals ys ws->Vals (xs++ys) (us++ws)
 | _,_,_,_,.nil,s=>s
 | _,_,_,_,.cons r t,s=>.cons r (Vals.append t s)
theorem Vals.take:∀{xs:List V} {us:List Value} (n:Nat),Vals xs us->Vals (xs.take n) (us.take n)
 | _,_,0,_=>.nil
 | _,_,_+1,.nil=>.nil
 | _,_,n+1,.cons r t=>.cons r (Vals.take n t)
theorem Vals.drop:∀{xs:List V} {us:List Value} (n:Nat),Vals xs us->Vals (xs.drop n) (us.drop n)
 | _,_,0,r=>r
 | _,_,_+1,.nil=>.nil
 | _,_,n+1,.cons _ t=>Vals.drop n t
def RelO:Option V->Option Value->Prop
 | some v,some u=>RelV v u
 | none,none=>True
 | _,_=>False
def KV {κ:Type}:List (κ×V)->List (κ×Value)->Prop:=Paired fun(p:κ×V) (q:κ×Value)=>p.1=q.1/\RelV p.2 q.2
def kV:Key->V
 | .inl i=>.int i
 | .inr x=>.str x
inductive HO where
 | lst (xs:List V)
 | tup (xs:List V)
 | dK (kvs:List (Key×V))|dT (kvs:List (List Key×V))
 | set (S:Int->Bool) (n:Nat)
 | ins (C dx:Addr) (fs:List (Str×V))
 | own (x:Addr)
 | xd (fs:List (Str×V))
 | met (f x:Addr)
 | rng (lo hi:Int)
 | frz (o:Obj) (u:HO)
 | tbl (ps:Array Value)
 | ext (φ:Heap->Prop)
abbrev Hp:=Addr->Option HO
def upd (H:Hp) (a:Addr) (o:HO):Hp:=fun b=>if b=a then some o else H b
theorem j5 {H:Hp}{a:Addr}{o:HO}:upd H a o a=some o:=by unfold upd;rw[if_pos rfl]
theorem c6 {H:Hp}{a b:Addr}{o:HO}(h:b≠a):upd H a o b=H b:=by unfold upd;rw[if_neg h]
theorem ne_of {H:Hp}{a b:Addr}{o u:HO}(h:H a=some o)(h':H b=some u)(d:o≠u):a≠b:=by
 intro e;subst e;rw[h] at h';exact d (qC h')
theorem j8 {H:Hp}{a b:Addr}{o:HO}(h:H a=some o)(h':H b=none):a≠b:=by
 intro e;subst e;rw[h] at h';cases h'
def TupN (h:Heap) (a:Addr) (its:Array Value):Prop:=∃o,h.get? a=some o/\o.cls= .type "tuple"/\(∃n,o.data= .seq its n)/\o.dict=none
theorem TupN.is {h:Heap}{a:Addr}{its:Array Value}(x:TupN h a its):IsTup h a its:=let ⟨o,e,c,d,_⟩:=x;⟨o,e,c,d⟩
theorem TupN.new (h:Heap)(its:Array Value):TupN (h.push {cls:=.type "tuple",data:=.seq its}) h.objs.size its:=⟨_,zL _ rfl,rfl,⟨_,rfl⟩,rfl⟩
section
variable (P:Program)(w:World)
def ObjOk (H:Hp) (h:Heap) (a:Addr):HO->Prop
 | .lst xs=>xs.length<=sizeLine/\∃(its:List Value) (n:Nat),Vals xs its/\h.get? a=some {cls:=.type "list",data:=.seq its.toArray n}
 | .tup xs=>xs.length<=sizeLine/\∃its:List Value,Vals xs its/\TupN h a its.toArray
 | .dK kvs=>kvs.length<=sizeLine/\(a==sysModules)=false/\∃vs,KV kvs vs/\h.DictAt (mixKind P w) a vs kvs.length
 | .dT kvs=>kvs.length<=sizeLine/\(a==sysModules)=false/\∃xs:List (List Key×Addr×Value),
   Paired (fun(p:List Key×V) (q:List Key×Addr×Value)=>p.1=q.1/\H q.2.1=some (.tup (p.1.map kV))/\RelV p.2 q.2.2) kvs xs/\
   ∃o es,h.get? a=some o/\o.ExactDict/\o.data= .dict es kvs.length/\es.toList=xs.map (entryOfKey (tupleKind (mixKind P w)))/\(xs.map (·.1)).Nodup
 | .set S n=>h.SetOf (intKind P w) a S n
 | .ins C dx fs=>H dx=some (.own a)/\fs.length<=1000/\dx≠a/\h.get? a=some (PySem.W.instObj C dx)/\
   ∃mA,h.Ns1 dx mA/\(∀f,RelO (fs.lookup f) (mA f))/\PySem.Within mA (fs.map (·.1))
 | .own _=>∃o,h.get? a=some o
 | .xd fs=>∃mA,h.Ns1 a mA/\∀f,RelO (fs.lookup f) (mA f)
 | .rng lo hi=>∃t u v,h.get? a=some {cls:=.type "range",data:=.fields #[.int lo t,.int hi u,.int 1 v]}
 | .frz o u=>h.get? a=some o/\ObjOk H h a u
 | .tbl ps=>h.get? a=some {cls:=.none,data:=.fields ps}
 | .met f x=>h.get? a=some (PySem.W.methodObj (.ref f) (.ref x))
 | .ext φ=>φ h/\(∃o,h.get? a=some o)/\∀h1 h2:Heap,φ h1->(∀o,h1.get? a=some o->h2.get? a=some o)->φ h2
def HOk (H:Hp) (h:Heap):Prop:=∀a o,H a=some o->ObjOk P w H h a o
end
section
variable {P:Program}{w:World}{H H':Hp}{h h':Heap}{a:Addr}{o:HO}
theorem ObjOk.lt (x:ObjOk P w H h a o):a<h.objs.size:=by
 cases o with
 | lst xs=>obtain⟨_,_,_,_,e⟩:=x;exact zS e
 | tup xs=>obtain⟨_,_,_,p⟩:=x;exact p.is.lt
 | dK kvs=>obtain⟨_,_,_,_,o,_,e,_⟩:=x;exact zS e
 | dT kvs=>obtain⟨_,_,_,_,o,_,e,_⟩:=x;exact zS e
 | set S n=>obtain⟨o,_,_,_,e,_⟩:=x;exact zS e
 | ins C dx fs=>obtain⟨_,_,_,e,_⟩:=x;exact zS e
 | own y=>obtain⟨_,e⟩:=x;exact zS e
 | xd fs=>obtain⟨_,⟨_,_,_,e,_⟩,_⟩:=x;exact zS e
 | rng lo hi=>obtain⟨_,_,_,e⟩:=x;exact zS e
 | frz ob u=>obtain⟨e,_⟩:=x;exact zS e
 | tbl ps=>exact zS (show h.get? a=some _ from x)
 | met f y=>exact zS (show h.get? a=some _ from x)
 | ext φ=>obtain⟨_,⟨_,e⟩,_⟩:=x;exact zS e
theorem Paired.mapP {α β:Type}{F G:α->β->Prop}:∀{l₁:List α} {l₂:List β},Paired F l₁ l₂->(∀a b,F a b->G a b)->Paired G l₁ l₂
 | _,_,.nil,_=>.nil
 | _,_,.cons r t,f=>.cons (f _ _ r) (Paired.mapP t f)
theorem ObjOk.stay (x:ObjOk P w H h a o)(k:∀b u,(b=a\/H b=some (.own a))->h.get? b=some u->h'.get? b=some u)
  (ho:∀b,H b=some (.own a)->H' b=some (.own a)) (ht:∀b xs,H b=some (.tup xs)->H' b=some (.tup xs)):ObjOk P w H' h' a o:=by
 induction o with
 | lst xs=>obtain⟨z,its,n,r,e⟩:=x;exact⟨z,its,n,r,k _ _ (.inl rfl) e⟩
 | tup xs=>obtain⟨z,its,r,ob,e,c⟩:=x;exact⟨z,its,r,ob,k _ _ (.inl rfl) e,c⟩
 | dK kvs=>obtain⟨z,y,vs,r,ob,es,e,c⟩:=x;exact⟨z,y,vs,r,ob,es,k _ _ (.inl rfl) e,c⟩
 | dT kvs=>
  obtain⟨z,y,xs,r,ob,es,e,c⟩:=x;exact⟨z,y,xs,Paired.mapP r fun p q z=>⟨z.1,ht _ _ z.2.1,z.2.2⟩,ob,es,k _ _ (.inl rfl) e,c⟩
 | set S n=>obtain⟨ob,es,ep,t,e,c⟩:=x;exact⟨ob,es,ep,t,k _ _ (.inl rfl) e,c⟩
 | ins C dx fs=>
  obtain⟨d,z,ne,e,mA,⟨od,es,ep,e2,c⟩,r⟩:=x;exact⟨ho _ d,z,ne,k _ _ (.inl rfl) e,mA,⟨od,es,ep,k _ _ (.inr d) e2,c⟩,r⟩
 | own y=>obtain⟨ob,e⟩:=x;exact⟨ob,k _ _ (.inl rfl) e⟩
 | xd fs=>obtain⟨mA,⟨od,es,ep,e,c⟩,r⟩:=x;exact⟨mA,⟨od,es,ep,k _ _ (.inl rfl) e,c⟩,r⟩
 | rng lo hi=>obtain⟨t,u,v,e⟩:=x;exact⟨t,u,v,k _ _ (.inl rfl) e⟩
 | frz ob u ih=>obtain⟨e,q⟩:=x;exact⟨k _ _ (.inl rfl) e,ih q⟩
 | tbl ps=>
  have e:h.get? a=some {cls:=.none,data:=.fields ps}:=x;show h'.get? a=some {cls:=.none,data:=.fields ps};exact k a _ (.inl rfl) e
 | met f y=>
  have e:h.get? a=some (PySem.W.methodObj (.ref f) (.ref y)):=x;show h'.get? a=some (PySem.W.methodObj (.ref f) (.ref y));exact k a _ (.inl rfl) e
 | ext φ=>obtain⟨p,⟨o,e⟩,st⟩:=x;exact⟨st _ _ p fun o q=>k _ _ (.inl rfl) q,⟨o,k _ _ (.inl rfl) e⟩,st⟩
theorem HOk.lt (x:HOk P w H h)(e:H a=some o):a<h.objs.size:=(x a o e).lt
theorem HOk.fresh (x:HOk P w H h)(e:h.objs.size<=a):H a=none:=by
 cases q:H a with
 | none=>rfl
 | some u=>exact absurd (zF (x.lt q) e) (jD _)
theorem HOk.kept (x:HOk P w H h)(k:∀b u,h.get? b=some u->h'.get? b=some u):HOk P w H h':=fun a o e=>
 (x a o e).stay (fun b u _ q=>k b u q) (fun _ q=>q) fun _ _ q=>q
theorem HOk.laid (x:HOk P w H h)(k:∀b u,h.get? b=some u->h'.get? b=some u)(hp:h.objs.size<=a)(new:ObjOk P w (upd H a o) h' a o):HOk P w (upd H a o) h':=fun b u e=>by
 have hn:=x.fresh hp
 by_cases hb:b=a
 ·subst hb;rw[j5] at e;cases e;exact new
 ·rw[c6 hb] at e;exact(x b u e).stay (fun c v _ q=>k c v q) (fun c q=>by rw[c6 (j8 q hn)];exact q) fun c xs q=>by rw[c6 (j8 q hn)];exact q
end
def Rd (H:Hp) (a:Addr) (u:HO):Prop:=H a=some u\/∃o,H a=some (.frz o u)
theorem Rd.of {H:Hp}{a:Addr}{u:HO}(h:H a=some u):Rd H a u:=.inl h
theorem Rd.ok {P:Program}{w:World}{H:Hp}{h:Heap}{a:Addr}{u:HO}(r:Rd H a u)(x:HOk P w H h):ObjOk P w H h a u:=by
 rcases r with r|⟨o,r⟩
 ·exact x a u r
 ·obtain⟨_,q⟩:=x a _ r;exact q
def Mut:Option HO->Prop
 | some (.lst _)=>True
 | some (.dK _)=>True
 | some (.dT _)=>True
 | some (.set _ _)=>True
 | some (.ins _ _ _)=>True
 | some (.ext _)=>True
 | _=>False
section
variable {P:Program}{w:World}{H:Hp}{h h':Heap}{x e:Addr}{o':HO}
theorem HOk.write (ok:HOk P w H h)(mu:Mut (H x))(he:e=x\/H e=some (.own x))(k:∀b u,b≠e->h.get? b=some u->h'.get? b=some u)(heo:∃u,h'.get? e=some u)
  (new:ObjOk P w (upd H x o') h' x o'):HOk P w (upd H x o') h':=fun b u q=>by
 have nown:∀c y,H c=some (.own y)->c≠x:=fun c y r z=>by subst z;rw[r] at mu;exact mu
 have ntup:∀c xs,H c=some (.tup xs)->c≠x:=fun c xs r z=>by subst z;rw[r] at mu;exact mu
 by_cases hb:b=x
 ·subst hb;rw[j5] at q;cases q;exact new
 ·rw[c6 hb] at q
  by_cases hbe:b=e
  ·have q':H b=some (.own x):=by
    rcases he with z|z
    ·exact absurd (hbe.trans z) hb
    ·rw[hbe];exact z
   rw[q] at q';cases q';obtain⟨v,hv⟩:=heo;exact⟨v,by rw[hbe];exact hv⟩
  ·refine(ok b u q).stay (fun c v hc r=>k c v ?_ r) (fun c r=>by rw[c6 (nown c b r)];exact r) fun c xs r=>by rw[c6 (ntup c xs r)];exact r
   rcases hc with rfl|hc
   ·exact hbe
   ·rintro rfl;rcases he with z|z
    ·exact nown c b hc z
    ·rw[hc] at z;cases z;exact hb rfl
end
structure Un (fs ex:List Addr) (H H':Hp) (h h':Heap):Prop where
 keep:∀b o,h.get? b=some o->H b=none->b∉fs->b∉ex->h'.get? b=some o
 slot:∀b o,h.get? b=some o->H b=none->b∈fs->b∉ex->∃sl,h'.get? b=some {o with slots:=sl}
 free:∀b o,h.get? b=some o->H b=none->b∉ex->H' b=none
 there:∀b o,h.get? b=some o->b∉ex->∃o',h'.get? b=some o'
 tups:∀b xs,H b=some (.tup xs)->H' b=some (.tup xs)
 frzs:∀b o u,H b=some (.frz o u)->H' b=some (.frz o u)
 tbls:∀b ps,H b=some (.tbl ps)->∃more,H' b=some (.tbl (ps++more))
section
variable {fs ex:List Addr}{H H1:Hp}{h h1 h':Heap}{a x e:Addr}{o:HO}
theorem Un.any (u:Un fs ex H H1 h h1){b:Addr}{ob:Obj}(q:h.get? b=some ob)(n:H b=none)(hx:b∉ex):∃sl,h1.get? b=some {ob with slots:=sl}:=by
 by_cases hb:b∈fs
 ·exact u.slot b ob q n hb hx
 ·exact⟨ob.slots,u.keep b ob q n hb hx⟩
theorem Un.kept (k:∀b u,h.get? b=some u->h'.get? b=some u):Un fs ex H H h h':=
 ⟨fun b ob q _ _ _=>k b ob q,fun b ob q _ _ _=>⟨ob.slots,k b ob q⟩,fun _ _ _ n _=>n,fun b ob q _=>⟨ob,k b ob q⟩,fun _ _ q=>q,fun _ _ _ q=>q,fun _ ps q=>⟨#[],by rw[q];simp⟩⟩
theorem Un.refl:Un fs ex H H h h:=Un.kept fun _ _ q=>q
theorem Un.laid (k:∀b u,h.get? b=some u->h'.get? b=some u)(hp:h.objs.size<=a)(hn:H a=none):Un fs ex H (upd H a o) h h' where
 keep:=fun b u q _ _ _=>k b u q
 slot:=fun b u q _ _ _=>⟨u.slots,k b u q⟩
 free:=fun b u q n _=>by rw[c6 (zG (zF (zS q) hp))];exact n
 there:=fun b u q _=>⟨u,k b u q⟩
 tups:=fun b xs q=>by rw[c6 (j8 q hn)];exact q
 frzs:=fun b u xs q=>by rw[c6 (j8 q hn)];exact q
 tbls:=fun b ps q=>⟨#[],by rw[c6 (j8 q hn),q];simp⟩
theorem Un.write (mu:Mut (H x))(he:e=x\/H e=some (.own x))(k:∀b u,b≠e->h.get? b=some u->h'.get? b=some u)(heo:∃u,h'.get? e=some u):Un fs ex H (upd H x o) h h':=by
 have hx:∀b,H b=none->b≠x:=fun b n z=>by subst z;rw[n] at mu;exact mu
 have hb:∀b,H b=none->b≠e:=fun b n z=>by
  subst z;rcases he with r|r
  ·exact hx b n r
  ·rw[n] at r;cases r
 have hm:∀b u,H b=some u->¬Mut (some u)->b≠x:=fun b u q nm z=>by subst z;rw[q] at mu;exact nm mu
 refine⟨fun b u q n _ _=>k b u (hb b n) q,fun b u q n _ _=>⟨u.slots,k b u (hb b n) q⟩,fun b u q n _=>by rw[c6 (hx b n)];exact n,fun b u q _=>?_,
  fun b xs q=>by rw[c6 (hm b _ q fun z=>z)];exact q,fun b u xs q=>by rw[c6 (hm b _ q fun z=>z)];exact q,fun b ps q=>⟨#[],by rw[c6 (hm b _ q fun z=>z),q];simp⟩⟩
 by_cases hbe:b=e
 ·subst hbe;exact heo
 ·exact⟨u,k b u hbe q⟩
end
def trk (h:Heap) (H:Hp):List Addr:=(List.range h.objs.size).filter fun a=>(H a).isSome
def hidT (h:Heap) (H:Hp):Heap:=PySem.W.hideAll h (trk h H)
theorem a45 (h:Heap)(H:Hp):(hidT h H).objs.size=h.objs.size:=PySem.W.hideAll_size _ _
theorem a6S {h:Heap}{H:Hp}{b:Addr}{o:Obj}(e:h.get? b=some o)(n:H b=none):(hidT h H).get? b=some o:=
 PySem.W.hideAll_get _ e fun hm=>by
  have q:(H b).isSome=true:=(mem_filter.mp hm).2;rw[n] at q;simp at q
theorem a7B {h:Heap}{H:Hp}{b:Addr}{o:Obj}(e:(hidT h H).get? b=some o):h.get? b=some o/\H b=none:=by
 have e':h.get? b=some o:=PySem.W.of_hideAll (trk h H) e;refine⟨e',?_⟩;cases q:H b with
 | none=>rfl
 | some x=>
  have hm:b∈trk h H:=mem_filter.mpr ⟨xB.mpr (zS e'),by simp[q]⟩
  have z:(hidT h H).get? b=none:=PySem.W.hideAll_none (trk h H) hm;rw[z] at e;cases e
def allNews (g h:Heap) (L:Addr):List (Addr×Obj):=(List.range h.objs.size).filterMap fun a=>if a=L\/(g.get? a).isSome=true then none else(h.get? a).map fun o=>(a,o)
theorem a2f {g h:Heap}{L a:Addr}{o:Obj}(h1:a≠L)(h2:g.get? a=none)(h3:h.get? a=some o):(a,o)∈allNews g h L:=
 mem_filterMap.mpr ⟨a,xB.mpr (zS h3),by simp[h1,h2,h3]⟩
theorem X1 {g h:Heap}{L:Addr}{p:Addr×Obj}(hp:p∈allNews g h L):p.1≠L/\g.get? p.1=none/\h.get? p.1=some p.2:=by
 obtain⟨b,_,e⟩:=mem_filterMap.mp hp;split at e
 ·cases e
 ·rename_i hn;cases q:h.get? b with
  | none=>rw[q] at e;simp at e
  | some u=>
   rw[q] at e;simp only[jJ,Option.some.injEq] at e;subst e;refine⟨fun z=>hn (.inl z),?_,q⟩;show g.get? b=none;cases r:g.get? b with
   | none=>rfl
   | some v=>exact(hn (.inr (by simp[r]))).elim
def rest (g h:Heap) (L d:Addr):List (Addr×Obj):=(allNews g h L).filter fun p=>decide (p.1≠d)
theorem a32 {g h:Heap}{L d:Addr}:∀p∈rest g h L d,p.1≠d:=fun p hp=>yH (mem_filter.mp hp).2
theorem a66 {g h:Heap}{L d a:Addr}{o:Obj}(h1:a≠L)(h2:g.get? a=none)(h3:h.get? a=some o)(h4:a≠d):(a,o)∈rest g h L d:=
 mem_filter.mpr ⟨a2f h1 h2 h3,qE h4⟩
theorem a6I {g h:Heap}{L:Addr}:News g L h (allNews g h L):=fun p hp=>let ⟨a,b,c⟩:=X1 hp;⟨c,a,b⟩
theorem a72 {g h:Heap}{L d:Addr}{o:Obj}(h1:d≠L)(h2:g.get? d=none)(h3:h.get? d=some o):News g L h ((d,o)::rest g h L d):=fun p hp=>by
 rcases zO.mp hp with rfl|hp
 ·exact⟨h3,h1,h2⟩
 ·exact a6I p (mem_filter.mp hp).1
theorem a1l {g h h':Heap}{L d:Addr}{m:Str->Option Value}(k:∀b o,g.get? b=some o->h.get? b=some o)(F:Fr g L h' m)(N:News g L h' (rest g h L d)):
  ∀b o,b≠L->b≠d->h.get? b=some o->h'.get? b=some o:=fun b o h1 h2 e=>by
 cases q:g.get? b with
 | some u=>
  have:=k b u q
  rw[e] at this;cases this;exact F.keep b _ q
 | none=>exact(N (b,o) (a66 h1 q e h2)).1
structure Mod (K:PySem.W.Frag) (mg:Str->Option Value) (base:Heap):Prop where
 kin:K.In base
 glob:base.Ns mainGlobals mg
 blt:∃mb,base.Ns builtinsNs mb/\∀x:Str,x≠"__name__"->mb x=bootBuiltins x
 nolimit:base.NoLimit
structure Cx where
 prog:Program
 w:World
 K:PySem.W.Frag
 mg:Str->Option Value
 base:Heap
 A:Around
 N:List Str
 s₀:Shared
 H₀:Hp
 env:Env
 outer:List Env
 stack:List Env
 ex:List Addr
 fn:Str->Bool
 calm:Bool
 pn:List (Addr×Obj)
 xe:Value->Shared->Prop
def frs (l:List Env):List Addr:=l.filterMap (·.frame)
abbrev Cx.fs (X:Cx):List Addr:=frs X.outer
def Vis (sc:Scope) (x:Str):Prop:=sc.names.lookup x=some .local\/sc.names.lookup x=some .cell\/sc.names.lookup x=some .free
def Loc (sc:Scope) (x:Str):Prop:=sc.names.lookup x=some .local\/sc.names.lookup x=some .cell
def Look (env:Env) (h:Heap) (m:Str->Option Value) (x:Str) (u:Value):Prop:=
 (env.kindOf x=some .local/\m x=some u)\/((env.kindOf x=some .cell\/env.kindOf x=some .free)/\∃c,env.cells.lookup x=some c/\h.IsCell c (some u))
structure Cx.Ok (X:Cx):Prop where
 mod:Mod X.K X.mg X.base
 kind:X.env.scope.kind= .function
 glob:X.env.globals=mainGlobals
 blt:X.env.builtins=builtinsNs
 above:X.s₀.heap.objs.size<=X.env.locals
 inj:∀x y c,X.env.cells.lookup x=some c->X.env.cells.lookup y=some c->x=y
 has:∀x,(X.env.kindOf x=some .cell\/X.env.kindOf x=some .free)->∃c,X.env.cells.lookup x=some c
 cab:∀x c,X.fn x=true->X.env.cells.lookup x=some c->X.s₀.heap.objs.size<=c
 hd:X.calm=true->X.A.handled=none
 frames:X.A.frames=some X.stack
 stk:X.stack=X.outer\/(X.stack=X.env::X.outer/\X.env.frame=some X.env.locals)
 exf:∀b∈X.ex,b≠X.env.locals/\∀x c,X.env.cells.lookup x=some c->c≠b
 bs:∀b o,X.base.get? b=some o->X.s₀.heap.get? b=some o/\X.H₀ b=none
 bsz:X.base.objs.size<=X.s₀.heap.objs.size
 noex:∀b o,X.base.get? b=some o->b∉X.ex
 exfs:∀b∈X.ex,b∉X.fs
 funs:X.s₀.heap.FunFrames X.base X.outer
 frf:∀b∈X.fs,X.H₀ b=none
structure Inv (X:Cx) (pins:List (Addr×Obj)) (σ:List (Option V)) (H:Hp) (s:Shared):Prop where
 ok:X.Ok
 os:s.os=X.s₀.os
 bare:AllBare s.gens
 base:Un X.fs X.ex X.H₀ H X.s₀.heap s.heap
 loc:∃m,s.heap.Ns X.env.locals m/\∀(i:Nat) (x:Str) (v:V),X.N[i]? =some x->σ[i]? =some (some v)->Vis X.env.scope x->∃u,RelV v u/\Look X.env s.heap m x u
 cell:∀x c,X.env.cells.lookup x=some c->∃v,s.heap.IsCell c v
 free:H X.env.locals=none
 freeC:∀x c,X.env.cells.lookup x=some c->H c=none
 pin:∀p∈X.pn++pins,s.heap.get? p.1=some p.2/\H p.1=none/\p.1≠X.env.locals/\p.1∉X.fs/\∀v,p.2.data≠.cell v
 hok:HOk X.prog X.w H s.heap
 len:σ.length=X.N.length
section
variable {X:Cx}{pins:List (Addr×Obj)}{σ:List (Option V)}{H H':Hp}{s:Shared}{h':Heap}
theorem Cx.Ok.nofr (ok:X.Ok){b:Addr}{o:Obj}(e:X.base.get? b=some o):b∉X.fs:=fun hb=>by
 have:=(ok.funs.mem hb).1
 rw[e] at this;cases this
theorem Inv.bs (I:Inv X pins σ H s):∀b o,X.base.get? b=some o->s.heap.get? b=some o/\H b=none:=fun b o e=>
 ⟨I.base.keep b o (I.ok.bs b o e).1 (I.ok.bs b o e).2 (I.ok.nofr e) (I.ok.noex b o e),I.base.free b o (I.ok.bs b o e).1 (I.ok.bs b o e).2 (I.ok.noex b o e)⟩
theorem Inv.bk (I:Inv X pins σ H s):∀b o,X.base.get? b=some o->s.heap.get? b=some o:=fun b o e=>(I.bs b o e).1
theorem Inv.mod (I:Inv X pins σ H s):Mod X.K X.mg X.base:=I.ok.mod
theorem Inv.kIn (I:Inv X pins σ H s):X.K.In s.heap:=I.ok.mod.kin.keeps I.bk
theorem Inv.fr (I:Inv X pins σ H s):∃m,Fr X.base X.env.locals s.heap m:=
 let ⟨m,hn,_⟩:=I.loc
 ⟨m,hn,I.bk,qH I.ok.bsz I.ok.above⟩
theorem Inv.lt (I:Inv X pins σ H s):X.env.locals<s.heap.objs.size:=let ⟨_,hn,_⟩:=I.loc;hn.lt
theorem Inv.sz (I:Inv X pins σ H s):X.s₀.heap.objs.size<=s.heap.objs.size:=qH I.ok.above (Nat.le_of_lt I.lt)
theorem Inv.nofs (I:Inv X pins σ H s){a:Addr}(h:s.heap.objs.size<=a):a∉X.fs:=fun hb=>by
 obtain⟨_,o,ho,_⟩:=I.ok.funs.mem hb;exact absurd (zF (zS ho) (qH I.sz h)) (jD _)
theorem Inv.cne (I:Inv X pins σ H s):∀x c,X.env.cells.lookup x=some c->c≠X.env.locals:=fun x c e z=>by
 obtain⟨v,o,ho,hd⟩:=I.cell x c e;obtain⟨m,⟨o',es,ep,ho',hd',_⟩,_⟩:=I.loc;rw[z,ho'] at ho;cases ho;rw[hd'] at hd;cases hd
theorem Inv.funs (I:Inv X pins σ H s):s.heap.FunFrames X.base X.outer:=by
 have all:∀(l:List Env),(∀b∈frs l,b∈X.fs)->X.s₀.heap.FunFrames X.base l->s.heap.FunFrames X.base l:=by
  intro l
  induction l with
  | nil=>intro _ _;trivial
  | cons env r ih=>
   intro hs hl;obtain⟨hk,⟨L,o,hf,hn,ho,hd⟩,hr⟩:=hl;have hL:L∈X.fs:=hs L (by unfold frs;rw[filterMap_cons,hf];exact zR)
   obtain⟨sl,e⟩:=I.base.slot L o ho (I.ok.frf L hL) hL fun z=>I.ok.exfs L z hL;exact⟨hk,⟨L,_,hf,hn,e,hd⟩,ih (fun b hb=>hs b (by unfold frs;rw[filterMap_cons,hf];exact zN _ hb)) hr⟩
 exact all X.outer (fun _ hb=>hb) I.ok.funs
theorem Inv.stack (I:Inv X pins σ H s):s.heap.FunFrames X.base X.stack:=by
 rcases I.ok.stk with e|⟨e,hf⟩
 ·rw[e];exact I.funs
 ·rw[e];obtain⟨m,hn,_⟩:=I.loc;refine .cons (by rw[I.ok.kind];decide) hf hn ?_ I.funs
  exact Heap.get?_none_of_le (qH I.ok.bsz I.ok.above)
theorem Inv.stkSub (I:Inv X pins σ H s):∀b∈frs X.stack,b∈X.env.locals::X.fs:=fun b hb=>by
 rcases I.ok.stk with e|⟨e,hf⟩
 ·rw[e] at hb;exact zN _ hb
 ·rw[e] at hb;unfold frs at hb;rw[filterMap_cons,hf] at hb;exact hb
theorem Inv.stkFree (I:Inv X pins σ H s):∀b∈frs X.stack,H b=none:=fun b hb=>by
 rcases zO.mp (I.stkSub b hb) with e|hb
 ·rw[e];exact I.free
 ·obtain⟨_,o,ho,_⟩:=I.ok.funs.mem hb;exact I.base.free b o ho (I.ok.frf b hb) fun z=>I.ok.exfs b z hb
theorem Inv.step {g':Array GenState}{t':Nat}{d':Drawn}{ch:List Addr}(I:Inv X pins σ H s)
  (hch:∀b∈ch,(b∈X.ex\/X.s₀.heap.objs.size<=b)/\b≠X.env.locals/\(∀x c,X.env.cells.lookup x=some c->c≠b)/\∀p∈X.pn++pins,p.1≠b)
  (keep:∀b o,b≠X.env.locals->b∉X.fs->b∉ch->s.heap.get? b=some o->H b=none->h'.get? b=some o)
  (slot:∀b o,b≠X.env.locals->b∈X.fs->b∉ch->s.heap.get? b=some o->H b=none->∃sl,h'.get? b=some {o with slots:=sl}) (free:∀b o,b∉ch->s.heap.get? b=some o->H b=none->H' b=none)
  (there:∀b o,b∉ch->s.heap.get? b=some o->∃o',h'.get? b=some o')
  (tups:∀b xs,H b=some (.tup xs)->H' b=some (.tup xs)) (frzs:∀b o u,H b=some (.frz o u)->H' b=some (.frz o u)) (tbls:∀b ps,H b=some (.tbl ps)->∃more,H' b=some (.tbl (ps++more)))
  (ns:∀m,s.heap.Ns X.env.locals m->h'.Ns X.env.locals m) (hok:HOk X.prog X.w H' h') (hg:AllBare g'):
  Inv X pins σ H' {s with heap:=h',gens:=g',drawn:=d',toks:=t'}:=by
 have neL:∀b o,X.s₀.heap.get? b=some o->b≠X.env.locals:=fun b o e=>zG (zF (zS e) I.ok.above);have neC:∀b o,X.s₀.heap.get? b=some o->b∉X.ex->b∉ch:=fun b o e hx hb=>by
  rcases(hch b hb).1 with z|z
  ·exact hx z
  ·exact absurd (zF (zS e) z) (jD _)
 have cellK:∀x c,X.env.cells.lookup x=some c->∀v,s.heap.IsCell c v->h'.IsCell c v:=fun x c e v ⟨o,ho,hd⟩=>by
  have nch:c∉ch:=fun z=>(hch c z).2.2.1 x c e rfl
  by_cases hc:c∈X.fs
  ·obtain⟨sl,q⟩:=slot c o (I.cne x c e) hc nch ho (I.freeC x c e);exact⟨_,q,hd⟩
  ·exact⟨o,keep c o (I.cne x c e) hc nch ho (I.freeC x c e),hd⟩
 refine⟨I.ok,I.os,hg,⟨fun b o e n hb hx=>?_,fun b o e n hb hx=>?_,fun b o e n hx=>?_,fun b o e hx=>?_,fun b xs e=>tups b xs (I.base.tups b xs e),fun b o xs e=>frzs b o xs (I.base.frzs b o xs e),fun b ps e=>?_⟩,?_,fun x c e=>?_,?_,fun x c e=>?_,fun p hp=>?_,hok,I.len⟩
 ·exact keep b o (neL b o e) hb (neC b o e hx) (I.base.keep b o e n hb hx) (I.base.free b o e n hx)
 ·obtain⟨sl,e1⟩:=I.base.slot b o e n hb hx;obtain⟨sl',e2⟩:=slot b _ (neL b o e) hb (neC b o e hx) e1 (I.base.free b o e n hx);exact⟨sl',e2⟩
 ·obtain⟨o',e1⟩:=I.base.there b o e hx;exact free b o' (neC b o e hx) e1 (I.base.free b o e n hx)
 ·obtain⟨o',e1⟩:=I.base.there b o e hx;exact there b o' (neC b o e hx) e1
 ·obtain⟨m1,e1⟩:=I.base.tbls b ps e;obtain⟨m2,e2⟩:=tbls b _ e1;exact⟨m1++m2,by rw[e2,Array.append_assoc]⟩
 ·obtain⟨m,hn,hl⟩:=I.loc;refine⟨m,ns m hn,fun i x v e1 e2 e3=>?_⟩;obtain⟨u,r,l⟩:=hl i x v e1 e2 e3;refine⟨u,r,?_⟩;rcases l with l|⟨k,c,e,z⟩
  ·exact .inl l
  ·exact .inr ⟨k,c,e,cellK x c e _ z⟩
 ·obtain⟨v,z⟩:=I.cell x c e;exact⟨v,cellK x c e v z⟩
 ·obtain⟨m,⟨o,_,_,ho,_⟩,_⟩:=I.loc;exact free _ o (fun z=>(hch _ z).2.1 rfl) ho I.free
 ·obtain⟨v,o,ho,hd⟩:=I.cell x c e;exact free c o (fun z=>(hch c z).2.2.1 x c e rfl) ho (I.freeC x c e)
 ·obtain⟨e,n,ne,nf,d⟩:=I.pin p hp;have nch:p.1∉ch:=fun z=>(hch p.1 z).2.2.2 p hp rfl;exact⟨keep p.1 p.2 ne nf nch e n,free p.1 p.2 nch e n,ne,nf,d⟩
theorem Inv.un {t':Nat}(I:Inv X pins σ H s)(u:Un X.fs [] H H' s.heap h')(hok:HOk X.prog X.w H' h'):Inv X pins σ H' {s with heap:=h',toks:=t'}:=by
 obtain⟨m,⟨o,es,ep,ho,r⟩,_⟩:=id I.loc;obtain⟨sl,hL⟩:=u.any ho I.free (by simp)
 exact I.step (g':=s.gens) (d':=s.drawn) (ch:=[]) (fun _ z=>nomatch z) (fun b o _ hb _ e n=>u.keep b o e n hb (by simp)) (fun b o _ hb _ e n=>u.slot b o e n hb (by simp)) (fun b o _ e n=>u.free b o e n (by simp)) (fun b o _ e=>u.there b o e (by simp)) u.tups u.frzs u.tbls (fun m' hm=>by
  obtain⟨o',es',ep',ho',r'⟩:=hm;rw[ho] at ho';cases ho'
  exact⟨_,es',ep',hL,r'⟩) hok I.bare
theorem Inv.call {g':Array GenState}{t':Nat}{d':Drawn}{ch:List Addr}(I:Inv X pins σ H s)(u:Un (frs X.stack) ch H H' s.heap h')(hok:HOk X.prog X.w H' h')(hg:AllBare g')
  (hch:∀b∈ch,(b∈X.ex\/X.s₀.heap.objs.size<=b)/\b≠X.env.locals/\(∀x c,X.env.cells.lookup x=some c->c≠b)/\∀p∈X.pn++pins,p.1≠b):
  Inv X pins σ H' {s with heap:=h',gens:=g',drawn:=d',toks:=t'}:=by
 obtain⟨m,⟨o,es,ep,ho,r⟩,_⟩:=id I.loc;obtain⟨sl,hL⟩:=u.any ho I.free fun z=>(hch _ z).2.1 rfl
 exact I.step (ch:=ch) hch (fun b o hL hb hc e n=>u.keep b o e n (fun z=>(zO.mp (I.stkSub b z)).elim hL hb) hc) (fun b o _ _ hc e n=>u.any e n hc) (fun b o hc e n=>u.free b o e n hc) (fun b o hc e=>u.there b o e hc) u.tups u.frzs u.tbls (fun m' hm=>by
  obtain⟨o',es',ep',ho',r'⟩:=hm;rw[ho] at ho';cases ho'
  exact⟨_,es',ep',hL,r'⟩) hok hg
theorem Inv.turned {t':Nat}{it:Addr}(I:Inv X pins σ H s)(k:∀b o,b≠it->s.heap.get? b=some o->h'.get? b=some o)(hn:H it=none)(hL:it≠X.env.locals)
  (h1:it∈X.ex\/X.s₀.heap.objs.size<=it) (h2:∀x c,X.env.cells.lookup x=some c->c≠it) (h3:∀p∈X.pn++pins,p.1≠it):Inv X pins σ H {s with heap:=h',toks:=t'}:=by
 have nit:∀b u,H b=some u->b≠it:=fun b u e z=>by rw[z,hn] at e;cases e
 refine I.step (g':=s.gens) (d':=s.drawn) (ch:=[it]) (fun b hb=>?_) (fun b o _ _ hc e _=>k b o (fun z=>hc (by simp[z])) e) (fun b o _ _ hc e _=>⟨o.slots,k b o (fun z=>hc (by simp[z])) e⟩) (fun _ _ _ _ n=>n)
  (fun b o hc e=>⟨o,k b o (fun z=>hc (by simp[z])) e⟩) (fun _ _ e=>e) (fun _ _ _ e=>e) (fun b ps e=>⟨#[],by rw[e];simp⟩) (fun m hm=>?_) (fun b u e=>?_) I.bare
 ·have e:b=it:=by simpa using hb
  subst e;exact⟨h1,hL,h2,h3⟩
 ·obtain⟨o,es,ep,ho,r⟩:=hm;exact⟨o,es,ep,k _ o (jA hL) ho,r⟩
 ·refine(I.hok b u e).stay (fun c v hc q=>k c v ?_ q) (fun _ q=>q) fun _ _ q=>q;rcases hc with z|z
  ·rw[z];exact nit b u e
  ·exact nit c _ z
theorem Inv.tok (I:Inv X pins σ H s)(t:Nat):Inv X pins σ H {s with toks:=t}:=I.un (h':=s.heap) (t':=t) Un.refl I.hok
theorem Inv.kept {t':Nat}(I:Inv X pins σ H s)(k:∀b u,s.heap.get? b=some u->h'.get? b=some u):Inv X pins σ H {s with heap:=h',toks:=t'}:=I.un (Un.kept k) (I.hok.kept k)
theorem Inv.laid {a:Addr}{o:HO}{t':Nat}(I:Inv X pins σ H s)(k:∀b u,s.heap.get? b=some u->h'.get? b=some u)(hp:s.heap.objs.size<=a)(new:ObjOk X.prog X.w (upd H a o) h' a o):
  Inv X pins σ (upd H a o) {s with heap:=h',toks:=t'}:=I.un (Un.laid k hp (I.hok.fresh hp)) (I.hok.laid k hp new)
theorem Inv.write {x e:Addr}{o:HO}{t':Nat}(I:Inv X pins σ H s)(mu:Mut (H x))(he:e=x\/H e=some (.own x))(k:∀b u,b≠e->s.heap.get? b=some u->h'.get? b=some u)(heo:∃u,h'.get? e=some u)
  (new:ObjOk X.prog X.w (upd H x o) h' x o):Inv X pins σ (upd H x o) {s with heap:=h',toks:=t'}:=I.un (Un.write mu he k heo) (I.hok.write mu he k heo new)
theorem Inv.pins_of {pins':List (Addr×Obj)}(I:Inv X pins σ H s)(h:∀p∈pins',s.heap.get? p.1=some p.2/\H p.1=none/\p.1≠X.env.locals/\p.1∉X.fs/\∀v,p.2.data≠.cell v):Inv X pins' σ H s:=
 ⟨I.ok,I.os,I.bare,I.base,I.loc,I.cell,I.free,I.freeC,fun p hp=>(xJ.mp hp).elim (fun z=>I.pin p (List.mem_append_left _ z)) (h p),I.hok,I.len⟩
theorem a1T {N:List Str}(hN:N.Nodup){i j:Nat}{x:Str}(a:N[i]? =some x)(b:N[j]? =some x):i=j:=by
 obtain⟨h1,e1⟩:=zK.mp a;obtain⟨h2,e2⟩:=zK.mp b;exact(List.getElem_inj hN).mp (e1.trans e2.symm)
theorem a4Z {M:Model}{A:Around}{E:Value->Shared->Prop}{i:Nat}{x:Str}{v:V}{u:Value}{Q:Unit->Shared->Prop}(I:Inv X pins σ H s)(hN:X.N.Nodup)(hi:X.N[i]? =some x)(hx:Loc X.env.scope x)(r:RelV v u)
  (h:∀s',Inv X pins (σ.set i (some v)) H s'->(∃a,Heap.SameBut a s.heap s'.heap/\(a=X.env.locals\/X.env.cells.lookup x=some a))->Q () s') (hf:X.fn x=true\/X.env.scope.names.lookup x=some .local:=by first|exact .inl rfl|exact .inr rfl|assumption):wpAny M A (storeName X.env x u) Q E s:=by
 obtain⟨m,hn,hl⟩:=id I.loc;have hcls:(X.env.scope.kind == .class||(X.env.scope.kind == .module&&X.env.locals != X.env.globals))=false:=by rw[I.ok.kind];rfl
 have hiσ:i<σ.length:=by rw[I.len];exact(zK.mp hi).1
 have cne:=I.cne;have tracked:∀{a:Addr} {h':Heap},(∃o,s.heap.get? a=some o/\H a=none)->Heap.SameBut a s.heap h'->HOk X.prog X.w H h':=fun{a h'} ha hs b ob e=>by
  obtain⟨_,_,hfree⟩:=ha;refine(I.hok b ob e).stay (fun c w' hc q=>(hs.2 c ?_).trans q) (fun _ q=>q) fun _ _ q=>q;rintro rfl;rcases hc with rfl|hc
  ·rw[hfree] at e;cases e
  ·rw[hfree] at hc;cases hc
 rcases hx with hk|hk
 ·refine wpAny_storeName_local hk hn (fun h' hn' hs=>?_) hcls;obtain⟨oL,_,_,hoL,_⟩:=id hn;refine h _ ⟨I.ok,I.os,I.bare,⟨fun b o e n hb hx=>?_,fun b o e n hb hx=>?_,I.base.free,fun b o e hx=>?_,I.base.tups,I.base.frzs,I.base.tbls⟩,⟨_,hn',fun j y v' e1 e2 e3=>?_⟩,fun y c e=>?_,I.free,I.freeC,fun p hp=>?_,tracked ⟨oL,hoL,I.free⟩ hs,by simpa using I.len⟩ ⟨_,hs,.inl rfl⟩
  ·exact(hs.2 b (zG (zF (zS e) I.ok.above))).trans (I.base.keep b o e n hb hx)
  ·obtain⟨sl,e1⟩:=I.base.slot b o e n hb hx;exact⟨sl,(hs.2 b (zG (zF (zS e) I.ok.above))).trans e1⟩
  ·obtain⟨o',e1⟩:=I.base.there b o e hx;exact⟨o',(hs.2 b (zG (zF (zS e) I.ok.above))).trans e1⟩
  ·by_cases hj:j=i
   ·subst hj;rw[hi] at e1;cases e1;rw[List.getElem?_set_self hiσ] at e2;cases e2;exact⟨u,r,.inl ⟨hk,by simp⟩⟩
   ·rw[zX (jA hj)] at e2;obtain⟨u',r',q⟩:=hl j y v' e1 e2 e3;refine⟨u',r',?_⟩;rcases q with ⟨k,e⟩|⟨k,c,e,z⟩
    ·refine .inl ⟨k,?_⟩
     have:y≠x:=fun e=>hj (a1T hN e1 (e▸hi))
     simp[this,e]
    ·exact .inr ⟨k,c,e,z.sameBut hs (cne y c e)⟩
  ·obtain⟨w',z⟩:=I.cell y c e;exact⟨w',z.sameBut hs (cne y c e)⟩
  ·obtain⟨e,n,ne,nf,d⟩:=I.pin p hp;exact⟨(hs.2 p.1 ne).trans e,n,ne,nf,d⟩
 ·have hfn:X.fn x=true:=by
   rcases hf with z|z
   ·exact z
   ·rw[z] at hk;cases hk
  obtain⟨c,hc⟩:=I.ok.has x (.inl hk);obtain⟨w',z⟩:=I.cell x c hc;refine wpAny_storeName_cell I.ok.kind hk hc z (fun h' hc' hs=>?_);obtain⟨oc,hoc,hocd⟩:=id z;refine h {s with heap:=h'} ⟨I.ok,I.os,I.bare,⟨fun b o e n hb hx=>?_,fun b o e n hb hx=>?_,I.base.free,fun b o e hx=>?_,I.base.tups,I.base.frzs,I.base.tbls⟩,⟨m,hn.sameBut hs (jA (cne x c hc)),fun j y v' e1 e2 e3=>?_⟩,fun y c' e=>?_,I.free,I.freeC,fun p hp=>?_,tracked ⟨oc,hoc,I.freeC x c hc⟩ hs,by simpa using I.len⟩ ⟨c,hs,.inr hc⟩
  ·exact(hs.2 b (zG (zF (zS e) (I.ok.cab x c hfn hc)))).trans (I.base.keep b o e n hb hx)
  ·obtain⟨sl,e1⟩:=I.base.slot b o e n hb hx;exact⟨sl,(hs.2 b (zG (zF (zS e) (I.ok.cab x c hfn hc)))).trans e1⟩
  ·obtain⟨o',e1⟩:=I.base.there b o e hx;exact⟨o',(hs.2 b (zG (zF (zS e) (I.ok.cab x c hfn hc)))).trans e1⟩
  ·by_cases hj:j=i
   ·subst hj;rw[hi] at e1;cases e1;rw[List.getElem?_set_self hiσ] at e2;cases e2;exact⟨u,r,.inr ⟨.inl hk,c,hc,hc'⟩⟩
   ·rw[zX (jA hj)] at e2;obtain⟨u',r',q⟩:=hl j y v' e1 e2 e3;refine⟨u',r',?_⟩;rcases q with q|⟨k,c',e,z'⟩
    ·exact .inl q
    ·refine .inr ⟨k,c',e,z'.sameBut hs ?_⟩;rintro rfl;exact hj (a1T hN e1 (I.ok.inj _ _ _ e hc▸hi))
  ·by_cases hcc:c'=c
   ·subst hcc;exact⟨_,hc'⟩
   ·obtain⟨w2,z2⟩:=I.cell y c' e;exact⟨w2,z2.sameBut hs hcc⟩
  ·obtain⟨e,n,ne,nf,d⟩:=I.pin p hp;refine⟨(hs.2 p.1 ?_).trans e,n,ne,nf,d⟩;intro q;rw[q,hoc] at e;have q':oc=p.2:=qC e;exact d w' (by rw[<-q'];exact hocd)
theorem a0m {M:Model}{A:Around}{E:Value->Shared->Prop}{i:Nat}{x:Str}{v:V}{u:Value}{Q:Unit->Shared->Prop}(I:Inv X pins σ H s)(hN:X.N.Nodup)(hi:X.N[i]? =some x)(hx:Loc X.env.scope x)(r:RelV v u)
  (h:∀s',Inv X pins (σ.set i (some v)) H s'->Q () s') (hf:X.fn x=true\/X.env.scope.names.lookup x=some .local:=by first|exact .inl rfl|exact .inr rfl|assumption):wpAny M A (storeName X.env x u) Q E s:=
 a4Z I hN hi hx r (fun s' I' _=>h s' I') hf
theorem Inv.call' {s':Shared}{ch:List Addr}(I:Inv X pins σ H s)(ho:s'.os=s.os)(u:Un (frs X.stack) ch H H' s.heap s'.heap)(hok:HOk X.prog X.w H' s'.heap)(hg:AllBare s'.gens)
  (hch:∀b∈ch,(b∈X.ex\/X.s₀.heap.objs.size<=b)/\b≠X.env.locals/\(∀x c,X.env.cells.lookup x=some c->c≠b)/\∀p∈X.pn++pins,p.1≠b):Inv X pins σ H' s':=by
 obtain⟨h',g',d',t',o'⟩:=s';have e:o'=s.os:=ho;subst e;exact I.call (g':=g') (t':=t') (d':=d') u hok hg hch
end
abbrev XK:=Value->Option Addr->Hp->Prop
abbrev St:=List (Option V)
abbrev VK:=V->Hp->Prop
abbrev TE:=St->Hp->VK->Prop
abbrev TT:=St->Hp->(Bool->Hp->Prop)->Prop
abbrev TA:=St->Hp->(List V->Hp->Prop)->Prop
structure Ends where
 nx:St->Hp->Prop
 rt:VK
 bk:St->Hp->Prop:=fun _ _=>False
 ct:St->Hp->Prop:=fun _ _=>False
abbrev TS:=Ends->St->Hp->Prop
def EP (X:Cx) (pins:List (Addr×Obj)) (σ:St) (Q:VK) (u:Value) (s':Shared):Prop:=∃v H',Inv X pins σ H' s'/\RelV v u/\Q v H'
def TP (X:Cx) (pins:List (Addr×Obj)) (σ:St) (Q:Bool->Hp->Prop) (b:Bool) (s':Shared):Prop:=∃H',Inv X pins σ H' s'/\Q b H'
def AP (X:Cx) (pins:List (Addr×Obj)) (σ:St) (Q:List V->Hp->Prop) (us:List Value) (s':Shared):Prop:=∃vs H',Inv X pins σ H' s'/\Vals vs us/\Q vs H'
def SP (X:Cx) (pins:List (Addr×Obj)) (D:Ends) (f:Flow) (s':Shared):Prop:=
 match f with
 | .next=>∃σ' H',Inv X pins σ' H' s'/\D.nx σ' H'
 | .brk=>∃σ' H',Inv X pins σ' H' s'/\D.bk σ' H'
 | .cont=>∃σ' H',Inv X pins σ' H' s'/\D.ct σ' H'
 | .ret u=>∃v σ' H',Inv X pins σ' H' s'/\RelV v u/\D.rt v H'
def PE (X:Cx) (e:Expr) (t:TE):Prop:=
 ∀(pins:List (Addr×Obj)) (s:Shared) (σ:St) (H:Hp) (Q:VK),Inv X pins σ H s->t σ H Q->wpAny (model X.prog X.w) X.A (eval e X.env) (EP X pins σ Q) X.xe s
def PT (X:Cx) (e:Expr) (t:TT):Prop:=
 ∀(pins:List (Addr×Obj)) (s:Shared) (σ:St) (H:Hp) (Q:Bool->Hp->Prop),Inv X pins σ H s->t σ H Q->wpAny (model X.prog X.w) X.A (isTrue e X.env (eval e X.env)) (TP X pins σ Q) X.xe s
def PW (X:Cx) (e:Expr) (t:TT):Prop:=
 ∀(whole:Sem Value) (pins:List (Addr×Obj)) (s:Shared) (σ:St) (H:Hp) (Q:Bool->Hp->Prop),Inv X pins σ H s->t σ H Q->wpAny (model X.prog X.w) X.A (isTrue e X.env whole) (TP X pins σ Q) X.xe s
theorem PW.pt {X:Cx}{e:Expr}{t:TT}(h:PW X e t):PT X e t:=h _
def PA (X:Cx) (es:List Expr) (t:TA):Prop:=
 ∀(pos:Pos) (pins:List (Addr×Obj)) (s:Shared) (σ:St) (H:Hp) (Q:List V->Hp->Prop),Inv X pins σ H s->t σ H Q->wpAny (model X.prog X.w) X.A (spliced (backTo pos (starEach es X.env))) (AP X pins σ Q) X.xe s
def PS (X:Cx) (st:Stmt) (t:TS):Prop:=
 ∀(pins:List (Addr×Obj)) (s:Shared) (σ:St) (H:Hp) (D:Ends),Inv X pins σ H s->t D σ H->wpAny (model X.prog X.w) X.A (exec st X.env) (SP X pins D) X.xe s
def PSs (X:Cx) (st:List Stmt) (t:TS):Prop:=
 ∀(pins:List (Addr×Obj)) (s:Shared) (σ:St) (H:Hp) (D:Ends),Inv X pins σ H s->t D σ H->wpAny (model X.prog X.w) X.A (execs st X.env) (SP X pins D) X.xe s
theorem thn {α:Type}{t:Sem α}{Q Q':α->Shared->Prop}{M:Model}{A:Around}{E:Value->Shared->Prop}{s:Shared}(h:wpAny M A t Q E s)(hQ:∀a s,Q a s->Q' a s):wpAny M A t Q' E s:=qB h hQ fun _ _ x=>x
section
variable {X:Cx}
def tVar (i:Nat):TE:=fun σ H Q=>∃v,σ[i]? =some (some v)/\Q v H
def tC (v:V):TE:=fun _ H Q=>Q v H
theorem a2R {i:Nat}{x:Str}{pos:Pos}(hN:X.N[i]? =some x)(hv:Vis X.env.scope x)(hd:(x==("__debug__":Str))=false:=by decide)(hcd:(x==("__classdict__":Str))=false:=by decide):PE X (.Name x pos) (tVar i):=by
 intro pins s σ H Q I h;obtain⟨v,e,h⟩:=h;obtain⟨m,hn,hl⟩:=I.loc;obtain⟨u,r,l⟩:=hl i x v hN e hv;have fin:EP X pins σ Q u s:=⟨v,H,I,r,h⟩;rcases l with ⟨hk,hm⟩|⟨hk,c,hc,hcell⟩
 ·exact wpAny_Name (wpAny_loadName_local I.ok.kind hk hn hm fin) hd
 ·rcases hk with hk|hk
  ·exact wpAny_Name (wpAny_loadName_cell I.ok.kind hk hc hcell fin) hd
  ·exact wpAny_Name (wpAny_loadName_free I.ok.kind hk hc hcell fin hcd) hd
theorem b0d {i j pos}:PE X (.Constant (.int i) j pos) (tC (.int i)):=fun _ _ _ H _ I h=>wpAny_Constant_int ⟨.int i,H,I.tok _,⟨_,rfl⟩,h⟩
theorem pe_bl {b j pos}:PE X (.Constant (.bool b) j pos) (tC (.bl b)):=fun _ _ _ H _ I h=>Constant_bool ⟨.bl b,H,I,rfl,h⟩
theorem a9k {j pos}:PE X (.Constant .none j pos) (tC .non):=fun _ _ _ H _ I h=>Constant_none ⟨.non,H,I,rfl,h⟩
theorem a9I {x j pos}:PE X (.Constant (.str x) j pos) (tC (.str x)):=fun _ _ _ H _ I h=>Calls.Constant_str ⟨.str x,H,I.tok _,⟨_,rfl⟩,h⟩
def Gl (X:Cx) (x:Str):Prop:=X.env.kindOf x=some .globalImplicit
theorem a7r {E:Value->Shared->Prop}{pins:List (Addr×Obj)}{s:Shared}{σ:St}{H:Hp}{x:Str}{u:Value}{pos:Pos}{Q:Value->Shared->Prop}(I:Inv X pins σ H s)(hg:Gl X x)(hm:X.mg x=some u)(h:Q u s)
  (hd:(x==("__debug__":Str))=false:=by decide):wpAny (model X.prog X.w) X.A (eval (.Name x pos) X.env) Q E s:=
 Calls.Name_function_global I.ok.kind hg (Calls.loadGlobal_global (by rw[I.ok.glob];exact I.mod.glob.keeps I.bk) hm h) hd
theorem K1 {E:Value->Shared->Prop}{pins:List (Addr×Obj)}{s:Shared}{σ:St}{H:Hp}{x:Str}{u:Value}{pos:Pos}{Q:Value->Shared->Prop}(I:Inv X pins σ H s)(hg:Gl X x)(hm:X.mg x=none)(hv:bootBuiltins x=some u)(h:Q u s)
  (hn:x≠"__name__":=by decide) (hd:(x==("__debug__":Str))=false:=by decide):wpAny (model X.prog X.w) X.A (eval (.Name x pos) X.env) Q E s:=by
 obtain⟨mb,h1,h2⟩:=I.mod.blt;exact Calls.Name_function_global I.ok.kind hg (Calls.loadGlobal_builtin (by rw[I.ok.glob];exact I.mod.glob.keeps I.bk) hm (by rw[I.ok.blt];exact h1.keeps I.bk) ((h2 x hn).trans hv) h) hd
theorem a7H {x:Str}{v:V}{u:Value}{pos:Pos}(hg:Gl X x)(hm:X.mg x=none)(hv:bootBuiltins x=some u)(r:RelV v u)(hn:x≠"__name__":=by decide)(hd:(x==("__debug__":Str))=false:=by decide):PE X (.Name x pos) (tC v):=
 fun _ _ _ H _ I h=>K1 I hg hm hv ⟨v,H,I,r,h⟩ hn hd
variable {a b:Expr}{ta tb:TE}{pos:Pos}
variable {tA tB':TT}{rest:List Expr}
def tAnd (t u:TT):TT:=fun σ H Q=>t σ H fun c H1=>if c=true then u σ H1 Q else Q false H1
def tOr (t u:TT):TT:=fun σ H Q=>t σ H fun c H1=>if c=true then Q true H1 else u σ H1 Q
def tNot (t:TT):TT:=fun σ H Q=>t σ H fun c H1=>Q (!c) H1
theorem pw_and1 (ha:PT X a tA):PW X (.BoolOp .And [a] pos) tA:=by
 intro wh pins s σ H Q I h;refine isTrue_and (thn (ha pins s σ H Q I h) fun c s1 e=>?_);cases c with
 | true=>exact isTrue_and_nil e
 | false=>exact e
theorem pw_or1 (ha:PT X a tA):PW X (.BoolOp .Or [a] pos) tA:=by
 intro wh pins s σ H Q I h;refine isTrue_or (thn (ha pins s σ H Q I h) fun c s1 e=>?_);cases c with
 | false=>exact isTrue_or_nil e
 | true=>exact e
theorem pw_and (ha:PT X a tA)(hb:PW X (.BoolOp .And (b::rest) pos) tB'):PW X (.BoolOp .And (a::b::rest) pos) (tAnd tA tB'):=by
 intro wh pins s σ H Q I h;refine isTrue_and (thn (ha pins s σ H _ I h) fun c s1 ⟨H1,I1,q1⟩=>?_);cases c with
 | true=>exact hb wh pins s1 σ H1 Q I1 q1
 | false=>exact⟨H1,I1,q1⟩
theorem pw_or (ha:PT X a tA)(hb:PW X (.BoolOp .Or (b::rest) pos) tB'):PW X (.BoolOp .Or (a::b::rest) pos) (tOr tA tB'):=by
 intro wh pins s σ H Q I h;refine isTrue_or (thn (ha pins s σ H _ I h) fun c s1 ⟨H1,I1,q1⟩=>?_);cases c with
 | true=>exact⟨H1,I1,q1⟩
 | false=>exact hb wh pins s1 σ H1 Q I1 q1
theorem a9K (ha:PT X a tA):PT X (.UnaryOp .Not a pos) (tNot tA):=by
 intro pins s σ H Q I h;exact isTrue_not (ha pins s σ H (fun c H1=>Q (!c) H1) I h)
def tAndV (ta tb:TE):TE:=fun σ H Q=>ta σ H fun x H1=>∃c,x= .bl c/\if c=true then tb σ H1 Q else Q (.bl false) H1
theorem a9i {op}{t:TE}(h:PE X a t):PE X (.BoolOp op [a] pos) t:=fun pins s σ H Q I hw=>BoolOp_one (h pins s σ H Q I hw)
theorem a9G (ha:PE X a ta)(hb:PE X (.BoolOp .And (b::rest) pos) tb):PE X (.BoolOp .And (a::b::rest) pos) (tAndV ta tb):=by
 intro pins s σ H Q I h;refine BoolOp_and (thn (ha pins s σ H _ I h) fun v s1 h0=>ex5 h0 fun x H1 I1 r1 q1=>?_);obtain⟨c,rfl,q1⟩:=q1;cases r1;refine wpAny_truthy_bool ?_;cases c with
 | true=>exact hb pins s1 σ H1 Q I1 q1
 | false=>exact⟨.bl false,H1,I1,rfl,q1⟩
def tIf (t:TT) (ta tb:TE):TE:=fun σ H Q=>t σ H fun c H1=>if c=true then ta σ H1 Q else tb σ H1 Q
theorem a7c {c:Expr}(hc:PT X c tA)(ha:PE X a ta)(hb:PE X b tb):PE X (.IfExp c a b pos) (tIf tA ta tb):=by
 intro pins s σ H Q I h;refine wpAny_IfExp (thn (hc pins s σ H _ I h) fun d s1 ⟨H1,I1,q1⟩=>?_);cases d with
 | true=>exact ha pins s1 σ H1 Q I1 q1
 | false=>exact hb pins s1 σ H1 Q I1 q1
end
def SqL (K:PySem.W.Frag) (H:Hp) (a:Addr) (xs:List V):Prop:=
 Rd H a (.lst xs)\/
  ∃(o:Obj) (its:Array Value) (n:Nat),K.lookup a=some o/\o.cls= .type "list"/\o.dict=none/\o.data= .seq its n/\its.size<=sizeLine/\Vals xs its.toList
def SqT (K:PySem.W.Frag) (H:Hp) (a:Addr) (xs:List V):Prop:=
 Rd H a (.tup xs)\/
  ∃(o:Obj) (its:Array Value) (n:Nat),K.lookup a=some o/\o.cls= .type "tuple"/\o.dict=none/\o.data= .seq its n/\its.size<=sizeLine/\Vals xs its.toList
def absV:Value->Option V
 | .none=>some .non
 | .bool b=>some (.bl b)
 | .int i _=>some (.int i)
 | .str x _=>some (.str x)
 | .bytes b _=>some (.byt b)
 | .float b _=>some (.flt b)
 | .ref a=>some (.ref a)
 | .type n=>some (.ty n)
 | _=>none
theorem RelV.abs {x:V}{u:Value}(r:RelV x u):absV u=some x:=by
 cases x with
 | non=>cases r;rfl
 | bl _=>cases r;rfl
 | int _=>obtain⟨t,rfl⟩:=r;rfl
 | str _=>obtain⟨t,rfl⟩:=r;rfl
 | byt _=>obtain⟨t,rfl⟩:=r;rfl
 | flt _=>obtain⟨t,rfl⟩:=r;rfl
 | ref _=>cases r;rfl
 | ty _=>cases r;rfl
theorem RelV.inj {x y:V}{u:Value}(r:RelV x u)(q:RelV y u):x=y:=qC (r.abs.symm.trans q.abs)
theorem Vals.inj:∀{xs ys:List V} {us:List Value},Vals xs us->Vals ys us->xs=ys
 | _,_,_,.nil,.nil=>rfl
 | _,_,_,.cons r t,.cons r' t'=>by rw[r.inj r',Vals.inj t t']
section
variable {X:Cx}{pins:List (Addr×Obj)}{σ:St}{H:Hp}{s:Shared}{a:Addr}{xs ys:List V}
theorem SqL.of {K:PySem.W.Frag}(h:H a=some (.lst xs)):SqL K H a xs:=.inl (.inl h)
theorem SqT.of {K:PySem.W.Frag}(h:H a=some (.tup xs)):SqT K H a xs:=.inl (.inl h)
theorem Inv.list (I:Inv X pins σ H s)(h:SqL X.K H a xs):∃its:List Value,Vals xs its/\PlainL s.heap a its.toArray/\xs.length<=sizeLine:=by
 rcases h with h|⟨o,its,n,hk,hc,hd,hs,hz,r⟩
 ·obtain⟨z,its,n,r,e⟩:=h.ok I.hok;exact⟨its,r,⟨_,n,e,rfl,rfl,rfl⟩,z⟩
 ·refine⟨its.toList,r,⟨o,n,I.kIn a o hk,hc,hd,by simpa using hs⟩,?_⟩
  have e:=r.length;simp only[qD] at e;walk_at "o"
theorem Inv.tupN (I:Inv X pins σ H s)(h:SqT X.K H a xs):∃its:List Value,Vals xs its/\TupN s.heap a its.toArray/\xs.length<=sizeLine:=by
 rcases h with h|⟨o,its,n,hk,hc,hd,hs,hz,r⟩
 ·obtain⟨z,its,r,p⟩:=h.ok I.hok;exact⟨its,r,p,z⟩
 ·refine⟨its.toList,r,⟨o,I.kIn a o hk,hc,⟨n,by simpa using hs⟩,hd⟩,?_⟩
  have e:=r.length;simp only[qD] at e;walk_at "o"
theorem Inv.tuple (I:Inv X pins σ H s)(h:SqT X.K H a xs):∃its:List Value,Vals xs its/\IsTup s.heap a its.toArray/\xs.length<=sizeLine:=let ⟨its,r,p,z⟩:=I.tupN h;⟨its,r,p.is,z⟩
theorem Inv.list_inj (I:Inv X pins σ H s)(h:SqL X.K H a xs)(h':SqL X.K H a ys):xs=ys:=by
 obtain⟨its,r,⟨o,n,e,_,_,d⟩,_⟩:=I.list h;obtain⟨its',r',⟨o',n',e',_,_,d'⟩,_⟩:=I.list h';rw[e] at e';cases e';rw[d] at d';injection d' with d1 _
 have:its=its':=by simpa using xG Array.toList d1
 subst this;exact r.inj r'
theorem Inv.tuple_inj (I:Inv X pins σ H s)(h:SqT X.K H a xs)(h':SqT X.K H a ys):xs=ys:=by
 obtain⟨its,r,⟨o,e,_,n,d⟩,_⟩:=I.tuple h;obtain⟨its',r',⟨o',e',_,n',d'⟩,_⟩:=I.tuple h';rw[e] at e';cases e';rw[d] at d';injection d' with d1 _
 have:its=its':=by simpa using xG Array.toList d1
 subst this;exact r.inj r'
end
abbrev Cx.wish (X:Cx) (E:Value->Shared->Prop):Cx:={X with xe:=E}
abbrev Cx.nox (X:Cx):Cx:=X.wish fun _ _=>False
theorem Cx.Ok.wish {X:Cx}(ok:X.Ok)(E:Value->Shared->Prop):(X.wish E).Ok:=
 ⟨ok.mod,ok.kind,ok.glob,ok.blt,ok.above,ok.inj,ok.has,ok.cab,ok.hd,ok.frames,ok.stk,ok.exf,ok.bs,ok.bsz,ok.noex,ok.exfs,ok.funs,ok.frf⟩
theorem Cx.Ok.unwish {X:Cx}{E:Value->Shared->Prop}(ok:(X.wish E).Ok):X.Ok:=
 ⟨ok.mod,ok.kind,ok.glob,ok.blt,ok.above,ok.inj,ok.has,ok.cab,ok.hd,ok.frames,ok.stk,ok.exf,ok.bs,ok.bsz,ok.noex,ok.exfs,ok.funs,ok.frf⟩
section
variable {X:Cx}{pins:List (Addr×Obj)}{σ:St}{H:Hp}{s:Shared}{E:Value->Shared->Prop}
theorem Inv.wish (I:Inv X pins σ H s)(E:Value->Shared->Prop):Inv (X.wish E) pins σ H s:=⟨I.ok.wish E,I.os,I.bare,I.base,I.loc,I.cell,I.free,I.freeC,I.pin,I.hok,I.len⟩
theorem Inv.unwish (I:Inv (X.wish E) pins σ H s):Inv X pins σ H s:=⟨I.ok.unwish,I.os,I.bare,I.base,I.loc,I.cell,I.free,I.freeC,I.pin,I.hok,I.len⟩
theorem SP.unwish {D:Ends}{f:Flow}{s':Shared}(h:SP (X.wish E) pins D f s'):SP X pins D f s':=by
 cases f with
 | next=>obtain⟨σ',H',I,q⟩:=h;exact⟨σ',H',I.unwish,q⟩
 | brk=>obtain⟨σ',H',I,q⟩:=h;exact⟨σ',H',I.unwish,q⟩
 | cont=>obtain⟨σ',H',I,q⟩:=h;exact⟨σ',H',I.unwish,q⟩
 | ret u=>obtain⟨v,σ',H',I,r,q⟩:=h;exact⟨v,σ',H',I.unwish,r,q⟩
theorem PSs.nox {st:List Stmt}{t:TS}(h:PSs X.nox st t):PSs X st t:=fun pins s σ H D I hw=>
 qB (h pins s σ H D (I.wish _) hw) (fun _ _ q=>q.unwish) fun _ _ z=>False.elim z
end
section
variable {X:Cx}{st:Stmt}{rest:List Stmt}{t u:TS}{e:Expr}{te:TE}{pos:Pos}
def tNext:TS:=fun D σ H=>D.nx σ H
def tSeq (t u:TS):TS:=fun D σ H=>t {D with nx:=u D} σ H
theorem a7Q:PSs X [] tNext:=fun _ _ σ H _ I h=>wpAny_execs_nil ⟨σ,H,I,h⟩
theorem a6F (h1:PS X st t)(h2:PSs X rest u):PSs X (st::rest) (tSeq t u):=by
 intro pins s σ H D I h;refine wpAny_execs_cons (thn (h1 pins s σ H {D with nx:=u D} I h) fun f s1 q=>?_)
 cases f with
 | next=>
  obtain⟨σ',H',I',q⟩:=q;exact h2 pins s1 σ' H' D I' q
 | ret v=>exact q
 | brk=>exact q
 | cont=>exact q
theorem a7U (h1:PS X st t):PSs X [st] t:=by
 intro pins s σ H D I h;refine wpAny_execs_cons (thn (h1 pins s σ H D I h) fun f s1 q=>?_);cases f with
 | next=>exact wpAny_execs_nil q
 | ret v=>exact q
 | brk=>exact q
 | cont=>exact q
theorem Inv.quiet {pins:List (Addr×Obj)}{σ:St}{H:Hp}{s:Shared}(I:Inv X pins σ H s):interactive X.env=false:=by simp[interactive,I.ok.kind]
def tDrop (te:TE):TS:=fun D σ H=>te σ H fun _ H1=>D.nx σ H1
theorem a7X (he:PE X e te)(hs:swapsWith e none pos.line X.env=pure false:=by rfl):PS X (.Expr e pos) (tDrop te):=by
 intro pins s σ H D I h;exact wpAny_Expr_any (thn (he pins s σ H _ I h) fun v s1 h0=>ex5 h0 fun x H1 I1 r1 q1=>⟨σ,H1,I1,q1⟩) I.quiet hs
def tRet (te:TE):TS:=fun D σ H=>te σ H D.rt
theorem a96 (he:PE X e te):PS X (.Return (some e) pos) (tRet te):=by
 intro pins s σ H D I h;exact wpAny_Return_some (thn (he pins s σ H _ I h) fun v s1 h0=>ex5 h0 fun x H1 I1 r1 q1=>⟨x,σ,H1,I1,r1,q1⟩)
def tIfS (c:TT) (t u:TS):TS:=fun D σ H=>c σ H fun b H1=>if b=true then t D σ H1 else u D σ H1
theorem ps_if {c:Expr}{a b:List Stmt}{tc:TT}(hc:PT X c tc)(ha:PSs X a t)(hb:PSs X b u):PS X (.If c a b pos) (tIfS tc t u):=by
 intro pins s σ H D I h;refine wpAny_If (thn (hc pins s σ H _ I h) fun d s1 ⟨H1,I1,q1⟩=>?_);cases d with
 | true=>exact ha pins s1 σ H1 D I1 q1
 | false=>exact hb pins s1 σ H1 D I1 q1
end
abbrev TG:=V->St->Hp->(St->Hp->Prop)->Prop
abbrev TGs:=List V->St->Hp->(St->Hp->Prop)->Prop
def PG (X:Cx) (target:Expr) (t:TG):Prop:=
 ∀(pins:List (Addr×Obj)) (s:Shared) (σ:St) (H:Hp) (v:V) (u:Value) (Q:St->Hp->Prop),Inv X pins σ H s->RelV v u->t v σ H Q->
  wpAny (model X.prog X.w) X.A (assign target X.env u) (fun _ s'=>∃σ' H',Inv X pins σ' H' s'/\Q σ' H') X.xe s
def PGs (X:Cx) (ts:List Expr) (t:TGs):Prop:=
 ∀(pins:List (Addr×Obj)) (s:Shared) (σ:St) (H:Hp) (vs:List V) (us:List Value) (Q:St->Hp->Prop),Inv X pins σ H s->Vals vs us->t vs σ H Q->
  wpAny (model X.prog X.w) X.A (assignInOrder ((assignEach ts X.env).map (·.2)) us) (fun _ s'=>∃σ' H',Inv X pins σ' H' s'/\Q σ' H') X.xe s
abbrev TSet:=V->V->V->Hp->(Hp->Prop)->Prop
def PSet (X:Cx) (t:TSet):Prop:=
 ∀(pins:List (Addr×Obj)) (s:Shared) (σ:St) (H:Hp) (o i v:V) (ov iv u:Value) (Q:Hp->Prop),Inv X pins σ H s->RelV o ov->RelV i iv->RelV v u->t o i v H Q->
  wpAny (model X.prog X.w) X.A (setItem ov iv u) (fun _ s'=>∃H',Inv X pins σ H' s'/\Q H') X.xe s
abbrev TIp:=V->V->Hp->VK->Prop
def PIp (X:Cx) (op:Operator) (t:TIp):Prop:=
 ∀(pins:List (Addr×Obj)) (s:Shared) (σ:St) (H:Hp) (x y:V) (v u:Value) (Q:VK),Inv X pins σ H s->RelV x v->RelV y u->t x y H Q->
  wpAny (model X.prog X.w) X.A (inplaceOp op v u) (EP X pins σ Q) X.xe s
section
variable {X:Cx}{pos:Pos}
def gName (i:Nat):TG:=fun v σ H Q=>Q (σ.set i (some v)) H
theorem a7Y {i:Nat}{x:Str}(hN:X.N.Nodup)(hi:X.N[i]? =some x)(hx:Loc X.env.scope x)(hf:X.fn x=true\/X.env.scope.names.lookup x=some .local:=by first|exact .inl rfl|exact .inr rfl|assumption):PG X (.Name x pos) (gName i):=by
 intro pins s σ H v u Q I r h;exact wpAny_assign_Name (a0m I hN hi hx r (fun s' I'=>⟨_,H,I',h⟩) hf)
def gNil:TGs:=fun vs σ H Q=>vs=[]/\Q σ H
def gCons (t:TG) (u:TGs):TGs:=fun vs σ H Q=>∃v r,vs=v::r/\t v σ H fun σ' H'=>u r σ' H' Q
theorem a7C:PGs X [] gNil:=by
 intro pins s σ H vs us Q I r h;obtain⟨e,h⟩:=h;subst e;cases r;exact assignInOrder_nil ⟨σ,H,I,h⟩
theorem a5w {e:Expr}{es:List Expr}{t:TG}{u:TGs}(h1:PG X e t)(h2:PGs X es u)
  (hs:(assignEach (e::es) X.env).map (·.2)=assign e X.env::(assignEach es X.env).map (·.2):=by rfl):PGs X (e::es) (gCons t u):=by
 intro pins s σ H vs us Q I r h;obtain⟨v,vr,e1,h⟩:=h;subst e1;cases r with
 | cons r rr=>
  rw[hs];refine assignInOrder_cons (thn (h1 pins s σ H _ _ _ I r h) fun _ s1 ⟨σ1,H1,I1,q1⟩=>?_);exact h2 pins s1 σ1 H1 _ _ Q I1 rr q1
def gTup (K:PySem.W.Frag) (n:Nat) (t:TGs):TG:=fun v σ H Q=>∃a xs,v= .ref a/\SqT K H a xs/\xs.length=n/\t xs σ H Q
theorem a9U {es:List Expr}{k:Nat}{t:TGs}{n:Nat}(hc:X.calm=true)(h:PGs X es t)
  (hn:(assignEach es X.env).length=n:=by rfl) (hst:(assignEach es X.env).findIdx? (·.1)=none:=by rfl):PG X (.Tuple es k pos) (gTup X.K n t):=by
 intro pins s σ H v u Q I r hw;obtain⟨a,xs,e1,hq,hl,hw⟩:=hw;subst e1;cases r;obtain⟨its,rv,ht,hz⟩:=I.tuple hq;refine assign_Tuple_tuple (I.ok.hd hc) ht (by simp[hn,<-hl,rv.length]) hst fun h' hx=>?_
 have I1:Inv X pins σ H {s with heap:=h'}:=I.kept (t':=s.toks) fun b o e=>hx b o (zG (zS e)) e
 exact h pins _ σ H xs _ Q I1 (by simpa using rv) hw
def gSub (to ti:TE) (t:TSet):TG:=fun v σ H Q=>to σ H fun o H1=>ti σ H1 fun i H2=>t o i v H2 fun H3=>Q σ H3
theorem b0a {o i:Expr}{to ti:TE}{t:TSet}(ho:PE X o to)(hi:PE X i ti)(hs:PSet X t)
  (ha:∀v,assign (.Subscript o i pos) X.env v=(do
   let ov <-holding [v] (eval o X.env)
   let iv <-holding [v,ov] (eval i X.env)
   standAt pos
   holding [v,ov,iv] (setItem ov iv v)
   release [v,ov,iv] []):=by intro _;rfl):PG X (.Subscript o i pos) (gSub to ti t):=by
 intro pins s σ H v u Q I r h;rw[ha];refine zA (qM (thn (ho pins s σ H _ I h) fun ov s1 h0=>ex5 h0 fun x H1 I1 r1 q1=>?_));refine zA (qM (thn (hi pins s1 σ H1 _ I1 q1) fun iv s2 h0=>ex5 h0 fun y H2 I2 r2 q2=>?_));refine zA (wpAny_standAt (zA (qM (thn (hs pins s2 σ H2 x y v ov iv u _ I2 r1 r2 r q2) fun _ s3 ⟨H3,I3,q3⟩=>?_))));exact wpAny_release ⟨σ,H3,I3,q3⟩
def tAsg (te:TE) (g:TG):TS:=fun D σ H=>te σ H fun x H1=>g x σ H1 D.nx
theorem a9g {tg e:Expr}{te:TE}{g:TG}(he:PE X e te)(hg:PG X tg g)(hs:swapsWithSole [tg] e pos.line X.env=pure false:=by rfl)(hw:swappedStores [tg] e X.env=pure none:=by rfl)
  (h1:(assignEach [tg] X.env).map (·.2)=[assign tg X.env]:=by rfl):PS X (.Assign [tg] e pos) (tAsg te g):=by
 intro pins s σ H D I h;refine wpAny_Assign_stores (thn (he pins s σ H _ I h) fun v s1 h0=>ex5 h0 fun x H1 I1 r1 q1=>?_) hs hw;rw[h1];exact thn (hg pins s1 σ H1 x v _ I1 r1 q1) fun _ s2 q=>q
theorem a9R {i:Nat}{x:Str}{e:Expr}{te:TE}{pos':Pos}(hN:X.N.Nodup)(hi:X.N[i]? =some x)(hx:Loc X.env.scope x)(he:PE X e te)(hs:swapsWith e (some (.Name x pos')) pos.line X.env=pure false:=by rfl)(hf:X.fn x=true\/X.env.scope.names.lookup x=some .local:=by first|exact .inl rfl|exact .inr rfl|assumption):
  PS X (.Assign [.Name x pos'] e pos) (tAsg te (gName i)):=by
 intro pins s σ H D I h;refine wpAny_Assign_Name (thn (he pins s σ H _ I h) fun v s1 h0=>ex5 h0 fun y H1 I1 r1 q1=>?_) hs;exact a0m I1 hN hi hx r1 (fun s2 I2=>⟨_,H1,I2,q1⟩) hf
def tAug (i:Nat) (te:TE) (ti:TIp):TS:=fun D σ H=>∃x,σ[i]? =some (some x)/\te σ H fun y H1=>ti x y H1 fun z H2=>D.nx (σ.set i (some z)) H2
theorem a9v {i:Nat}{x:Str}{e:Expr}{te:TE}{op:Operator}{ti:TIp}{pos':Pos}(hN:X.N.Nodup)(hi:X.N[i]? =some x)(hx:Loc X.env.scope x)(he:PE X e te)(ho:PIp X op ti)(hf:X.fn x=true\/X.env.scope.names.lookup x=some .local:=by first|exact .inl rfl|exact .inr rfl|assumption):
  PS X (.AugAssign (.Name x pos') op e pos) (tAug i te ti):=by
 intro pins s σ H D I h;obtain⟨v,e1,h⟩:=h;obtain⟨m,hn,hl⟩:=I.loc;have vis:Vis X.env.scope x:=by rcases hx with k|k;exact .inl k;exact .inr (.inl k)
 obtain⟨u,r,l⟩:=hl i x v hi e1 vis;refine wpAny_AugAssign_Name ?_;have go:wpAny (model X.prog X.w) X.A (eval e X.env) (fun w s₂=>wpAny (model X.prog X.w) X.A (inplaceOp op u w) (fun r s₃=>wpAny (model X.prog X.w) X.A (storeName X.env x r) (fun _=>SP X pins D .next) X.xe s₃) X.xe s₂) X.xe s:=by
  refine thn (he pins s σ H _ I h) fun w s1 h0=>ex5 h0 fun y H1 I1 r1 q1=>?_;refine thn (ho pins s1 σ H1 v y u w _ I1 r r1 q1) fun z s2 h0=>ex5 h0 fun zv H2 I2 r2 q2=>?_;exact a0m I2 hN hi hx r2 (fun s3 I3=>⟨_,H2,I3,q2⟩) hf
 rcases l with ⟨hk,hm⟩|⟨hk,c,hc,hcell⟩
 ·exact wpAny_loadName_local I.ok.kind hk hn hm go
 ·rcases hk with hk|hk
  ·exact wpAny_loadName_cell I.ok.kind hk hc hcell go
  ·rcases hx with k|k
   ·have:X.env.scope.names.lookup x=some .free:=hk
    rw[k] at this;cases this
   ·have:X.env.scope.names.lookup x=some .free:=hk
    rw[k] at this;cases this
end
section
variable {X:Cx}{pos:Pos}
def tWhile (c:TT) (tb:TS):TS:=fun D σ H=>∃W:Nat->St->Hp->Prop,(∃m,W m σ H)/\∀m σ H,W m σ H->
 c σ H fun b H1=>if b=true then ∃N:St->Hp->Prop,(∀σ' H',N σ' H'->∃m',m'<m/\W m' σ' H')/\tb {D with nx:=N,ct:=N,bk:=D.nx} σ H1 else D.nx σ H1
theorem a5z {c:Expr}{body:List Stmt}{tc:TT}{tb:TS}(hp:PassesOwn (model X.prog X.w) X.A X.env X.xe)(hc:PT X c tc)(hb:PSs X body tb):PS X (.While c body [] pos) (tWhile tc tb):=by
 intro pins s σ H D I h;obtain⟨W,⟨m0,w0⟩,turn⟩:=h;refine wpAny_While (codeAny_whileLoop (fun n s'=>∃σ' H',Inv X pins σ' H' s'/\W n σ' H') ?_ m0 ⟨σ,H,I,w0⟩);rintro n s1 ⟨σ1,H1,I1,w1⟩;refine xF hp (thn (hc pins s1 σ1 H1 _ I1 (turn n σ1 H1 w1)) fun b s2 ⟨H2,I2,q2⟩=>?_);cases b with
 | true=>
  obtain⟨N,hN,q2⟩:=q2;rw[if_pos rfl];refine xF hp (thn (hb pins s2 σ1 H2 _ I2 q2) fun f s3 q3=>?_);cases f with
  | next=>
   obtain⟨σ3,H3,I3,n3⟩:=q3;obtain⟨m',hm,w3⟩:=hN σ3 H3 n3;exact⟨m',hm,σ3,H3,I3,w3⟩
  | cont=>
   obtain⟨σ3,H3,I3,n3⟩:=q3;obtain⟨m',hm,w3⟩:=hN σ3 H3 n3;exact⟨m',hm,σ3,H3,I3,w3⟩
  | brk=>exact q3
  | ret v=>exact q3
 | false=>
  rw[if_neg zP];exact wpAny_execs_nil ⟨σ1,H2,I2,q2⟩
end
structure It where
 go:Nat->Hp->Prop
 yld:Nat->Hp->V->Hp->Prop
 stop:Nat->Hp->Prop
def FpOk (X:Cx) (pins:List (Addr×Obj)) (H:Hp) (b:Addr):Prop:=
 H b=none/\b≠X.env.locals/\b∉X.fs/\(b∈X.ex\/X.s₀.heap.objs.size<=b)/\(∀x c,X.env.cells.lookup x=some c->c≠b)/\∀p∈X.pn++pins,p.1≠b
theorem Inv.fpOk {X:Cx}{pins:List (Addr×Obj)}{σ:St}{H H':Hp}{s:Shared}{b:Addr}(I:Inv X pins σ H s)(hb:s.heap.objs.size<=b)(hn:H' b=none):FpOk X pins H' b:=by
 refine⟨hn,xE (zF I.lt hb),I.nofs hb,.inr (qH I.sz hb),fun x c e z=>?_,fun p hp z=>?_⟩
 ·obtain⟨v,q⟩:=I.cell x c e;exact absurd (zF q.lt (by rw[z];exact hb)) (jD _)
 ·exact absurd (zF (zS (I.pin p hp).1) (by rw[z];exact hb)) (jD _)
structure Turn (P:Program) (w:World) (K:PySem.W.Frag) (tg:Expr) (J:It) (fp:List Addr) (it:Addr) (tn:Nat->Heap->Prop):Prop where
 mem:it∈fp
 obj:∀i h,tn i h->∀b∈fp,∃o,h.get? b=some o/\∀v,o.data≠.cell v
 keep:∀i h h',tn i h->(∀b∈fp,∀o,h.get? b=some o->h'.get? b=some o)->tn i h'
 item:∀(X:Cx),X.prog=P->X.w=w->X.K=K->X.calm=true->∀(i:Nat) (pins:List (Addr×Obj)) (s:Shared) (σ:St) (H:Hp) (E:Value->Shared->Prop),Inv X pins σ H s->(∀b∈fp,FpOk X pins H b)->tn i s.heap->J.go i H->
  wpAny (model P w) X.A (pyNext (.ref it)) (fun r s1=>∃u,r=some u/\
   wpAny (model P w) X.A (letOwnedTupleGo tg (.ref it) u) (fun _ s2=>∃x H',Inv X pins σ H' s2/\RelV x u/\J.yld i H x H'/\tn (i+1) s2.heap/\∀b∈fp,H' b=none) E s1) E s
 done:∀(X:Cx),X.prog=P->X.w=w->X.K=K->X.calm=true->∀(i:Nat) (pins:List (Addr×Obj)) (s:Shared) (σ:St) (H:Hp) (E:Value->Shared->Prop),Inv X pins σ H s->(∀b∈fp,FpOk X pins H b)->tn i s.heap->J.stop i H->
  wpAny (model P w) X.A (pyNext (.ref it)) (fun r s1=>r=none/\Inv X pins σ H s1) E s
 self:∀(A:Around) (i:Nat) (s:Shared) (Q:Value->Shared->Prop) (E:Value->Shared->Prop),tn i s.heap->Q (.ref it) s->wpAny (model P w) A (pyIter (.ref it)) Q E s
abbrev TI:=St->Hp->(It->Hp->Prop)->Prop
def PIE (X:Cx) (pins:List (Addr×Obj)) (σ:St) (tg:Expr) (R:It->Hp->Prop) (itv:Value) (s2:Shared):Prop:=
 ∃(it:Addr) (fp:List Addr) (tn:Nat->Heap->Prop) (J:It) (H':Hp),itv= .ref it/\Inv X pins σ H' s2/\Turn X.prog X.w X.K tg J fp it tn/\tn 0 s2.heap/\(∀b∈fp,FpOk X pins H' b)/\R J H'
def PI (X:Cx) (tg iter:Expr) (wi:TI):Prop:=
 ∀(pins:List (Addr×Obj)) (s:Shared) (σ:St) (H:Hp) (R:It->Hp->Prop),Inv X pins σ H s->wi σ H R->
  wpAny (model X.prog X.w) X.A (eval iter X.env) (fun v s1=>wpAny (model X.prog X.w) X.A (pyIter v) (PIE X pins σ tg R) X.xe s1) X.xe s
theorem a5g {M:Model}{A:Around}{E:Value->Shared->Prop}{s:Shared}{tg:Expr}{it:Addr}{u:Value}{o:Obj}{n:String}{vs:Array Value}{Q:Unit->Shared->Prop}(ho:s.heap.get? it=some o)(hc:o.cls= .type n)(hd:o.data= .fields vs)
  (hn:["enumerate","zip","dict_itemiterator","dict_reverseitemiterator","odict_iterator","itertools.zip_longest","itertools.pairwise"].contains n=false) (hQ:Q () s):wpAny M A (letOwnedTupleGo tg (.ref it) u) Q E s:=by
 unfold letOwnedTupleGo;cases tg<;>first
  | exact zB hQ
  | (cases u<;>first
    | exact zB hQ
    | (refine zA (wpAny_load ho ?_)
       rw[hc,hd];show wpAny M A (if(["enumerate","zip","dict_itemiterator","dict_reverseitemiterator","odict_iterator","itertools.zip_longest","itertools.pairwise"].contains n&&vs[0]? == some (rawInt _))=true then _ else _) Q E s;rw[if_neg (by intro h;rw[hn,Bool.false_and] at h;cases h)]
       exact zB hQ))
def Itl (K:PySem.W.Frag) (a:Addr):It:=
 ⟨fun i H=>∃xs x,SqL K H a xs/\xs[i]? =some x,fun i H x H'=>H'=H/\∀xs,SqL K H a xs->xs[i]? =some x,fun i H=>∃xs,SqL K H a xs/\xs.length<=i⟩
def Itt (K:PySem.W.Frag) (a:Addr):It:=
 ⟨fun i H=>∃xs x,SqT K H a xs/\xs[i]? =some x,fun i H x H'=>H'=H/\∀xs,SqT K H a xs->xs[i]? =some x,fun i H=>∃xs,SqT K H a xs/\xs.length<=i⟩
def Itr (lo:Int) (n:Nat):It:=⟨fun i _=>i<n,fun i H x H'=>H'=H/\x= .int (lo+i),fun i _=>n<=i⟩
theorem a4N {P:Program}{w:World}{K:PySem.W.Frag}{tg:Expr}(a it:Addr):Turn P w K tg (Itl K a) [it] it (fun i h=>h.IsListIter it a i) where
 mem:=by simp
 obj:=fun i h st b hb=>by
  have e:b=it:=by simpa using hb
  subst e;obtain⟨o,e,c,d⟩:=st;exact⟨o,e,fun v z=>by rw[d] at z;cases z⟩
 keep:=fun i h h' st k=>st.at fun o e=>k it (by simp) o e
 item:=by
  intro X hP hw hK hc i pins s σ H E I hf st hg;subst hP hw hK;obtain⟨xs,x,hq,hx⟩:=hg;obtain⟨its,rv,p,hz⟩:=I.list hq;obtain⟨u,hu,ru⟩:=rv.get hx;obtain⟨f0,f1,f2,f3,f4,f5⟩:=hf it (by simp)
  refine wpAny_pyNext_list_item st p.isList (x:=u) (by simpa using hu) fun h' st' sb=>?_
  have I1:Inv X pins σ H {s with heap:=h'}:=I.turned (t':=s.toks) (fun b o hb e=>(sb.2 b hb).trans e) f0 f1 f3 f4 f5
  obtain⟨o,e,c,d⟩:=id st';exact⟨u,rfl,a5g (s:={s with heap:=h'}) e c d (by decide) ⟨x,H,I1,ru,⟨rfl,fun ys hy=>by rw[I.list_inj hy hq];exact hx⟩,st',fun b hb=>(hf b hb).1⟩⟩
 done:=by
  intro X hP hw hK hc i pins s σ H E I hf st hg;subst hP hw hK;obtain⟨xs,hq,hx⟩:=hg;obtain⟨its,rv,p,hz⟩:=I.list hq;obtain⟨f0,f1,f2,f3,f4,f5⟩:=hf it (by simp)
  have hl:=rv.length;exact wpAny_pyNext_list_end (I.ok.hd hc) st p.isList (by simp;walk_at "o") fun h' eb=>⟨rfl,I.turned (t':=s.toks) (fun b o hb e=>eb b o hb e) f0 f1 f3 f4 f5⟩
 self:=fun _ _ _ _ _ st h=>wpAny_pyIter_listiter st h
theorem a2z {P:Program}{w:World}{K:PySem.W.Frag}{tg:Expr}(a it:Addr):Turn P w K tg (Itt K a) [it] it (fun i h=>h.IsTupleIter it a i) where
 mem:=by simp
 obj:=fun i h st b hb=>by
  have e:b=it:=by simpa using hb
  subst e;obtain⟨o,e,c,d⟩:=st;exact⟨o,e,fun v z=>by rw[d] at z;cases z⟩
 keep:=fun i h h' st k=>st.at fun o e=>k it (by simp) o e
 item:=by
  intro X hP hw hK hc i pins s σ H E I hf st hg;subst hP hw hK;obtain⟨xs,x,hq,hx⟩:=hg;obtain⟨its,rv,p,hz⟩:=I.tuple hq;obtain⟨u,hu,ru⟩:=rv.get hx;obtain⟨f0,f1,f2,f3,f4,f5⟩:=hf it (by simp)
  refine wpAny_pyNext_tuple_item st (show s.heap.IsTuple a its.toArray from p) (x:=u) (by simpa using hu) fun h' st' sb=>?_
  have I1:Inv X pins σ H {s with heap:=h'}:=I.turned (t':=s.toks) (fun b o hb e=>(sb.2 b hb).trans e) f0 f1 f3 f4 f5
  obtain⟨o,e,c,d⟩:=id st';exact⟨u,rfl,a5g (s:={s with heap:=h'}) e c d (by decide) ⟨x,H,I1,ru,⟨rfl,fun ys hy=>by rw[I.tuple_inj hy hq];exact hx⟩,st',fun b hb=>(hf b hb).1⟩⟩
 done:=by
  intro X hP hw hK hc i pins s σ H E I hf st hg;subst hP hw hK;obtain⟨xs,hq,hx⟩:=hg;obtain⟨its,rv,p,hz⟩:=I.tuple hq;obtain⟨f0,f1,f2,f3,f4,f5⟩:=hf it (by simp)
  have hl:=rv.length;exact wpAny_pyNext_tuple_end (I.ok.hd hc) st (show s.heap.IsTuple a its.toArray from p) (by simp;walk_at "o") fun h' eb=>⟨rfl,I.turned (t':=s.toks) (fun b o hb e=>eb b o hb e) f0 f1 f3 f4 f5⟩
 self:=fun _ _ _ _ _ st h=>wpAny_pyIter_tupleiter st h
theorem a2M {P:Program}{w:World}{K:PySem.W.Frag}{tg:Expr}(it:Addr)(lo:Int)(n:Nat):Turn P w K tg (Itr lo n) [it] it (fun i h=>IsRangeIter h it (lo+(i:Nat)*1) ((n:Int)-(i:Nat)) 1) where
 mem:=by simp
 obj:=fun i h st b hb=>by
  have e:b=it:=by simpa using hb
  subst e
  exact⟨_,st,fun v z=>by
   have z':Data.fields _=Data.cell v:=z
   cases z'⟩
 keep:=fun i h h' st k=>k it (by simp) _ st
 item:=by
  intro X hP hw hK hc i pins s σ H E I hf st hg;subst hP hw hK;obtain⟨f0,f1,f2,f3,f4,f5⟩:=hf it (by simp)
  have W:=Walks.range (prog:=X.prog) (w:=X.w) (I.ok.hd hc) it lo 1 n;refine W.item i s _ _ hg st fun v h' tk hv st' kk=>?_;obtain⟨t,rfl⟩:=hv;have I1:Inv X pins σ H {s with heap:=h',toks:=tk}:=I.turned (fun b o hb e=>kk b o (by simpa using hb) e) f0 f1 f3 f4 f5
  refine⟨_,rfl,a5g (s:={s with heap:=h',toks:=tk}) (n:="range_iterator") st' rfl rfl (by decide) ⟨.int (lo+i),H,I1,⟨t,?_⟩,⟨rfl,rfl⟩,st',fun b hb=>(hf b hb).1⟩⟩
  rw[Int.mul_one]
 done:=by
  intro X hP hw hK hc i pins s σ H E I hf st hg;subst hP hw hK;obtain⟨f0,f1,f2,f3,f4,f5⟩:=hf it (by simp)
  exact wpAny_pyNext_range_end (I.ok.hd hc) st (by have:n<=i:=hg;walk_at "o") fun h' eb=>⟨rfl,I.turned (t':=s.toks) (fun b o hb e=>eb b o hb e) f0 f1 f3 f4 f5⟩
 self:=fun _ _ _ _ _ st h=>wpAny_pyIter_rangeiter st h
section
variable {X:Cx}{tg:Expr}
theorem a2n {pins:List (Addr×Obj)}{σ:St}{H:Hp}{s:Shared}{R:It->Hp->Prop}{E:Value->Shared->Prop}{lo hi:Int}{t u v:Tok}{tk:Nat}(I:Inv X pins σ H s)(h1:-(2^62)<=lo)(h2:lo<2^62)(h3:-(2^62)<=hi)(h4:hi<2^62)
  (q:R (Itr lo (hi-lo).toNat) H):wpAny (model X.prog X.w) X.A (pyIter (.ref s.heap.objs.size)) (PIE X pins σ tg R) E {s with heap:=s.heap.push {cls:=.type "range",data:=.fields #[.int lo t,.int hi u,.int 1 v]},toks:=tk}:=by
 refine wpAny_pyIter_range (IsRange.new ..) (small_one h1 h2 h3 h4) ?_;have I1:Inv X pins σ H {s with heap:=s.heap.push {cls:=.type "range",data:=.fields #[.int lo t,.int hi u,.int 1 v]},toks:=tk}:=I.kept fun b o e=>zC _ e
 refine⟨(s.heap.push {cls:=.type "range",data:=.fields #[.int lo t,.int hi u,.int 1 v]}).objs.size,[(s.heap.push {cls:=.type "range",data:=.fields #[.int lo t,.int hi u,.int 1 v]}).objs.size],_,_,H,rfl,
  I1.kept (t':=tk) fun b o e=>zC _ e,a2M _ lo (hi-lo).toNat,?_,fun b hb=>?_,q⟩
 ·have e1:lo+((0:Nat):Int)*1=lo:=by simp
  have e2:(((hi-lo).toNat:Nat):Int)-((0:Nat):Int)=Builtin.Range.rangeSize lo hi 1:=by rw[rangeSize_one];split<;>walk_at "o"
  show IsRangeIter _ _ (lo+((0:Nat):Int)*1) ((((hi-lo).toNat:Nat):Int)-((0:Nat):Int)) 1;rw[e1,e2];exact zL _ rfl
 ·have e:b=(s.heap.push {cls:=.type "range",data:=.fields #[.int lo t,.int hi u,.int 1 v]}).objs.size:=by simpa using hb
  subst e;exact I1.fpOk (zE _) (I1.hok.fresh (zE _))
def iRng1 (ta:TA):TI:=fun σ H R=>ta σ H fun vs H1=>∃j:Int,vs=[.int j]/\-(2^62)<=j/\j<2^62/\R (Itr 0 j.toNat) H1
def iRng2 (ta:TA):TI:=fun σ H R=>ta σ H fun vs H1=>∃i j:Int,vs=[.int i,.int j]/\(-(2^62)<=i/\i<2^62/\-(2^62)<=j/\j<2^62)/\R (Itr i (j-i).toNat) H1
theorem a4Y {a:Expr}{ta:TA}{p pos:Pos}(hg:Gl X "range")(hm:X.mg "range"=none)(ha:PA X [a] ta)(hs:starEach [a] X.env=[(false,eval a X.env)]:=by rfl):PI X tg (.Call (.Name "range" p) [a] [] pos) (iRng1 ta):=by
 intro pins s σ H R I h;refine Call_ (K1 I hg hm boot_range (jF (thn (ha pos pins s σ H _ I h) fun us s1 h0=>ex5 h0 fun vs H1 I1 r1 q1=>?_) hs rfl));obtain⟨j,e,q1,q2,q⟩:=q1;subst e;cases r1 with
 | cons r rr=>
  cases rr;obtain⟨t,rfl⟩:=r;exact call_range_1 (a2n I1 (by walk_at "o") (by walk_at "o") q1 q2 (by simpa using q))
theorem a4E {a b:Expr}{ta:TA}{p pos:Pos}(hg:Gl X "range")(hm:X.mg "range"=none)(ha:PA X [a,b] ta)(hs:starEach [a,b] X.env=[(false,eval a X.env),(false,eval b X.env)]:=by rfl)(hs2:starEach [b] X.env=[(false,eval b X.env)]:=by rfl):
  PI X tg (.Call (.Name "range" p) [a,b] [] pos) (iRng2 ta):=by
 intro pins s σ H R I h;refine Call_ (K1 I hg hm boot_range (jF (thn (ha pos pins s σ H _ I h) fun us s1 h0=>ex5 h0 fun vs H1 I1 r1 q1=>?_) (by rw[hs,hs2]) (by rw[hs2];rfl)))
 obtain⟨i,j,e,⟨q1,q2,q3,q4⟩,q⟩:=q1;subst e;cases r1 with
 | cons r rr=>
  cases rr with
  | cons r' rr=>
   cases rr;obtain⟨t,rfl⟩:=r;obtain⟨t',rfl⟩:=r';exact call_range_2 (a2n I1 q1 q2 q3 q4 q)
def tFor (wi:TI) (g:TG) (tb:TS):TS:=fun D σ H=>wi σ H fun J H1=>∃W:Nat->Nat->St->Hp->Prop,(∃m,W 0 m σ H1)/\∀i m σ H,W i m σ H->
 (J.stop i H/\D.nx σ H)\/(J.go i H/\∃N:St->Hp->Prop,(∀σ' H',N σ' H'->∃m',m'<m/\W (i+1) m' σ' H')/\∀x H',J.yld i H x H'->g x σ H' fun σ2 H2=>tb {D with nx:=N,ct:=N,bk:=D.nx} σ2 H2)
def pinsAt (fp:List Addr) (h:Heap):List (Addr×Obj):=fp.filterMap fun b=>(h.get? b).map fun o=>(b,o)
theorem w4 {fp:List Addr}{h:Heap}{b:Addr}{o:Obj}(hb:b∈fp)(e:h.get? b=some o):(b,o)∈pinsAt fp h:=mem_filterMap.mpr ⟨b,hb,by rw[e];rfl⟩
theorem a46 {fp:List Addr}{h:Heap}{p:Addr×Obj}(hp:p∈pinsAt fp h):p.1∈fp/\h.get? p.1=some p.2:=by
 obtain⟨b,hb,e⟩:=mem_filterMap.mp hp;cases q:h.get? b with
 | none=>rw[q] at e;cases e
 | some o=>
  rw[q] at e;have e':(b,o)=p:=qC e;subst e';exact⟨hb,q⟩
theorem Inv.pinned {pins:List (Addr×Obj)}{σ:St}{H:Hp}{s:Shared}{fp:List Addr}(I:Inv X pins σ H s)(hf:∀b∈fp,FpOk X pins H b)(ho:∀b∈fp,∃o,s.heap.get? b=some o/\∀v,o.data≠.cell v):Inv X (pins++pinsAt fp s.heap) σ H s:=
 I.pins_of fun p hp=>(xJ.mp hp).elim (fun z=>I.pin p (qP _ z)) fun z=>by
  obtain⟨hb,e⟩:=a46 z;obtain⟨f0,f1,f2,_⟩:=hf p.1 hb;obtain⟨o,e',d⟩:=ho p.1 hb;rw[e] at e';cases e';exact⟨e,f0,f1,f2,d⟩
theorem Inv.unpinned {pins pl:List (Addr×Obj)}{σ:St}{H:Hp}{s:Shared}(I:Inv X (pins++pl) σ H s):Inv X pins σ H s:=I.pins_of fun p hp=>I.pin p (qP _ (List.mem_append_left _ hp))
theorem a9C {iter:Expr}{body:List Stmt}{wi:TI}{g:TG}{tb:TS}{pos:Pos}(hp:PassesOwn (model X.prog X.w) X.A X.env X.xe)(hc:X.calm=true)(hi:PI X tg iter wi)(hg:PG X tg g)(hb:PSs X body tb)
  (hs:∀x,foldedSetIterable iter X.env x=pure x:=by intro _;rfl):PS X (.For tg iter body [] pos) (tFor wi g tb):=by
 intro pins s σ H D I h;refine wpAny_For (thn (hi pins s σ H _ I h) fun v s1 h1=>thn h1 fun itv s2 h2=>?_) hs;obtain⟨it,fp,tn,J,H2,e,I2,T,st2,f2,W,⟨m0,w0⟩,turn⟩:=h2;subst e;have stat:∀{H':Hp},(∀b∈fp,H' b=none)->∀b∈fp,FpOk X pins H' b:=fun hn b hb=>⟨hn b hb,(f2 b hb).2⟩;refine codeAny_forLoop_any (fun n s'=>∃i σ' H',Inv X pins σ' H' s'/\tn i s'.heap/\(∀b∈fp,H' b=none)/\W i n σ' H') ?_ m0 ⟨0,σ,H2,I2,st2,fun b hb=>(f2 b hb).1,w0⟩;rintro n s3 ⟨i,σ3,H3,I3,st3,fr3,w3⟩;rcases turn i n σ3 H3 w3 with ⟨stop,qn⟩|⟨go,N,hN,step⟩
 ·refine xF hp (thn (T.done X rfl rfl rfl hc i pins s3 σ3 H3 X.xe I3 (stat fr3) st3 stop) fun r s4 ⟨hr,I4⟩=>?_);subst hr;exact wpAny_execs_nil ⟨σ3,H3,I4,qn⟩
 ·refine xF hp (thn (T.item X rfl rfl rfl hc i pins s3 σ3 H3 X.xe I3 (stat fr3) st3 go) fun r s4 ⟨u,hr,h4⟩=>?_);subst hr;refine xF hp (thn h4 fun _ s5 ⟨x,H5,I5,r5,y5,st5,fr5⟩=>?_);have I5':=I5.pinned (stat fr5) (T.obj _ _ st5);refine xF hp (thn (hg _ s5 σ3 H5 x u _ I5' r5 (step x H5 y5)) fun _ s6 ⟨σ6,H6,I6,q6⟩=>?_);refine xF hp (thn (hb _ s6 σ6 H6 _ I6 q6) fun f s7 q7=>?_);have again:∀{σ7:St} {H7:Hp},Inv X (pins++pinsAt fp s5.heap) σ7 H7 s7->N σ7 H7->∃m,m<n/\∃i σ' H',Inv X pins σ' H' s7/\tn i s7.heap/\(∀b∈fp,H' b=none)/\W i m σ' H':=fun{σ7 H7} I7 n7=>by
   obtain⟨m',hm,w7⟩:=hN σ7 H7 n7;refine⟨m',hm,i+1,σ7,H7,I7.unpinned,T.keep _ _ _ st5 fun b hb o e=>(I7.pin (b,o) (qP _ (qP _ (w4 hb e)))).1,fun b hb=>?_,w7⟩;obtain⟨o,e,d⟩:=T.obj _ _ st5 b hb;exact(I7.pin (b,o) (qP _ (qP _ (w4 hb e)))).2.1
  cases f with
  | next=>obtain⟨σ7,H7,I7,n7⟩:=q7;exact again I7 n7
  | cont=>obtain⟨σ7,H7,I7,n7⟩:=q7;exact again I7 n7
  | brk=>obtain⟨σ7,H7,I7,q7⟩:=q7;exact⟨σ7,H7,I7.unpinned,q7⟩
  | ret v=>obtain⟨x7,σ7,H7,I7,r7,q7⟩:=q7;exact⟨x7,σ7,H7,I7.unpinned,r7,q7⟩
end
abbrev R2:=V->V->Hp->VK->Prop
def OpR (X:Cx) (f:Value->Value->Sem Value) (r:R2):Prop:=
 ∀(pins:List (Addr×Obj)) (s:Shared) (σ:St) (H:Hp) (x y:V) (v u:Value) (Q:VK),Inv X pins σ H s->RelV x v->RelV y u->r x y H Q->
  wpAny (model X.prog X.w) X.A (f v u) (EP X pins σ Q) X.xe s
def UnR (X:Cx) (f:Value->Sem Value) (r:V->Hp->VK->Prop):Prop:=
 ∀(pins:List (Addr×Obj)) (s:Shared) (σ:St) (H:Hp) (x:V) (v:Value) (Q:VK),Inv X pins σ H s->RelV x v->r x H Q->
  wpAny (model X.prog X.w) X.A (f v) (EP X pins σ Q) X.xe s
def CallR (X:Cx) (f:Value) (r:List V->Hp->VK->Prop):Prop:=
 ∀(pins:List (Addr×Obj)) (s:Shared) (σ:St) (H:Hp) (xs:List V) (us:List Value) (Q:VK),Inv X pins σ H s->Vals xs us->r xs H Q->
  wpAny (model X.prog X.w) X.A (call f us) (EP X pins σ Q) X.xe s
def TruR (X:Cx) (r:V->Hp->(Bool->Hp->Prop)->Prop):Prop:=
 ∀(pins:List (Addr×Obj)) (s:Shared) (σ:St) (H:Hp) (x:V) (v:Value) (Q:Bool->Hp->Prop),Inv X pins σ H s->RelV x v->r x H Q->
  wpAny (model X.prog X.w) X.A (truthy v) (TP X pins σ Q) X.xe s
def tOp (r:R2) (ta tb:TE):TE:=fun σ H Q=>ta σ H fun x H1=>tb σ H1 fun y H2=>r x y H2 Q
def tUn (r:V->Hp->VK->Prop) (ta:TE):TE:=fun σ H Q=>ta σ H fun x H1=>r x H1 Q
def rI (C:Int->Int->Prop) (g:Int->Int->V):R2:=fun x y H Q=>∃i j,x= .int i/\y= .int j/\C i j/\Q (g i j) H
def rI0 (g:Int->Int->V):R2:=fun x y H Q=>∃i j,x= .int i/\y= .int j/\Q (g i j) H
def rU (g:Int->V):V->Hp->VK->Prop:=fun x H Q=>∃i,x= .int i/\Q (g i) H
section
variable {X:Cx}{a b:Expr}{ta tb:TE}{pos:Pos}
theorem binT (ha:PE X a ta)(hb:PE X b tb){pins:List (Addr×Obj)}{s:Shared}{σ:St}{H:Hp}{R:V->V->Hp->Prop}(I:Inv X pins σ H s)
  (h:ta σ H fun x H1=>tb σ H1 fun y H2=>R x y H2) {Q:Value->Shared->Prop} {f:Value->Value->Sem Value}
  (hf:∀v u s2 x y H2,Inv X pins σ H2 s2->RelV x v->RelV y u->R x y H2->wpAny (model X.prog X.w) X.A (f v u) Q X.xe s2):
  wpAny (model X.prog X.w) X.A (eval a X.env) (fun v s₁=>wpAny (model X.prog X.w) X.A (eval b X.env) (fun u s₂=>wpAny (model X.prog X.w) X.A (f v u) Q X.xe s₂) X.xe s₁) X.xe s:=by
 refine thn (ha pins s σ H _ I h) fun v s1 h0=>ex5 h0 fun x H1 I1 r1 q1=>?_;refine thn (hb pins s1 σ H1 _ I1 q1) fun u s2 h0=>ex5 h0 fun y H2 I2 r2 q2=>?_;exact hf v u s2 x y H2 I2 r1 r2 q2
theorem pe_op {op:Operator}{r:R2}(ho:OpR X (binaryOp op) r)(ha:PE X a ta)(hb:PE X b tb):PE X (.BinOp a op b pos) (tOp r ta tb):=by
 intro pins s σ H Q I h;exact wpAny_BinOp (binT ha hb I h fun v u s2 x y H2 I2 rx ry q=>ho pins s2 σ H2 x y v u Q I2 rx ry q)
theorem pe_un {op:UnaryOp}{r:V->Hp->VK->Prop}(ho:UnR X (unaryOp op) r)(ha:PE X a ta):PE X (.UnaryOp op a pos) (tUn r ta):=by
 intro pins s σ H Q I h;exact UnaryOp_ (thn (ha pins s σ H _ I h) fun v s1 h0=>ex5 h0 fun x H1 I1 r1 q1=>ho pins s1 σ H1 x v Q I1 r1 q1)
theorem opI {f:Value->Value->Sem Value}{C:Int->Int->Prop}{g:Int->Int->Int}
  (rule:∀(i j:Int) (t u:Tok) (s:Shared) (Q:Value->Shared->Prop) (E:Value->Shared->Prop),C i j->Q (.int (g i j) s.toks) {s with toks:=s.toks+1}->wpAny (model X.prog X.w) X.A (f (.int i t) (.int j u)) Q E s):
  OpR X f (rI C fun i j=>.int (g i j)):=by
 intro pins s σ H x y v u Q I rx ry h;obtain⟨i,j,rfl,rfl,hc,q⟩:=h;obtain⟨t,rfl⟩:=rx;obtain⟨t',rfl⟩:=ry;exact rule i j t t' s _ _ hc ⟨.int (g i j),H,I.tok _,⟨_,rfl⟩,q⟩
theorem opI0 {f:Value->Value->Sem Value}{g:Int->Int->Int}
  (rule:∀(i j:Int) (t u:Tok) (s:Shared) (Q:Value->Shared->Prop) (E:Value->Shared->Prop),Q (.int (g i j) s.toks) {s with toks:=s.toks+1}->wpAny (model X.prog X.w) X.A (f (.int i t) (.int j u)) Q E s):
  OpR X f (rI0 fun i j=>.int (g i j)):=by
 intro pins s σ H x y v u Q I rx ry h;obtain⟨i,j,rfl,rfl,q⟩:=h;obtain⟨t,rfl⟩:=rx;obtain⟨t',rfl⟩:=ry;exact rule i j t t' s _ _ ⟨.int (g i j),H,I.tok _,⟨_,rfl⟩,q⟩
theorem opB0 {f:Value->Value->Sem Value}{g:Int->Int->Bool}
  (rule:∀(i j:Int) (t u:Tok) (s:Shared) (Q:Value->Shared->Prop) (E:Value->Shared->Prop),Q (.bool (g i j)) s->wpAny (model X.prog X.w) X.A (f (.int i t) (.int j u)) Q E s):
  OpR X f (rI0 fun i j=>.bl (g i j)):=by
 intro pins s σ H x y v u Q I rx ry h;obtain⟨i,j,rfl,rfl,q⟩:=h;obtain⟨t,rfl⟩:=rx;obtain⟨t',rfl⟩:=ry;exact rule i j t t' s _ _ ⟨.bl (g i j),H,I,rfl,q⟩
def CPow (i j:Int):Prop:=0<=j/\j<=1000000/\i.natAbs<2^64
theorem a9L:OpR X (binaryOp .Add) (rI0 fun i j=>.int (i+j)):=opI0 fun _ _ _ _ _ _ _ q=>add_int q
theorem a9x:OpR X (binaryOp .Sub) (rI0 fun i j=>.int (i-j)):=opI0 fun _ _ _ _ _ _ _ q=>sub_int q
theorem a9f:OpR X (binaryOp .Mod) (rI (fun _ j=>0<j) fun i j=>.int (i%j)):=opI fun i j _ _ _ _ _ hc q=>by
 have h1:(0:Int)<j:=hc;exact mod_int' (by walk_at "o") (by rw[Int.fmod_eq_emod_of_nonneg i (by walk_at "o")];exact q)
theorem a90:OpR X (binaryOp .Pow) (rI CPow fun i j=>.int (i^j.toNat)):=opI fun _ _ _ _ _ _ _ hc q=>pow_int_small hc.1 hc.2.1 hc.2.2 q
theorem a7S:OpR X (inplaceOp .Add) (rI0 fun i j=>.int (i+j)):=opI0 fun _ _ _ _ _ _ _ q=>iadd_int q
theorem unI {f:Value->Sem Value}{g:Int->Int}
  (rule:∀(i:Int) (t:Tok) (s:Shared) (Q:Value->Shared->Prop) (E:Value->Shared->Prop),Q (.int (g i) s.toks) {s with toks:=s.toks+1}->wpAny (model X.prog X.w) X.A (f (.int i t)) Q E s):
  UnR X f (rU fun i=>.int (g i)):=by
 intro pins s σ H x v Q I rx h;obtain⟨i,rfl,q⟩:=h;obtain⟨t,rfl⟩:=rx;exact rule i t s _ _ ⟨.int (g i),H,I.tok _,⟨_,rfl⟩,q⟩
theorem a9m:UnR X (unaryOp .USub) (rU fun i=>.int (-i)):=unI fun _ _ _ _ _ q=>neg_int q
end
section
variable {X:Cx}{a b c:Expr}{ta tb:TE}{pos:Pos}
theorem op_lt:OpR X (compareOp .Lt) (rI0 fun i j=>.bl (decide (i<j))):=opB0 fun _ _ _ _ _ _ _ q=>lt_int q
theorem op_ge:OpR X (compareOp .GtE) (rI0 fun i j=>.bl (decide (j<=i))):=opB0 fun _ _ _ _ _ _ _ q=>ge_int q
theorem OpR.or {f:Value->Value->Sem Value}{r r':R2}(h:OpR X f r)(h':OpR X f r'):OpR X f (fun x y H Q=>r x y H Q\/r' x y H Q):=by
 intro pins s σ H x y v u Q I rx ry q;rcases q with q|q
 ·exact h pins s σ H x y v u Q I rx ry q
 ·exact h' pins s σ H x y v u Q I rx ry q
theorem nomark (b:Expr){op:CmpOp}(h:op≠.In:=by decide)(h2:op≠.NotIn:=by decide):behindInMarks op b=false:=by
 have e1:(op==CmpOp.In)=false:=by cases op<;>first|rfl|exact absurd rfl h
 have e2:(op==CmpOp.NotIn)=false:=by cases op<;>first|rfl|exact absurd rfl h2
 cases b<;>simp[behindInMarks,e1,e2]
theorem a7F {op:CmpOp}{r:R2}(ho:OpR X (compareOp op) r)(ha:PE X a ta)(hb:PE X b tb)(hm:behindInMarks op b=false):PE X (.Compare a [op] [b] pos) (tOp r ta tb):=by
 intro pins s σ H Q I h;exact wpAny_Compare1 (binT ha hb I h fun v u s2 x y H2 I2 rx ry q=>ho pins s2 σ H2 x y v u Q I2 rx ry q) hm
def tTest (t:TE):TT:=fun σ H Q=>t σ H fun x H'=>∃k,x= .bl k/\Q k H'
theorem a7O {op:CmpOp}{r:R2}(ho:OpR X (compareOp op) r)(ha:PE X a ta)(hb:PE X b tb)(hm:behindInMarks op b=false):PT X (.Compare a [op] [b] pos) (tTest (tOp r ta tb)):=by
 intro pins s σ H Q I h
 refine wpAny_isTrue_Compare1 (thn (ha pins s σ H _ I h) fun v s1 h0=>ex5 h0 fun x H1 I1 r1 q1=>thn (hb pins s1 σ H1 _ I1 q1) fun u s2 h0=>ex5 h0 fun y H2 I2 r2 q2=>
  thn (ho pins s2 σ H2 x y v u _ I2 r1 r2 q2) fun c s3 ⟨z,H3,I3,r3,k,e,q3⟩=>?_) hm
 subst e;cases r3;exact wpAny_truthy_bool ⟨H3,I3,q3⟩
def TruV (K:PySem.W.Frag) (x:V) (H:Hp) (k:Bool):Prop:=
 match x with
 | .non=>k=false
 | .bl b=>k=b
 | .int i=>k=(i != 0)
 | .str y=>y.length<=sizeLine/\k=((y.length:Int) != 0)
 | .byt y=>y.size<=sizeLine/\k=((y.size:Int) != 0)
 | .ref p=>(∃xs,SqL K H p xs/\k= !xs.isEmpty)\/(∃xs,SqT K H p xs/\k= !xs.isEmpty)\/∃kvs,H p=some (.dK kvs)/\k= !kvs.isEmpty
 | _=>False
theorem a21 {κ:Type}{kvs:List (κ×V)}{vs:List (κ×Value)}(r:KV kvs vs):(!vs.isEmpty)= !kvs.isEmpty:=by
 cases r<;>rfl
theorem X4 {xs:List V}{its:List Value}(r:Vals xs its):(!its.toArray.isEmpty)= !xs.isEmpty:=by
 cases r<;>simp
theorem line63:(sizeLine:Nat)<2^63:=by rw[qY];decide
theorem a5j:TruR X (fun x H Q=>∃k,TruV X.K x H k/\Q k H):=by
 intro pins s σ H x v Q I rx h;obtain⟨k,e,q⟩:=h;have hl:=line63;have hs:sizeLine=16777216:=qY;cases x with
 | non=>
  cases rx;have e':k=false:=e;subst e';exact truthy_none ⟨H,I,q⟩
 | bl b=>
  cases rx;have e':k=b:=e;subst e';exact wpAny_truthy_bool ⟨H,I,q⟩
 | int i=>
  obtain⟨t,rfl⟩:=rx;have e':k=(i != 0):=e;subst e';exact PySem.P.truthy_int ⟨H,I,q⟩
 | str y=>
  obtain⟨t,rfl⟩:=rx;obtain⟨hy,e'⟩:y.length<=sizeLine/\k=((y.length:Int) != 0):=e;subst e';exact PySem.P.truthy_str (by walk_at "o") ⟨H,I.tok _,q⟩
 | byt y=>
  obtain⟨t,rfl⟩:=rx;obtain⟨hy,e'⟩:y.size<=sizeLine/\k=((y.size:Int) != 0):=e;subst e';exact PySem.W.truthy_bytes (by walk_at "o") ⟨H,I.tok _,q⟩
 | ref p=>
  cases rx;have e':(∃xs,SqL X.K H p xs/\k= !xs.isEmpty)\/(∃xs,SqT X.K H p xs/\k= !xs.isEmpty)\/∃kvs,H p=some (.dK kvs)/\k= !kvs.isEmpty:=e;rcases e' with ⟨xs,hx,e'⟩|⟨xs,hx,e'⟩|⟨kvs,hx,e'⟩
  ·subst e';obtain⟨its,r,pl,hz⟩:=I.list hx;have hlen:=r.length;exact wpAny_truthy_list pl.isList (by simp only[zV];walk_at "o") ⟨H,I.tok _,by rw[X4 r];exact q⟩
  ·subst e';obtain⟨its,r,pl,hz⟩:=I.tuple hx;have hlen:=r.length;exact truthy_tuple pl (by simp only[zV];walk_at "o") ⟨H,I.tok _,by rw[X4 r];exact q⟩
  ·subst e';obtain⟨hz,hS,vs,r,m⟩:kvs.length<=sizeLine/\(p==sysModules)=false/\∃vs,KV kvs vs/\s.heap.DictAt (mixKind X.prog X.w) p vs kvs.length:=I.hok p _ hx;have hlen:kvs.length=vs.length:=xX r;exact wpAny_truthy_dict hS m.dictOf (by walk_at "o") ⟨H,I.tok _,by rw[a21 r];exact q⟩
 | _=>exact(show False from e).elim
theorem a5C (ha:PE X a ta)(he:∀whole,isTrue a X.env whole=(do let v <-whole;standAt a.pos;holding [v] (truthy v))):
  PT X a (fun σ H Q=>ta σ H fun x H'=>∃k,TruV X.K x H' k/\Q k H'):=by
 intro pins s σ H Q I h;exact isTrue_plain (thn (ha pins s σ H _ I h) fun v s1 h0=>ex5 h0 fun x H1 I1 r1 q1=>a5j pins s1 σ H1 x v Q I1 r1 q1) (he _)
theorem vals1 {x:V}{us:List Value}(r:Vals [x] us):∃u,us=[u]/\RelV x u:=by
 cases r with
 | cons r1 r2=>cases r2;exact⟨_,rfl,r1⟩
theorem vals2 {x y:V}{us:List Value}(r:Vals [x,y] us):∃u w',us=[u,w']/\RelV x u/\RelV y w':=by
 cases r with
 | cons r1 r2=>
  cases r2 with
  | cons r3 r4=>cases r4;exact⟨_,_,rfl,r1,r3⟩
theorem L1 (hc:X.calm=true):CallR X (.builtin "max") (fun xs H Q=>∃i j,xs=[.int i,.int j]/\Q (.int (if j>i then j else i)) H):=by
 intro pins s σ H xs us Q I r h;obtain⟨i,j,rfl,q⟩:=h;obtain⟨u,w',rfl,⟨t,rfl⟩,⟨t',rfl⟩⟩:=vals2 r;refine max_two_ints (I.ok.hd hc) fun h' tk k=>⟨_,H,I.kept k,?_,q⟩
 by_cases hj:j>i
 ·rw[if_pos hj,if_pos hj];exact⟨_,rfl⟩
 ·rw[if_neg hj,if_neg hj];exact⟨_,rfl⟩
theorem D2 (hc:X.calm=true):CallR X (.builtin "min") (fun xs H Q=>∃i j,xs=[.int i,.int j]/\Q (.int (if j<i then j else i)) H):=by
 intro pins s σ H xs us Q I r h;obtain⟨i,j,rfl,q⟩:=h;obtain⟨u,w',rfl,⟨t,rfl⟩,⟨t',rfl⟩⟩:=vals2 r;refine min_two_ints (I.ok.hd hc) fun h' tk k=>⟨_,H,I.kept k,?_,q⟩
 by_cases hj:j<i
 ·rw[if_pos hj,if_pos hj];exact⟨_,rfl⟩
 ·rw[if_neg hj,if_neg hj];exact⟨_,rfl⟩
end
theorem RelO.some_of {v:V}{o:Option Value}(r:RelO (some v) o):∃u,o=some u/\RelV v u:=by
 cases o with
 | none=>exact(show False from r).elim
 | some u=>exact⟨u,rfl,r⟩
structure Cls (K:PySem.W.Frag) (C:Addr):Prop where
 pg:PySem.W.plainGet K C Str.empty=true
 hd:PySem.W.hasDictIn K C=true
 po:PySem.W.plainOver K C=true
 sa:PySem.W.findIn K (.ref C) "__setattr__"=some (some (.builtin "object.__setattr__"))
section
variable {X:Cx}{pins:List (Addr×Obj)}{σ:St}{H:Hp}{s:Shared}{a C:Addr}
theorem Inv.made (I:Inv X pins σ H s):Inv X pins σ (upd (upd H s.heap.objs.size (.own (s.heap.objs.size+1))) (s.heap.objs.size+1) (.ins C s.heap.objs.size []))
  {s with heap:=(s.heap.push PySem.W.emptyDict).push (PySem.W.instObj C s.heap.objs.size)}:=by
 have e1:(s.heap.push PySem.W.emptyDict).get? s.heap.objs.size=some PySem.W.emptyDict:=zL s.heap rfl;have e2:((s.heap.push PySem.W.emptyDict).push (PySem.W.instObj C s.heap.objs.size)).get? (s.heap.objs.size+1)=some (PySem.W.instObj C s.heap.objs.size):=by
  have:=zL (s.heap.push PySem.W.emptyDict) (o:=PySem.W.instObj C s.heap.objs.size) rfl
  rwa [jR] at this
 have e3:(s.heap.push PySem.W.emptyDict).Ns s.heap.objs.size (fun _=>none):=⟨PySem.W.emptyDict, #[],_,e1,rfl,(fun e he=>absurd he (by simp)),fun _=>rfl⟩
 have I1:=I.laid (a:=s.heap.objs.size) (o:=.own (s.heap.objs.size+1)) (h':=s.heap.push PySem.W.emptyDict) (t':=s.toks) (fun b u q=>zC _ q) (zE _) ⟨_,e1⟩;refine I1.laid (a:=s.heap.objs.size+1) (o:=.ins C s.heap.objs.size []) (t':=s.toks) (fun b u q=>zC _ q) (Nat.le_of_eq (jR _ _)) ?_;have ne:s.heap.objs.size≠s.heap.objs.size+1:=zG (jU _);refine⟨by rw[c6 ne,j5],jW _,ne,e2,fun _=>none,(Heap.Ns1.of_empty e3).at fun o q=>zC _ q,fun _=>True.intro,fun y hy=>absurd rfl hy⟩
end
section
variable {H:Hp}
inductive TyOf (K:PySem.W.Frag) (H:Hp):V->Value->Prop where
 | non:TyOf K H .non (.type "NoneType")
 | bl (x:Bool):TyOf K H (.bl x) (.type "bool")
 | int (i:Int):TyOf K H (.int i) (.type "int")
 | str (x:Str):TyOf K H (.str x) (.type "str")
 | flt (x:UInt64):TyOf K H (.flt x) (.type "float")
 | lst {a:Addr} {xs:List V} (e:H a=some (.lst xs)):TyOf K H (.ref a) (.type "list")
 | frz {a:Addr} {o:Obj} {xs:List V} (e:H a=some (.frz o (.lst xs))):TyOf K H (.ref a) (.type "list")
 | tup {a:Addr} {xs:List V} (e:H a=some (.tup xs)):TyOf K H (.ref a) (.type "tuple")
 | dK {a:Addr} {kvs:List (Key×V)} (e:H a=some (.dK kvs)):TyOf K H (.ref a) (.type "dict")
 | dT {a:Addr} {kvs:List (List Key×V)} (e:H a=some (.dT kvs)):TyOf K H (.ref a) (.type "dict")
 | ins {a C dx:Addr} {fs:List (Str×V)} (e:H a=some (.ins C dx fs)) (cl:Cls K C) (ha:PySem.W.findIn K (.ref C) "__class__"=some (some (.builtin "object.__class__")))
   (hn:PySem.W.specialIn K (.builtin "object.__class__") "__get__"=some (some (.builtin "getset_descriptor.__get__"))) (htk:PySem.W.takesIn K (.builtin "object.__class__")=some true)
   (hm:PySem.W.mroIn K C (.type "object")=some true):TyOf K H (.ref a) (.ref C)
end
structure Room (k:Nat) (A:Around):Prop where
 hd:A.handled=none
 dp:A.depth+3*k+5<recursionLimit
 un:A.units+16*k+200<cLine
 gd:A.guards=some []
theorem Room.mono {j k:Nat}{A:Around}(r:Room k A)(h:j<=k):Room j A:=⟨r.hd,by have:=r.dp;walk_at "o",by have:=r.un;walk_at "o",r.gd⟩
theorem Room.deeper {k:Nat}{A:Around}(r:Room (k+1) A)(env:Env):Room k (A.deeper env):=
 ⟨r.hd,by have:=r.dp;show A.depth+1+3*k+5<_;walk_at "o",by have:=r.un;show A.units+3+16*k+200<_;walk_at "o",r.gd⟩
theorem Room.depth {k:Nat}{A:Around}(r:Room k A):A.depth<recursionLimit:=by have:=r.dp;walk_at "o"
theorem Room.units {k:Nat}{A:Around}(r:Room k A):A.units+64<cLine:=by have:=r.un;walk_at "o"
def tNil:TA:=fun _ H Q=>Q [] H
def tCons (ta:TE) (tr:TA):TA:=fun σ H Q=>ta σ H fun x H1=>tr σ H1 fun xs H2=>Q (x::xs) H2
section
variable {X:Cx}{e:Expr}{es:List Expr}{te:TE}{t:TA}{pos:Pos}
theorem a1J:PA X [] tNil:=fun _ _ _ _ H Q I h=>Calls.spliced_nil ⟨[],H,I,.nil,h⟩
theorem O4 (ha:PE X e te)(hr:PA X es t)(hs:starEach (e::es) X.env=(false,eval e X.env)::starEach es X.env:=by rfl):PA X (e::es) (tCons te t):=by
 intro pos pins s σ H Q I h;rw[hs];show wpAny _ _ (spliced ((false,eval e X.env)::backTo pos (starEach es X.env))) _ _ s;refine Calls.spliced_cons (thn (ha pins s σ H _ I h) fun u s1 h0=>ex5 h0 fun x H1 I1 r1 q1=>?_);exact thn (hr pos pins s1 σ H1 _ I1 q1) fun us s2 h0=>ex5 h0 fun xs H2 I2 r2 q2=>⟨x::xs,H2,I2,.cons r1 r2,q2⟩
def tTup (t:TA):TE:=fun σ H Q=>t σ H fun xs H1=>xs.length<=sizeLine/\∀p,H1 p=none->Q (.ref p) (upd H1 p (.tup xs))
def tLst (t:TA):TE:=fun σ H Q=>t σ H fun xs H1=>xs.length<=sizeLine/\∀p,H1 p=none->Q (.ref p) (upd H1 p (.lst xs))
theorem a9Q {x1}(h:PA X es t):PE X (.Tuple es x1 pos) (tTup t):=by
 intro pins s σ H Q I hq;refine wpAny_Tuple_spliced (thn (h pos pins s σ H _ I hq) fun us s1 ⟨xs,H1,I1,r,z,q⟩=>⟨by rw[<-r.length];exact z,?_⟩)
 have hf:H1 s1.heap.objs.size=none:=I1.hok.fresh (zE _);refine⟨.ref s1.heap.objs.size,upd H1 s1.heap.objs.size (.tup xs),I1.laid (t':=s1.toks) (fun b u e=>zC _ e) (zE _) ?_,rfl,q _ hf⟩;exact⟨z,us,r,TupN.new _ _⟩
theorem a9u (h:PA X es t):PE X (.List es pos) (tLst t):=by
 intro pins s σ H Q I hq;refine wpAny_List_spliced (thn (h pos pins s σ H _ I hq) fun us s1 ⟨xs,H1,I1,r,z,q⟩=>⟨by rw[<-r.length];exact z,?_⟩)
 have hf:H1 s1.heap.objs.size=none:=I1.hok.fresh (zE _);refine⟨.ref s1.heap.objs.size,upd H1 s1.heap.objs.size (.lst xs),I1.laid (t':=s1.toks) (fun b u e=>zC _ e) (zE _) ?_,rfl,q _ hf⟩;exact⟨z,us,0,r,zL _ rfl⟩
end
abbrev Sp:=List V->Hp->VK->XK->Prop
abbrev CXT:=List Env->Hp->Shared->XK->Value->Shared->Prop
structure Env0 (P:Program) (w:World) (K:PySem.W.Frag) (mg:Str->Option Value) (base:Heap) (A:Around) (outer:List Env) (s:Shared) (H:Hp):Prop where
 frames:A.frames=some outer
 mod:Mod K mg base
 bs:∀b o,base.get? b=some o->s.heap.get? b=some o/\H b=none
 bsz:base.objs.size<=s.heap.objs.size
 funs:s.heap.FunFrames base outer
 frf:∀b∈frs outer,H b=none
 hok:HOk P w H s.heap
 bare:AllBare s.gens
def CE (outer:List Env) (P:Program) (w:World) (H:Hp) (s:Shared) (Q:VK) (u:Value) (s':Shared):Prop:=
 ∃v H',s'.os=s.os/\AllBare s'.gens/\Un (frs outer) [] H H' s.heap s'.heap/\HOk P w H' s'.heap/\RelV v u/\Q v H'
def CR (CX:CXT) (outer:List Env) (P:Program) (w:World) (H:Hp) (s:Shared) (Q:VK) (E:XK) (r:Result) (s':Shared):Prop:=
 match r with
 | .ok (.ret u)=>CE outer P w H s Q u s'
 | .ok _=>False
 | .error e=>CX outer H s E e s'
structure FnOk (P:Program) (w:World) (K:PySem.W.Frag) (mg:Str->Option Value) (base:Heap) (CX:CXT) (k:Nat) (f:Addr) (fd:FuncData) (ps:List Str) (sp:Sp):Prop where
 len:∀vs H Q E,sp vs H Q E->vs.length=ps.length
 run:∀(A:Around) (outer:List Env) (s:Shared) (H:Hp) (args:Args) (us:List Value) (vs:List V) (Q:VK) (E:XK),Room k A->Env0 P w K mg base A outer s H->BindsTo s fd args (ps.zip us)->Vals vs us->sp vs H Q E->
  codeAny (model P w) A (.call (.ref f) args) (CR CX outer P w H s Q E) s
theorem FnOk.mono {P:Program}{w:World}{K:PySem.W.Frag}{mg:Str->Option Value}{base:Heap}{CX:CXT}{j k:Nat}{f:Addr}{fd:FuncData}{ps:List Str}{sp:Sp}(F:FnOk P w K mg base CX j f fd ps sp)(h:j<=k):
  FnOk P w K mg base CX k f fd ps sp:=⟨F.len,fun A outer s H args us vs Q E hr=>F.run A outer s H args us vs Q E (hr.mono h)⟩
section
variable {X:Cx}{pins:List (Addr×Obj)}{σ:St}{H:Hp}{s s':Shared}
theorem Inv.env0 (I:Inv X pins σ H s):Env0 X.prog X.w X.K X.mg X.base X.A X.stack s H:=
 ⟨I.ok.frames,I.ok.mod,I.bs,qH I.ok.bsz I.sz,I.stack,I.stkFree,I.hok,I.bare⟩
theorem Inv.after {Q:VK}{u:Value}(I:Inv X pins σ H s)(h:CE X.stack X.prog X.w H s Q u s'):EP X pins σ Q u s':=by
 obtain⟨v,H',os,bare,un,hok,r,q⟩:=h;obtain⟨hh,g,d,t,os'⟩:=s';obtain rfl:os'=s.os:=os;exact⟨v,H',I.call (h':=hh) (g':=g) (d':=d) (t':=t) (ch:=[]) un hok bare (fun b z=>absurd z (by simp)),r,q⟩
end
def tCall (sp:Sp) (dvs:List V) (E:XK) (t:TA):TE:=fun σ H Q=>t σ H fun vs H1=>sp (vs++dvs) H1 Q E
def Binds (K:PySem.W.Frag) (fd:FuncData) (ps:List Str) (ds:List Value):Prop:=
 ∀(s:Shared) (us:List Value),K.In s.heap->(us++ds).length=ps.length->BindsTo s fd ⟨us,[]⟩ (ps.zip (us++ds))
theorem Binds.all {K:PySem.W.Frag}{fd:FuncData}{ps:List Str}(h:∀us:List Value,us.length=ps.length->bindArgs fd ⟨us,[]⟩=pure (ps.zip us)):Binds K fd ps []:=fun s us _ hl=>by
 rw[append_nil] at hl ⊢;exact .of_eq (h us hl)
def Passes (CX:CXT) (X:Cx) (E:XK):Prop:=∀(pins:List (Addr×Obj)) (σ:St) (H:Hp) (s:Shared) (e:Value) (s':Shared),Inv X pins σ H s->CX X.stack H s E e s'->X.xe e s'
section
variable {X:Cx}{CX:CXT}{k:Nat}{f C:Addr}{fd:FuncData}{ps:List Str}{sp:Sp}{dvs:List V}{ds:List Value}{E:XK}{x:Str}{p pos:Pos}{e:Expr}{es:List Expr}{t:TA}
theorem a9V {pins:List (Addr×Obj)}{σ:St}{H:Hp}{s:Shared}{Q:VK}{us:List Value}{vs:List V}(F:FnOk X.prog X.w X.K X.mg X.base CX k f fd ps sp)(hr:Room k X.A)(hb:Binds X.K fd ps ds)(hd:Vals dvs ds)(hx:Passes CX X E)
  (I:Inv X pins σ H s) (r:Vals vs us) (h:sp (vs++dvs) H Q E):wpAny (model X.prog X.w) X.A (call (.ref f) us) (EP X pins σ Q) X.xe s:=by
 have r2:Vals (vs++dvs) (us++ds):=r.append hd;have hl:(us++ds).length=ps.length:=by rw[<-r2.length];exact F.len _ _ _ _ h
 refine wpAny_call (yK (F.run X.A X.stack s H ⟨us,[]⟩ (us++ds) (vs++dvs) Q E hr I.env0 (hb s us I.kIn hl) r2 h) fun r s' hq=>?_);cases r with
 | error e=>exact hx pins σ H s e s' I hq
 | ok fl=>
  cases fl with
  | ret u=>exact I.after hq
  | next=>exact False.elim hq
  | brk=>exact False.elim hq
  | cont=>exact False.elim hq
theorem a3O (F:FnOk X.prog X.w X.K X.mg X.base CX k f fd ps sp)(hr:Room k X.A)(hg:Gl X x)(hm:X.mg x=some (.ref f))(hk:PySem.W.keepIn X.K (.ref f)=true)(hb:Binds X.K fd ps ds)(hd:Vals dvs ds)(hx:Passes CX X E)
  (ha:PA X (e::es) t) (hdb:(x==("__debug__":Str))=false:=by decide) (he:starEach (e::es) X.env=(false,eval e X.env)::starEach es X.env:=by rfl) (hpl:(backTo pos (starEach es X.env)).any (·.1)=false:=by rfl):
  PE X (.Call (.Name x p) (e::es) [] pos) (tCall sp dvs E t):=by
 intro pins s σ H Q I h;refine xZ (a7r I hg hm ?_ hdb);refine PySem.W.callWith_K (h₀:=X.base) I.ok.mod.kin hk (thn (ha pos pins s σ H _ I h) fun us s1 h0=>ex5 h0 fun vs H1 I1 r q=>⟨I1.kIn,?_⟩) he hpl;exact a9V F hr hb hd hx I1 r q
structure Mk (K:PySem.W.Frag) (C f:Addr):Prop where
 makes:PySem.W.makesIn K C=true
 init:PySem.W.findIn K (.ref C) "__init__"=some (some (.ref f))
 fn:PySem.W.isFn K (.ref f)=true
 kp:PySem.W.keepIn K (.ref C)=true
end
structure FnScope (N P:List Str) (sc:Scope):Prop where
 kind:sc.kind= .function
 co:sc.isCoroutine=false
 gen:sc.isGenerator=false
 nd:N.Nodup
 pre:N.take P.length=P
 par:∀x∈P,sc.names.lookup x=some .local\/sc.names.lookup x=some .cell
 nofree:∀y∈sc.names,y.2≠.free
theorem a1a {kindOf:Str->Option NameKind}{x:Str}:∀{binds:List (Str×Value)} {m:Str->Option Value},(∀v,(x,v)∉binds)->bindL kindOf binds m x=m x
 | [],_,_=>rfl
 | (n,v)::r,m,h=>by
  unfold bindL;rw[a1a fun w hw=>h w (zN _ hw)]
  split
  ·have:x≠n:=by rintro rfl;exact h v zR
   simp[this]
  ·rfl
theorem a1c {kindOf:Str->Option NameKind}{x:Str}:∀{binds:List (Str×Value)} {m:Str->Option Value},(∀v,(x,v)∉binds)->bindC kindOf binds m x=m x
 | [],_,_=>rfl
 | (n,v)::r,m,h=>by
  unfold bindC;rw[a1c fun w hw=>h w (zN _ hw)]
  split
  ·rfl
  ·have:x≠n:=by rintro rfl;exact h v zR
   simp[this]
theorem a0D {kindOf:Str->Option NameKind}{x:Str}{v:Value}:∀{P:List Str} {vs:List Value} {i:Nat} {m:Str->Option Value},P.Nodup->P[i]? =some x->vs[i]? =some v->kindOf x=some .local->
  bindL kindOf (P.zip vs) m x=some v
 | [],_,_,_,_,h,_,_=>by simp at h
 | _::_,[],_,_,_,_,h,_=>by simp at h
 | p::P,w::vs,0,m,nd,h1,h2,hk=>by
  simp at h1 h2;subst h1;subst h2;show bindL kindOf ((p,w)::P.zip vs) m p=_;unfold bindL;rw[a1a fun v hv=>(yA.mp nd).1 (of_mem_zip hv).1,if_pos hk];simp
 | p::P,w::vs,i+1,m,nd,h1,h2,hk=>by
  show bindL kindOf ((p,w)::P.zip vs) m x=_;unfold bindL;exact a0D (i:=i) (yA.mp nd).2 (by simpa using h1) (by simpa using h2) hk
theorem a0I {kindOf:Str->Option NameKind}{x:Str}{v:Value}:∀{P:List Str} {vs:List Value} {i:Nat} {m:Str->Option Value},P.Nodup->P[i]? =some x->vs[i]? =some v->kindOf x≠some .local->
  bindC kindOf (P.zip vs) m x=some v
 | [],_,_,_,_,h,_,_=>by simp at h
 | _::_,[],_,_,_,_,h,_=>by simp at h
 | p::P,w::vs,0,m,nd,h1,h2,hk=>by
  simp at h1 h2;subst h1;subst h2;show bindC kindOf ((p,w)::P.zip vs) m p=_;unfold bindC;rw[a1c fun v hv=>(yA.mp nd).1 (of_mem_zip hv).1,if_neg hk];simp
 | p::P,w::vs,i+1,m,nd,h1,h2,hk=>by
  show bindC kindOf ((p,w)::P.zip vs) m x=_;unfold bindC;exact a0I (i:=i) (yA.mp nd).2 (by simpa using h1) (by simpa using h2) hk
def start (N:List Str) (vs:List V):St:=vs.map some++List.replicate (N.length-vs.length) none
def cxOf (CX:CXT) (P:Program) (w:World) (K:PySem.W.Frag) (mg:Str->Option Value) (base:Heap) (N:List Str) (qual:Str) (scope:Scope) (f:Addr) (cd:Value) (A:Around) (outer:List Env) (s:Shared) (H:Hp) (E:XK):Cx where
 prog:=P
 w:=w
 K:=K
 mg:=mg
 base:=base
 A:=A.deeper (envOfC qual scope s.heap.objs.size f cd)
 N:=N
 s₀:=s
 H₀:=H
 env:=envOfC qual scope s.heap.objs.size f cd
 outer:=outer
 stack:=envOfC qual scope s.heap.objs.size f cd::outer
 ex:=[]
 calm:=true
 fn:=fun _=>true
 pn:=[]
 xe:=fun e s'=>wpAny (model P w) (A.deeper (envOfC qual scope s.heap.objs.size f cd)) (leaving (envOfC qual scope s.heap.objs.size f cd) e) (fun _ s''=>CX outer H s E e s'') (fun e' s''=>CX outer H s E e' s'') s'
theorem a12 {sc:Scope}{n:Nat}{x:Str}(h:sc.names.lookup x=some .cell):∃c,(cellsFrom n sc.names []).lookup x=some c:=by
 have q:=PySem.W.cellsFrom_some sc.names n [] (.inl h);exact jP.mp q
theorem a48 {CX:CXT}{P:Program}{w:World}{K:PySem.W.Frag}{mg:Str->Option Value}{base:Heap}{N ps:List Str}{qual:Str}{scope:Scope}{f:Addr}{cd:Value}{A:Around}{outer:List Env}{s s1:Shared}{H:Hp}{E:XK}{us:List Value}{vs:List V}
  (S:FnScope N ps scope) (hd:A.handled=none) (e0:Env0 P w K mg base A outer s H) (hl:vs.length=ps.length) (r:Vals vs us)
  (x:InCallC s s.heap.objs.size (bindL (envOfC qual scope s.heap.objs.size f cd).kindOf (ps.zip us) fun _=>none) (cellsFrom (s.heap.objs.size+1) scope.names []) (bindC (envOfC qual scope s.heap.objs.size f cd).kindOf (ps.zip us) fun _=>none) s1):
  Inv (cxOf CX P w K mg base N qual scope f cd A outer s H E) [] (start N vs) H s1:=by
 have hpl:ps.length<=N.length:=by have:=xG List.length S.pre;rw[jX] at this;walk_at "o"
 obtain⟨h1,tk,rfl,hk⟩:=x.done;have noA:∀b:Addr,b∉(cxOf CX P w K mg base N qual scope f cd A outer s H E).ex:=fun b z=>absurd (show b∈([]:List Addr) from z) (by simp)
 refine⟨⟨e0.mod,S.kind,rfl,rfl,zE _,fun y z c h1 h2=>?_,fun y hy=>?_,fun y c _ h=>?_,fun _=>hd,Around.frames_deeper e0.frames,.inr ⟨rfl,rfl⟩,fun b z=>absurd z (noA b),e0.bs,e0.bsz,fun b _ _=>noA b,fun b z=>absurd z (noA b),e0.funs,e0.frf⟩,
  rfl,e0.bare,Un.kept hk,⟨_,x.toInCall.ns,fun i y v h1 h2 h3=>?_⟩,fun y c h=>⟨_,x.cell y c h⟩,e0.hok.fresh (zE _),fun y c h=>?_,fun p hp=>absurd (show p∈([]:List (Addr×Obj)) from hp) (by simp),e0.hok.kept hk,?_⟩
 ·exact name_of_addr x.apart (xU h1) (xU h2)
 ·have hy:scope.names.lookup y=some .cell\/scope.names.lookup y=some .free:=hy;rcases hy with hy|hy
  ·exact a12 hy
  ·exact absurd rfl (S.nofree _ (xU hy))
 ·exact Nat.le_of_lt (x.above y c (xU h))
 ·have hi:i<vs.length:=by
   unfold start at h2
   by_cases hi:i<vs.length
   ·exact hi
   ·rw[zT (by simpa using hi)] at h2
    rw[List.getElem?_replicate] at h2;split at h2<;>cases h2
  have ha:vs[i]? =some v:=by
   unfold start at h2;rw[zQ (by simpa using hi),zW] at h2
   cases e:vs[i]? with
   | none=>rw[e] at h2;cases h2
   | some a=>rw[e] at h2;cases h2;rfl
  obtain⟨u,hu,rv⟩:=r.get ha;have hp:ps[i]? =some y:=by
   rw[<-S.pre,List.getElem?_take_of_lt (by walk_at "o")];exact h1
  have ndP:ps.Nodup:=by rw[<-S.pre];exact S.nd.sublist (List.take_sublist _ _)
  refine⟨u,rv,?_⟩;rcases S.par y (qR hp) with k|k
  ·exact .inl ⟨k,a0D ndP hp hu k⟩
  ·obtain⟨c,e⟩:=a12 (n:=s.heap.objs.size+1) k;refine .inr ⟨.inl k,c,e,?_⟩;have q:=x.cell y c e;rw[a0I ndP hp hu (by show scope.names.lookup y≠_;rw[k];decide)] at q
   exact q
 ·exact e0.hok.fresh (Nat.le_of_lt (x.above y c (xU h)))
 ·unfold start;show _=N.length;rw[zZ,zD,List.length_replicate];walk_at "o"
theorem fn_of {CX:CXT}{P:Program}{w:World}{K:PySem.W.Frag}{mg:Str->Option Value}{base:Heap}{k:Nat}{f:Addr}{name qual:Str}{params:Arguments}{body:List Stmt}{scope:Scope}{dV kV doc pm cdv ct oc:Value}{an od:Option Addr}
  {osl:Array (Option Value)} {N ps:List Str} {sp:Sp} (lk:K.lookup f=some ⟨oc,od,.func (PySem.W.fnOf name qual params body scope dV kV doc pm an cdv ct),osl⟩) (hcd:PySem.W.codeIn K cdv qual=true) (S:FnScope N ps scope)
  (len:∀vs H Q E,sp vs H Q E->vs.length=ps.length)
  (hbody:∀(A:Around) (outer:List Env) (s:Shared) (H:Hp) (vs:List V) (Q:VK) (E:XK),Room k (A.deeper (envOfC qual scope s.heap.objs.size f cdv))->sp vs H Q E->
   ∃t,PSs (cxOf CX P w K mg base N qual scope f cdv A outer s H E) body t/\t {nx:=fun _ H'=>Q .non H',rt:=Q} (start N vs) H):
  FnOk P w K mg base CX (k+1) f (PySem.W.fnOf name qual params body scope dV kV doc pm an cdv ct) ps sp:=by
 refine⟨len,fun A outer s H args us vs Q E hr e0 hb r hsp=>?_⟩;have hl:=len _ _ _ _ hsp;have KX:K.In s.heap:=e0.mod.kin.keeps fun b o e=>(e0.bs b o e).1;have lim:s.heap.NoLimit:=e0.mod.nolimit.keeps fun b o e=>(e0.bs b o e).1;have hkind:∀y∈ps.zip us,scope.names.lookup y.1=some .local\/(scope.names.lookup y.1=some .cell/\((cellsFrom (s.heap.objs.size+1) scope.names []).lookup y.1).isSome=true):=fun⟨n,v⟩ hy=>by
  rcases S.par n (of_mem_zip hy).1 with q|q
  ·exact .inl q
  ·exact .inr ⟨q,PySem.W.cellsFrom_some _ _ _ (.inl q)⟩
 refine codeAny_call_function hr.depth (KX _ _ lk) rfl S.co S.gen rfl (PySem.W.codeRec_of KX hcd) (hb _ _ _ _ ?_);refine wpAny_newFunctionEnv_cells S.kind hkind fun env he s1 x=>?_;subst he;refine⟨lim.keeps x.toInCall.keep,codeAny_func ?_⟩;obtain⟨t,ht,hq⟩:=hbody A outer s H vs Q E (hr.deeper _) hsp;have I:Inv (cxOf CX P w K mg base N qual scope f cdv A outer s H E) [] (start N vs) H s1:=a48 S hr.hd e0 hl r x;refine qB (ht [] s1 (start N vs) H _ I hq) (fun fl s' hs=>?_) fun e s' hs=>hs;have fin:∀{σ':St} {H':Hp} {v:V} {u:Value},Inv (cxOf CX P w K mg base N qual scope f cdv A outer s H E) [] σ' H' s'->RelV v u->Q v H'->CE outer P w H s Q u s':=
  fun{σ' H' v u} J rv q=>⟨v,H',J.os,J.bare,J.base,J.hok,rv,q⟩
 cases fl with
 | ret u=>
  obtain⟨v,σ',H',J,rv,q⟩:=hs;exact fin J rv q
 | next=>
  obtain⟨σ',H',J,q⟩:=hs;exact fin (v:=V.non) (u:=Value.none) J rfl q
 | brk=>
  obtain⟨_,_,_,q⟩:=hs;exact False.elim q
 | cont=>
  obtain⟨_,_,_,q⟩:=hs;exact False.elim q
section
variable {X:Cx}{x:Str}{p pos:Pos}{e:Expr}{es:List Expr}{t:TA}{id T:String}{r:List V->Hp->VK->Prop}
def tCB (r:List V->Hp->VK->Prop) (t:TA):TE:=fun σ H Q=>t σ H fun vs H1=>r vs H1 Q
theorem P5 (hc:CallR X (.builtin id) r)(hg:Gl X x)(hm:X.mg x=none)(hv:bootBuiltins x=some (.builtin id))(ha:PA X (e::es) t)(hn:x≠"__name__":=by decide)(hdb:(x==("__debug__":Str))=false:=by decide)
  (he:starEach (e::es) X.env=(false,eval e X.env)::starEach es X.env:=by rfl) (hpl:(backTo pos (starEach es X.env)).any (·.1)=false:=by rfl):PE X (.Call (.Name x p) (e::es) [] pos) (tCB r t):=by
 intro pins s σ H Q I h;refine xZ (K1 I hg hm hv ?_ hn hdb);exact PyProof.Rows.callWith_builtin1 (thn (ha pos pins s σ H _ I h) fun us s1 h0=>ex5 h0 fun vs H1 I1 r1 q1=>hc pins s1 σ H1 vs us Q I1 r1 q1) he hpl
theorem U6 (hc:CallR X (.type T) r)(hg:Gl X x)(hm:X.mg x=none)(hv:bootBuiltins x=some (.type T))(ha:PA X (e::es) t)(hn:x≠"__name__":=by decide)(hdb:(x==("__debug__":Str))=false:=by decide)
  (he:starEach (e::es) X.env=(false,eval e X.env)::starEach es X.env:=by rfl) (hpl:(backTo pos (starEach es X.env)).any (·.1)=false:=by rfl):PE X (.Call (.Name x p) (e::es) [] pos) (tCB r t):=by
 intro pins s σ H Q I h;refine xZ (K1 I hg hm hv ?_ hn hdb);exact jF (thn (ha pos pins s σ H _ I h) fun us s1 h0=>ex5 h0 fun vs H1 I1 r1 q1=>hc pins s1 σ H1 vs us Q I1 r1 q1) he hpl
end
end L2
namespace HT
open PySem PyProof.Rows
def lexLt:List Int->List Int->Bool
 | [],[]=>false
 | [],_::_=>true
 | _::_,[]=>false
 | x::xs,y::ys=>if x=y then lexLt xs ys else decide (x<y)
theorem lexLt_cons (x y:Int)(xs ys:List Int):lexLt (x::xs) (y::ys)=if x=y then lexLt xs ys else decide (x<y):=rfl
theorem a0q:lexLt [] []=false:=rfl
theorem Y1 (y:Int)(ys:List Int):lexLt [] (y::ys)=true:=rfl
theorem Z9 (x:Int)(xs:List Int):lexLt (x::xs) []=false:=rfl
theorem a53 (A:Around)(s:Shared)(a:Int)(t:Tok)(c:Int)(u:Tok):∃e,SeqAt.EqAt A s (.int a t) (.int c u) e/\(e=true↔a=c):=
 ⟨(a==c),SeqAt.EqAt.int_int a t c u,by simp⟩
theorem a6Q (A:Around)(s:Shared)(a:Int)(t:Tok)(c:Int)(u:Tok)(prog:Program)(w:World)(E:Value->Shared->Prop)(Q:Value->Shared->Prop)(h:Q (.bool (decide (a<c))) s):
  wpAny (model prog w) A (richCompare .Lt (.int a t) (.int c u)) Q E s:=
 (PyProof.Rows.lt_int h:wpAny (model prog w) A (compareOp .Lt (.int a t) (.int c u)) Q E s)
section
open PySem.SeqAt
open PySem.AutoSeq1 (wpAny_loadPart')
open PySem.MeetsSeq PySem.MeetsSeq2 PySem.MeetsSeq3
theorem a0y (l b:Addr)(items items2:Array Value)(n n2:Nat)(dd dd2:Option Addr)(sl sl2:Array (Option Value))(ns ms:List Int)(hi:IntsAre items.toList ns)(hj:IntsAre items2.toList ms):
  Meets (Builtin.«tuple.__lt__» ⟨[.ref l,.ref b],[]⟩)
   (fun _ R s=>s.heap.get? l=some {cls:=.type "tuple",dict:=dd,data:=.seq items n,slots:=sl}/\s.heap.get? b=some {cls:=.type "tuple",dict:=dd2,data:=.seq items2 n2,slots:=sl2}/\
    R (.ok (.ret (.bool (lexLt ns ms)))) s):=
 .of_wp fun prog w A R s h=>by
  obtain⟨hp,g,d,tk,os⟩:=s;obtain⟨hl,hb,h⟩:=h;have f2:=AutoSeq1.sub_tuple_tuple;have z1:items.size=ns.length:=by rw[<-hi.length];simp
  have z2:items2.size=ms.length:=by rw[<-hj.length];simp
  wp_walk using wpAny_loadPart' hl,wpAny_loadPart' hb,wpAny_forIn_list _ (fun rest b s'=>b.1=none/\s'=⟨hp,g,d,tk,os⟩/\∃(vs ws:List Value) (ns' ms':List Int),rest=vs.zip ws/\
   IntsAre vs ns'/\IntsAre ws ms'/\ns'.length+items2.size=ms'.length+items.size/\R (.ok (.ret (.bool (lexLt ns' ms')))) ⟨hp,g,d,tk,os⟩) _
  case turn=>
   rintro⟨y,x⟩ rest b s' ⟨hb',rfl,vs,ws,ns',ms',hz,hvi,hwi,hlen,hR⟩;cases hvi with
   | nil=>rw[zip_nil_left] at hz;cases hz
   | cons a t hvi'=>
    cases hwi with
    | nil=>rw[List.zip_nil_right] at hz;cases hz
    | cons c u hwi'=>
     rw[jT] at hz;injection hz with hyx hrest
     injection hyx with hy hx
     subst hy hx;rw[lexLt_cons] at hR;simp only[qL] at hlen;obtain⟨e,he,hiff⟩:=a53 A.in1 ⟨hp,g,d,tk,os⟩ a t c u;refine zA (he prog w _ _ ?_);cases e with
     | true=>
      rw[if_pos (hiff.mp rfl)] at hR
      wp_walk
      exact⟨rfl,rfl,_,_,_,_,hrest,hvi',hwi',by walk_at "o",hR⟩
     | false=>
      rw[if_neg (fun q=>absurd (hiff.mpr q) zP)] at hR;have hri:=a6Q A.in1 ⟨hp,g,d,tk,os⟩ a t c u prog w
      wp_walk using hri
      exact⟨_,rfl,by simpa using hR⟩
  case fin=>
   rintro⟨b1,b2⟩ s' ⟨hb',rfl,vs,ws,ns',ms',hz,hvi,hwi,hlen,hR⟩;simp only at hb';subst hb';have hv:lexLt ns' ms'=decide (items.size<items2.size):=by
    cases hvi with
    | nil=>
     cases hwi with
     | nil=>
      simp only[yB] at hlen;rw[a0q];exact(qG (by walk_at "o")).symm
     | cons c u hw=>
      simp only[yB,qL] at hlen;rw[Y1];exact(qE (by walk_at "o")).symm
    | cons a t hv=>
     cases hwi with
     | nil=>
      simp only[yB,qL] at hlen;rw[Z9];exact(qG (by walk_at "o")).symm
     | cons c u hw=>
      rw[jT] at hz;cases hz
   rw[hv] at hR
   wp_walk
   exact⟨_,rfl,by simpa [Builtin.Tuple.tupleCompareSizes] using hR⟩
  case h=>
   exact⟨rfl,rfl,items.toList,items2.toList,ns,ms,rfl,hi,hj,by walk_at "o",h⟩
end
section
variable {prog:Program}{w:World}{A:Around}{E:Value->Shared->Prop}{s:Shared}
theorem lt_tupInts {l b:Addr}{items items2:Array Value}{ns ms:List Int}{Q:Value->Shared->Prop}(hl:IsTup s.heap l items)(hb:IsTup s.heap b items2)(hi:IntsAre items.toList ns)(hj:IntsAre items2.toList ms)
  (hu:A.units<cLine) (h:Q (.bool (lexLt ns ms)) s):wpAny (model prog w) A (compareOp .Lt (.ref l) (.ref b)) Q E s:=by
 obtain⟨⟨cls,dd,data,sl⟩,ho,hc,n,hd⟩:=id hl;obtain⟨⟨cls2,dd2,data2,sl2⟩,ho2,hc2,n2,hd2⟩:=id hb;simp only at hc hd hc2 hd2;subst hc hd hc2 hd2;exact richCompare_meets_room (op:=.Lt) ⟨_,ho,rfl⟩ ⟨_,ho2,rfl⟩ PySem.F.slot_tuple_lt PySem.F.entry_tuple_lt (PySem.F.args_tuple_lt_2 _ _) (a0y l b items items2 n n2 dd dd2 sl sl2 ns ms hi hj)
  ⟨ho,ho2,show Value.bool (lexLt ns ms)≠Value.notImplemented/\Q (.bool (lexLt ns ms)) s from⟨(fun x=>nomatch x),h⟩⟩ hu
theorem cat_tup {t b:Addr}{vs ws:List Value}{Q:Value->Shared->Prop}(ht:IsTup s.heap t vs.toArray)(hb:IsTup s.heap b ws.toArray)(hv:vs≠[])
  (h1:ws=[]->Q (.ref t) s) (h2:ws≠[]->Q (.ref s.heap.objs.size) {s with heap:=s.heap.push {cls:=.type "tuple",data:=.seq (vs++ws).toArray}})
  (hsz:vs.length+ws.length<=sizeLine):wpAny (model prog w) A (binaryOp .Add (.ref t) (.ref b)) Q E s:=by
 obtain⟨⟨cls,dd,data,sl⟩,ho,hc,n,hd⟩:=id ht;obtain⟨⟨cls2,dd2,data2,sl2⟩,ho2,hc2,n2,hd2⟩:=id hb;simp only at hc hd hc2 hd2;subst hc hd hc2 hd2;have e:vs.toArray++ws.toArray=(vs++ws).toArray:=by simp
 by_cases hw:ws=[]
 ·exact concat_meets ⟨_,ho,rfl⟩ ⟨_,ho2,rfl⟩ noFill_tuple_add seq_tuple_add PySem.F.slot_tuple_add PySem.F.entry_tuple_add (PySem.F.args_tuple_add_2 _ _)
   (tuple_addW1 t b vs.toArray ws.toArray n n2 dd dd2 sl sl2 (by simpa using hv) (by simp[hw])) ⟨ho,ho2,h1 hw⟩
 ·refine concat_meets ⟨_,ho,rfl⟩ ⟨_,ho2,rfl⟩ noFill_tuple_add seq_tuple_add PySem.F.slot_tuple_add PySem.F.entry_tuple_add (PySem.F.args_tuple_add_2 _ _)
   (tuple_addW2 t b vs.toArray ws.toArray n n2 dd dd2 sl sl2 (by simpa using hv) (by simpa using hw) (by rw[zV,zV];exact hsz)) ⟨ho,ho2,?_⟩
  rw[e];exact h2 hw
def sIx (n d:Nat):Option Int->Nat
 | none=>d
 | some v=>if v<0 then(v+(n:Int)).toNat else min v.toNat n
theorem sIx_none (n d:Nat):sIx n d none=d:=rfl
theorem sIx_nat (n d k:Nat):sIx n d (some (k:Int))=min k n:=by
 show(if(k:Int)<0 then((k:Int)+(n:Int)).toNat else min (k:Int).toNat n)=min k n;rw[if_neg (by walk_at "o"),zI]
theorem a9T (n d:Nat)(hd:d<=n)(o:Option Int):sIx n d o<=n:=by
 cases o with
 | none=>exact hd
 | some v=>
  show(if v<0 then(v+(n:Int)).toNat else min v.toNat n)<=n
  by_cases hv:v<0
  ·rw[if_pos hv];walk_at "o"
  ·rw[if_neg hv];exact Nat.min_le_right _ _
theorem a3f (v:Int)(n d:Nat):(if v<0 then max (v+(n:Int)) 0 else min v (n:Int))=((sIx n d (some v):Nat):Int):=by
 show(if v<0 then max (v+(n:Int)) 0 else min v (n:Int))=(((if v<0 then(v+(n:Int)).toNat else min v.toNat n):Nat):Int)
 by_cases hv:v<0
 ·simp only[if_pos hv];walk_at "o"
 ·simp only[if_neg hv];walk_at "o"
theorem a2N (lo hi:Option Int)(n:Nat):Builtin.Slice.sliceAdjust lo hi 1 (n:Int)=(((sIx n 0 lo:Nat):Int),((sIx n n hi:Nat):Int)):=by
 have h1:¬((1:Int)<0):=by walk_at "o"
 unfold Builtin.Slice.sliceAdjust;simp only[h1,jK];refine Prod.ext ?_ ?_
 ·cases lo with
  | none=>rfl
  | some v=>exact a3f v n 0
 ·cases hi with
  | none=>rfl
  | some v=>exact a3f v n n
theorem a2Q (i j:Nat):Builtin.Slice.slicePlaces (i:Int) (j:Int) 1=j-i:=by
 unfold Builtin.Slice.slicePlaces;have h1:(1:Int)>0:=by walk_at "o"
 simp only[h1,qW,Int.ediv_one]
 split<;>walk_at "o"
theorem Y2 {v:Value}{o:Option Int}{Q:Option Int->Shared->Prop}(p:IsPart v o)(h:Q o s):wpAny (model prog w) A (Builtin.Slice.slicePartIndex v) Q E s:=by
 cases p with
 | none=>exact slicePart_none h
 | int i t=>exact slicePart_int h
theorem sliceApplied_gen {sl:Addr}{vl vu:Value}{lo hi:Option Int}{n:Nat}{Q:Int×Int×Nat->Shared->Prop}(hs:s.heap.IsSliceOf sl vl vu .none)(pl:IsPart vl lo)(pu:IsPart vu hi)
  (h:Q (((sIx n 0 lo:Nat):Int),1,sIx n n hi-sIx n 0 lo) s):wpAny (model prog w) A (Builtin.Slice.sliceApplied (.ref sl) (pure (n:Int))) Q E s:=by
 obtain⟨os,hos,hcs,hds⟩:=id hs;unfold Builtin.Slice.sliceApplied Builtin.Slice.sliceFields;refine zA (zA (qZ hos hds (x:=vl) rfl (zA (qZ hos hds (x:=vu) rfl (zA (qZ hos hds (x:=.none) rfl (zB ?_)))))));refine zA (slicePart_none ?_);show wpAny _ _ (if((1:Int)==0)=true then _ else _) _ _ s;rw[if_neg (by decide)]
 refine zA (Y2 pl (zA (Y2 pu (zA (zB ?_)))));show wpAny _ _ (match Builtin.Slice.sliceAdjust lo hi 1 (n:Int) with|(lo,hi)=>pure (lo,(1:Int),Builtin.Slice.slicePlaces lo hi 1)) _ _ s
 rw[a2N lo hi n];show wpAny _ _ (pure (((sIx n 0 lo:Nat):Int),(1:Int),Builtin.Slice.slicePlaces ((sIx n 0 lo:Nat):Int) ((sIx n n hi:Nat):Int) 1)) _ _ s;rw[a2Q];exact zB h
theorem a5Z (xs:Array Value)(i k:Nat):((List.range k).filterMap fun(m:Nat)=>xs[((i:Int)+(m:Int)*1).toNat]?).toArray=((xs.toList.drop i).take k).toArray:=by
 have e:(fun(m:Nat)=>xs[((i:Int)+(m:Int)*1).toNat]?)=fun m=>xs[i+m]?:=by
  funext m
  have:((i:Int)+(m:Int)*1).toNat=i+m:=by walk_at "o"
  rw[this]
 rw[e]
 have:=pick_run xs i k
 rw[List.filterMap_map] at this;have e2:((fun x=>xs[x]?)∘fun x=>i+x)=fun m=>xs[i+m]?:=rfl;rw[e2] at this;rw[this]
theorem getItem_tuple_cut {t sl:Addr}{items:Array Value}{vl vu:Value}{lo hi:Option Int}{Q:Value->Shared->Prop}(ht:IsTup s.heap t items)(hs:s.heap.IsSliceOf sl vl vu .none)(pl:IsPart vl lo)(pu:IsPart vu hi)
  (hw:¬(sIx items.size 0 lo=0/\sIx items.size items.size hi=items.size))
  (h:Q (.ref s.heap.objs.size) {s with heap:=s.heap.push {cls:=.type "tuple",data:=.seq ((items.toList.drop (sIx items.size 0 lo)).take (sIx items.size items.size hi-sIx items.size 0 lo)).toArray}})
  (hsz:items.size<=sizeLine):wpAny (model prog w) A (getItem (.ref t) (.ref sl)) Q E s:=by
 have htake:sizeOk (.seq ((items.toList.drop (sIx items.size 0 lo)).take (sIx items.size items.size hi-sIx items.size 0 lo)).toArray):=by
  show((items.toList.drop (sIx items.size 0 lo)).take (sIx items.size items.size hi-sIx items.size 0 lo)).toArray.size<=sizeLine;rw[zV,jX,jG,qD];omega
 have hj:sIx items.size items.size hi<=items.size:=a9T _ _ (zE _) hi;obtain⟨os,hos,hcs,hds⟩:=id hs;have hTs:s.TypeIs (.ref sl) "slice":=⟨os,hos,hcs⟩;unfold getItem
 try with_reducible refine qM ?_
 first|refine zA (zB ?_)|skip
 refine zA (yI ht.typeIs (by decide) ?_)
 refine zA (qK (name:=Str.ofString "__getitem__") ht.typeIs qJ
  (qI qJ ht.typeIs entry_tuple_getitem ?_ (args_tuple_getitem _ _)))
 show wpAny _ _ (Builtin.Tuple.tupleItemsOf (.ref t) >>=_) _ _ s;refine zA (tupleItemsOf_ ht ?_);refine zA (wpAny_typeOf hTs ?_);rw[if_pos (by decide)]
 refine zA (sliceApplied_gen hs pl pu ?_);have hno:¬((((sIx items.size 0 lo:Nat):Int)==0&&(1:Int)==1&&(sIx items.size items.size hi-sIx items.size 0 lo)==items.size)=true):=by
  intro q;rw[jV,jV] at q;have q1:((sIx items.size 0 lo:Nat):Int)=0:=eq_of_beq q.1.1;have q2:sIx items.size items.size hi-sIx items.size 0 lo=items.size:=eq_of_beq q.2;exact hw ⟨by omega,by omega⟩
 show wpAny _ _ (if(((sIx items.size 0 lo:Nat):Int)==0&&(1:Int)==1&&(sIx items.size items.size hi-sIx items.size 0 lo)==items.size)=true then _ else _) _ _ s;rw[if_neg hno,a5Z]
 first
  | exact zA (m:=Builtin.Tuple.tupleExact _) (qF (zB ⟨_,rfl,zB h⟩) htake)
  | exact zA (m:=Builtin.Tuple.tupleExact _) (qF (zA (zB (zB ⟨_,rfl,zB h⟩))) htake)
  | exact zA (zA (m:=Builtin.Tuple.tupleExact _) (qF (zB (zB ⟨_,rfl,zB h⟩)) htake))
  | exact zA (zA (m:=Builtin.Tuple.tupleExact _) (qF (zB ⟨_,rfl,zB h⟩) htake))
end
end HT
namespace L2
open PySem PySem.Spec PyProof.Rows
abbrev TO:=St->Hp->(Option Int->Hp->Prop)->Prop
def PO (X:Cx) (e:Option Expr) (t:TO):Prop:=
 ∀(pins:List (Addr×Obj)) (s:Shared) (σ:St) (H:Hp) (Q:Option Int->Hp->Prop),Inv X pins σ H s->t σ H Q->
  wpAny (model X.prog X.w) X.A (evalPart e X.env) (fun u s'=>∃o H',Inv X pins σ H' s'/\IsPart u o/\Q o H') X.xe s
def tNoPart:TO:=fun _ H Q=>Q none H
def tPart (t:TE):TO:=fun σ H Q=>t σ H fun x H1=>∃i,x= .int i/\Q (some i) H1
theorem F4 {ns:List Int}:∀{us:List Value},Vals (ns.map V.int) us->IntsAre us ns:=by
 induction ns with
 | nil=>intro us r;rw[xY] at r;cases r;exact .nil
 | cons n ns ih=>
  intro us r;rw[zJ] at r;cases r with
  | cons r1 r2=>
   obtain⟨t,e⟩:=r1;subst e;exact .cons n t (ih r2)
section
variable {X:Cx}{e:Expr}{te:TE}{lo hi:Option Expr}{tl th:TO}{pos p2:Pos}
theorem a7p:PO X none tNoPart:=by
 intro pins s σ H Q I h;rw[evalPart_none];exact zB ⟨none,H,I,.none,h⟩
theorem a7j (h:PE X e te):PO X (some e) (tPart te):=by
 intro pins s σ H Q I hw;rw[evalPart_some];refine thn (h pins s σ H _ I hw) fun u s1 h0=>ex5 h0 fun x H1 I1 r1 q1=>?_;obtain⟨i,rfl,q⟩:=q1;obtain⟨t,rfl⟩:=r1;exact⟨some i,H1,I1,.int i t,q⟩
def SlR (X:Cx) (r:V->Option Int->Option Int->Hp->VK->Prop):Prop:=
 ∀(pins:List (Addr×Obj)) (s:Shared) (σ:St) (H:Hp) (x:V) (v vl vu:Value) (lo hi:Option Int) (sl:Addr) (Q:VK),Inv X pins σ H s->RelV x v->s.heap.IsSliceOf sl vl vu .none->IsPart vl lo->IsPart vu hi->r x lo hi H Q->
  ∃T id,typeLookup (.type T) "__getitem__"=pure (some (.builtin id))/\s.TypeIs v T/\wpAny (model X.prog X.w) X.A (getItem v (.ref sl)) (EP X pins σ Q) X.xe s
theorem SlR.or {r r':V->Option Int->Option Int->Hp->VK->Prop}(h:SlR X r)(h':SlR X r'):SlR X (fun x lo hi H Q=>r x lo hi H Q\/r' x lo hi H Q):=by
 intro pins s σ H x v vl vu lo hi sl Q I rx hs pl pu q;rcases q with q|q
 ·exact h pins s σ H x v vl vu lo hi sl Q I rx hs pl pu q
 ·exact h' pins s σ H x v vl vu lo hi sl Q I rx hs pl pu q
def tSl (r:V->Option Int->Option Int->Hp->VK->Prop) (te:TE) (tl th:TO):TE:=fun σ H Q=>te σ H fun x H1=>tl σ H1 fun l H2=>th σ H2 fun u H3=>r x l u H3 Q
theorem a6P {r:V->Option Int->Option Int->Hp->VK->Prop}(hr:SlR X r)(he:PE X e te)(hl:PO X lo tl)(hu:PO X hi th):PE X (.Subscript e (.Slice lo hi none p2) pos) (tSl r te tl th):=by
 intro pins s σ H Q I h;refine Subscript_ (thn (he pins s σ H _ I h) fun v s1 h0=>ex5 h0 fun x H1 I1 r1 q1=>?_);refine wpAny_Slice (thn (hl pins s1 σ H1 _ I1 q1) fun vl s2 ⟨l,H2,I2,pl,q2⟩=>thn (hu pins s2 σ H2 _ I2 q2) fun vu s3 ⟨u,H3,I3,pu,q3⟩=>?_);rw[evalPart_none];refine zB ?_;have I4:Inv X pins σ H3 {s3 with heap:=s3.heap.push {cls:=.type "slice",data:=.fields #[vl,vu,.none]}}:=I3.kept (t':=s3.toks) fun b ob q=>zC _ q
 obtain⟨T,id,hT,ht,hg⟩:=hr pins {s3 with heap:=s3.heap.push {cls:=.type "slice",data:=.fields #[vl,vu,.none]}} σ H3 x v vl vu l u s3.heap.objs.size Q I4 r1 (Heap.IsSliceOf.new ..) pl pu q3
 show wpAny (model X.prog X.w) X.A (subscriptTail e (.Slice lo hi none p2) v (.ref s3.heap.objs.size)) (EP X pins σ Q) X.xe {s3 with heap:=s3.heap.push {cls:=.type "slice",data:=.fields #[vl,vu,.none]}}
 exact tail_any (ops:=[.ref s3.heap.objs.size,v]) ht hT hg (by with_unfolding_all rfl)
def cutV (xs:List V) (lo hi:Option Int):List V:=(xs.drop (HT.sIx xs.length 0 lo)).take (HT.sIx xs.length xs.length hi-HT.sIx xs.length 0 lo)
theorem V6 (xs:List V)(lo hi:Option Int):(cutV xs lo hi).length<=xs.length:=by
 unfold cutV;rw[jX,jG];walk_at "o"
def rSlT (K:PySem.W.Frag):V->Option Int->Option Int->Hp->VK->Prop:=fun x lo hi H Q=>∃a xs,x= .ref a/\SqT K H a xs/\
 ¬(HT.sIx xs.length 0 lo=0/\HT.sIx xs.length xs.length hi=xs.length)/\∀p,H p=none->Q (.ref p) (upd H p (.tup (cutV xs lo hi)))
theorem a9o:SlR X (rSlT X.K):=by
 intro pins s σ H x v vl vu lo hi sl Q I rx hs pl pu h;obtain⟨a,xs,rfl,hx,hw,q⟩:=h;cases rx;obtain⟨its,r,ht,hz⟩:=I.tuple hx;have hlen:its.toArray.size=xs.length:=by rw[zV];exact r.length.symm
 refine⟨"tuple",_,PyProof.Rows.slot_tuple_getitem.lookup,ht.typeIs,?_⟩;refine HT.getItem_tuple_cut ht hs pl pu (by rw[hlen];exact hw) ?_ (by rw[hlen];exact hz)
 rw[hlen];refine⟨.ref s.heap.objs.size,_,I.laid (t':=s.toks) (o:=.tup (cutV xs lo hi)) (fun b ob q=>zC _ q) (zE _) ?_,rfl,q _ (I.hok.fresh (zE _))⟩;exact⟨qH (V6 xs lo hi) hz,_,(r.drop (HT.sIx xs.length 0 lo)).take (HT.sIx xs.length xs.length hi-HT.sIx xs.length 0 lo),TupN.new _ _⟩
def rLtT (K:PySem.W.Frag):R2:=fun x y H Q=>∃a b ns ms,x= .ref a/\y= .ref b/\SqT K H a (ns.map V.int)/\SqT K H b (ms.map V.int)/\Q (.bl (HT.lexLt ns ms)) H
theorem a9A (hu:X.A.units<cLine):OpR X (compareOp .Lt) (rLtT X.K):=by
 intro pins s σ H x y v u Q I rx ry h;obtain⟨a,b,ns,ms,rfl,rfl,ha,hb,q⟩:=h;cases rx;cases ry;obtain⟨its,r1,p1,_⟩:=I.tuple ha;obtain⟨its2,r2,p2,_⟩:=I.tuple hb;have i1:IntsAre its.toArray.toList ns:=F4 r1;have i2:IntsAre its2.toArray.toList ms:=F4 r2;exact HT.lt_tupInts p1 p2 i1 i2 hu ⟨.bl (HT.lexLt ns ms),H,I,rfl,q⟩
def rCatT (K:PySem.W.Frag):R2:=fun x y H Q=>∃a b xs ys,x= .ref a/\y= .ref b/\SqT K H a xs/\SqT K H b ys/\xs≠[]/\xs.length+ys.length<=sizeLine/\
 (ys=[]->Q (.ref a) H)/\(ys≠[]->∀p,H p=none->Q (.ref p) (upd H p (.tup (xs++ys))))
theorem Vals.nil_iff {xs:List V}{us:List Value}(r:Vals xs us):us=[]↔xs=[]:=by
 cases r with
 | nil=>simp
 | cons _ _=>simp
theorem a7D:OpR X (binaryOp .Add) (rCatT X.K):=by
 intro pins s σ H x y v u Q I rx ry h;obtain⟨a,b,xs,ys,rfl,rfl,ha,hb,hx,hz,q1,q2⟩:=h;cases rx;cases ry;obtain⟨its,r1,p1,_⟩:=I.tuple ha;obtain⟨its2,r2,p2,_⟩:=I.tuple hb;refine HT.cat_tup p1 p2 (fun z=>hx (r1.nil_iff.mp z)) (fun z=>⟨.ref a,H,I,rfl,q1 (r2.nil_iff.mp z)⟩) (fun z=>?_) (by rw[<-r1.length,<-r2.length];exact hz)
 refine⟨.ref s.heap.objs.size,_,I.laid (t':=s.toks) (o:=.tup (xs++ys)) (fun b ob q=>zC _ q) (zE _) ?_,rfl,q2 (fun w=>z (r2.nil_iff.mpr w)) _ (I.hok.fresh (zE _))⟩;exact⟨by rw[zZ];exact hz,_,r1.append r2,TupN.new _ _⟩
end
def ixN (n:Nat) (i:Int):Option Nat:=if 0<=i then(if i<n then some i.toNat else none) else if -(n:Int)<=i then some (i+n).toNat else none
def atI {α:Type} (xs:List α) (i:Int):Option α:=(ixN xs.length i).bind fun j=>xs[j]?
theorem a3Y {n:Nat}{i:Int}{j:Nat}(h:ixN n i=some j):seqIndex? i n=some j/\j<n/\-(n:Int)<=i/\i<n:=by
 unfold ixN at h
 by_cases h0:0<=i
 ·rw[if_pos h0] at h
  by_cases h1:i<n
  ·rw[if_pos h1] at h;have e:i.toNat=j:=qC h;exact⟨by rw[seqIndex_of h0 h1,e],by walk_at "o",by walk_at "o",h1⟩
  ·rw[if_neg h1] at h;cases h
 ·rw[if_neg h0] at h
  by_cases h1:-(n:Int)<=i
  ·rw[if_pos h1] at h;have e:(i+n).toNat=j:=qC h;exact⟨by rw[seqIndex_neg (by walk_at "o") h1,e],by walk_at "o",h1,by walk_at "o"⟩
  ·rw[if_neg h1] at h;cases h
theorem a1r {α:Type}{xs:List α}{i:Int}{v:α}(h:atI xs i=some v):∃j,seqIndex? i xs.length=some j/\xs[j]? =some v/\j<xs.length/\-(xs.length:Int)<=i/\i<xs.length:=by
 unfold atI at h;cases e:ixN xs.length i with
 | none=>rw[e] at h;cases h
 | some j=>
  rw[e] at h;obtain⟨h1,h2,h3,h4⟩:=a3Y e;exact⟨j,h1,h,h2,h3,h4⟩
theorem m9 {α:Type}{xs:List α}{j:Nat}{v:α}(h:xs[j]? =some v):atI xs (j:Int)=some v:=by
 have hj:j<xs.length:=(zK.mp h).1;have e:ixN xs.length (j:Int)=some j:=by
  unfold ixN;rw[if_pos (by walk_at "o"),if_pos (by walk_at "o")];simp
 unfold atI;rw[e];exact h
def PlainIx (b:Expr):Prop:=∀o i,subscripted b false o i=operate [o,i] (getItem o i)
def IxR (X:Cx) (r:R2):Prop:=
 ∀(value slice:Expr) (pins:List (Addr×Obj)) (s:Shared) (σ:St) (H:Hp) (x y:V) (v u:Value) (Q:VK),Inv X pins σ H s->RelV x v->RelV y u->r x y H Q->
  subscripted slice false v u=operate [v,u] (getItem v u)->wpAny (model X.prog X.w) X.A (subscriptTail value slice v u) (EP X pins σ Q) X.xe s
def MtR (X:Cx) (id:String) (r:V->List V->Hp->VK->Prop):Prop:=
 ∀(pins:List (Addr×Obj)) (s:Shared) (σ:St) (H:Hp) (x:V) (xs:List V) (v:Value) (us:List Value) (Q:VK),Inv X pins σ H s->RelV x v->Vals xs us->r x xs H Q->
  wpAny (model X.prog X.w) X.A (call (.builtin id) (v::us)) (EP X pins σ Q) X.xe s
section
variable {X:Cx}{a b:Expr}{ta tb:TE}{pos:Pos}
theorem IxR.or {r r':R2}(h:IxR X r)(h':IxR X r'):IxR X (fun x y H Q=>r x y H Q\/r' x y H Q):=by
 intro value slice pins s σ H x y v u Q I rx ry q hs;rcases q with q|q
 ·exact h value slice pins s σ H x y v u Q I rx ry q hs
 ·exact h' value slice pins s σ H x y v u Q I rx ry q hs
theorem pe_ix {r:R2}(hr:IxR X r)(ha:PE X a ta)(hb:PE X b tb)(hs:PlainIx b):PE X (.Subscript a b pos) (tOp r ta tb):=by
 intro pins s σ H Q I h;exact Subscript_ (binT ha hb I h fun v u s2 x y H2 I2 rx ry q=>hr a b pins s2 σ H2 x y v u Q I2 rx ry q (hs _ _))
def rIxL (K:PySem.W.Frag):R2:=fun x y H Q=>∃p xs i v,x= .ref p/\y= .int i/\SqL K H p xs/\atI xs i=some v/\Q v H
def rIxT (K:PySem.W.Frag):R2:=fun x y H Q=>∃p xs i v,x= .ref p/\y= .int i/\SqT K H p xs/\atI xs i=some v/\Q v H
def rIxS:R2:=fun x y H Q=>∃z i c,x= .str z/\y= .int i/\z.length<=sizeLine/\atI z.cps.toList i=some c/\Q (.str ⟨#[c]⟩) H
theorem a77:IxR X (rIxL X.K):=by
 intro value slice pins s σ H x y v u Q I rx ry h hs;obtain⟨p,xs,i,z,rfl,rfl,hq,he,q⟩:=h;cases rx;obtain⟨t,rfl⟩:=ry;obtain⟨its,r,pl,hz⟩:=I.list hq;obtain⟨j,h1,h2,h3,h4,h5⟩:=a1r he;obtain⟨w,ew,rw'⟩:=r.get h2;have hl:=r.length;have hn:=line63;have fin:EP X pins σ Q w s:=⟨z,H,I,rw',q⟩
 by_cases h0:0<=i
 ·have hj:i.toNat=j:=by
   rw[seqIndex_of h0 h5] at h1;exact qC h1
  exact item_listR pl.isList h0 (by walk_at "o") (by rw[hj];simpa using ew) fin hs
 ·have hj:(i+(its.toArray.size:Int)).toNat=j:=by
   rw[seqIndex_neg (by walk_at "o") h4] at h1
   rw[zV,<-hl];exact qC h1
  exact yE (x:=w) pl.isList.typeIs slot_list_getitem.lookup
   (wpAny_getItem_list_neg (Q:=fun r s'=>r=w/\EP X pins σ Q r s') pl.isList (by walk_at "o") (by rw[zV]<;>walk_at "o") (by walk_at "o") (by rw[hj];simpa using ew) ⟨rfl,fin⟩) hs
theorem a97:IxR X (rIxT X.K):=by
 intro value slice pins s σ H x y v u Q I rx ry h hs;obtain⟨p,xs,i,z,rfl,rfl,hq,he,q⟩:=h;cases rx;obtain⟨t,rfl⟩:=ry;obtain⟨its,r,pl,hz⟩:=I.tuple hq;obtain⟨j,h1,h2,h3,h4,h5⟩:=a1r he;obtain⟨w,ew,rw'⟩:=r.get h2;have hl:=r.length;have hn:=line63;have fin:EP X pins σ Q w s:=⟨z,H,I,rw',q⟩;exact yE (x:=w) pl.typeIs slot_tuple_getitem.lookup
  (getItem_tuple (j:=j) (Q:=fun r s'=>r=w/\EP X pins σ Q r s') pl (by walk_at "o") (by walk_at "o") (by rw[zV,<-hl];exact h1) (by simpa using ew) ⟨rfl,fin⟩) hs
theorem a9e:IxR X rIxS:=by
 intro value slice pins s σ H x y v u Q I rx ry h hs;obtain⟨z,i,c,rfl,rfl,hz,he,q⟩:=h;obtain⟨t,rfl⟩:=rx;obtain⟨t',rfl⟩:=ry;obtain⟨j,h1,h2,h3,h4,h5⟩:=a1r he;have hl:z.cps.toList.length=z.length:=by simp[Str.length]
 rw[hl] at h1 h4 h5;have hn:=line63
 exact tail_any (typeIs_str s z t) slot_str_getitem.lookup (getItem_str (c:=c) (by
  have e1:decide (i < -(2^63:Int))=false:=qG (by walk_at "o")
  have e2:decide (i≥2^63)=false:=qG (by walk_at "o")
  rw[e1,e2,Bool.or_false]) (by rw[h1];simpa using h2) ⟨.str ⟨#[c]⟩,H,I.tok _,⟨_,rfl⟩,q⟩) hs
def rIx (K:PySem.W.Frag):R2:=fun x y H Q=>rIxL K x y H Q\/rIxT K x y H Q\/rIxS x y H Q
theorem a93:IxR X (rIx X.K):=a77.or (a97.or a9e)
theorem a2E (its:List Value)(n j:Nat)(u:Value):Obj.mapSeq (·.setIfInBounds j u) {cls:=.type "list",data:=.seq its.toArray n}={cls:=.type "list",data:=.seq (its.set j u).toArray n}:=by
 simp[Obj.mapSeq]
theorem Inv.lst {pins:List (Addr×Obj)}{σ:St}{H:Hp}{s:Shared}{p:Addr}{xs:List V}(I:Inv X pins σ H s)(h:H p=some (.lst xs)):
  ∃(its:List Value) (n:Nat),Vals xs its/\s.heap.get? p=some {cls:=.type "list",data:=.seq its.toArray n}/\xs.length<=sizeLine:=by
 obtain⟨z,its,n,r,e⟩:=I.hok p _ h;exact⟨its,n,r,e,z⟩
theorem Inv.lstUpd {pins:List (Addr×Obj)}{σ:St}{H:Hp}{s:Shared}{p:Addr}{xs ys:List V}{its its':List Value}{n n':Nat}{f:Obj->Obj}(I:Inv X pins σ H s)(h:H p=some (.lst xs))
  (ho:s.heap.get? p=some {cls:=.type "list",data:=.seq its.toArray n}) (hf:f {cls:=.type "list",data:=.seq its.toArray n}={cls:=.type "list",data:=.seq its'.toArray n'}) (r:Vals ys its') (hz:ys.length<=sizeLine) (t:Nat):
  Inv X pins σ (upd H p (.lst ys)) {s with heap:=s.heap.update p f,toks:=t}:=by
 have e:(s.heap.update p f).get? p=some {cls:=.type "list",data:=.seq its'.toArray n'}:=by
  rw[jL f ho (by rw[hf]<;>rfl),hf]
 refine I.write (x:=p) (e:=p) (by rw[h];trivial) (.inl rfl) (fun b u hb q=>(Heap.get?_update_other _ _ (jA hb)).trans q) ⟨_,e⟩ ?_
 exact⟨hz,its',n',r,e⟩
def rSetL:V->V->V->Hp->(Hp->Prop)->Prop:=fun o i v H Q=>∃p xs k j,o= .ref p/\i= .int k/\H p=some (.lst xs)/\ixN xs.length k=some j/\Q (upd H p (.lst (xs.set j v)))
theorem a5a:PSet X rSetL:=by
 intro pins s σ H o i v ov iv u Q I ro ri rv h;obtain⟨p,xs,k,j,rfl,rfl,hp,hj,q⟩:=h;cases ro;obtain⟨t,rfl⟩:=ri;obtain⟨its,n,r,ho,hz⟩:=I.lst hp;obtain⟨h1,h2,h3,h4⟩:=a3Y hj;have hl:=r.length;have hn:=line63;have I':Inv X pins σ (upd H p (.lst (xs.set j v))) {s with heap:=s.heap.update p (Obj.mapSeq (·.setIfInBounds j u))}:=
  I.lstUpd hp ho (a2E its n j u) (r.set rv j) (by rw[xK];exact hz) s.toks
 by_cases h0:0<=k
 ·have hk:k.toNat=j:=by
   rw[seqIndex_of h0 h4] at h1;exact qC h1
  exact PySem.W.ki_setAt ho h0 (by walk_at "o") (by rw[zV,<-hl];exact h4) (by rw[hk];exact⟨_,I',q⟩)
 ·have hk:(k+(its.toArray.size:Int)).toNat=j:=by
   rw[seqIndex_neg (by walk_at "o") h3] at h1
   rw[zV,<-hl];exact qC h1
  exact PySem.W.ki_setBack ho (by walk_at "o") (by rw[zV,<-hl];exact h3) (by walk_at "o") (by rw[hk];exact⟨_,I',q⟩)
theorem a1v (lo hi:Option Int)(n:Nat):(sliceBounds lo hi none n).1=((HT.sIx n 0 lo:Nat):Int)/\(sliceBounds lo hi none n).2.1=((HT.sIx n n hi:Nat):Int)/\(sliceBounds lo hi none n).2.2=1:=by
 refine⟨?_,?_,rfl⟩
 ·cases lo with
  | none=>simp[sliceBounds,HT.sIx]
  | some i=>
   simp only[sliceBounds,HT.sIx,getD_none,show(1:Int)>0 by decide,qW]
   by_cases h:i<0
   ·simp only[h,qW]<;>walk_at "o"
   ·simp only[h,jK]<;>walk_at "o"
 ·cases hi with
  | none=>simp[sliceBounds,HT.sIx]
  | some i=>
   simp only[sliceBounds,HT.sIx,getD_none,show(1:Int)>0 by decide,qW]
   by_cases h:i<0
   ·simp only[h,qW]<;>walk_at "o"
   ·simp only[h,jK]<;>walk_at "o"
theorem a0x (its:List Value)(lo hi:Option Int):slicePick its.toArray lo hi none=((its.drop (HT.sIx its.length 0 lo)).take (HT.sIx its.length its.length hi-HT.sIx its.length 0 lo)).toArray:=by
 obtain⟨h1,h2,h3⟩:=a1v lo hi its.toArray.size;unfold slicePick;rw[h1,h2,h3];simp only[sliceRange_one,pick_run,zV]<;>rfl
def rSlL (K:PySem.W.Frag):V->Option Int->Option Int->Hp->VK->Prop:=fun x lo hi H Q=>∃a xs,x= .ref a/\SqL K H a xs/\∀p,H p=none->Q (.ref p) (upd H p (.lst (cutV xs lo hi)))
theorem a7q:SlR X (rSlL X.K):=by
 intro pins s σ H x v vl vu lo hi sl Q I rx hs pl pu h;obtain⟨a,xs,rfl,hx,q⟩:=h;cases rx;obtain⟨its,r,ht,hz⟩:=I.list hx;have hlen:=r.length;refine⟨"list",_,slot_list_getitem.lookup,ht.isList.typeIs,?_⟩;refine wpAny_getItem_list_slice ht.isList hs pl pu .none (by simp) ?_ (by rw[zV]<;>walk_at "o")
 rw[a0x,<-hlen];refine⟨.ref s.heap.objs.size,_,I.laid (t':=s.toks) (o:=.lst (cutV xs lo hi)) (fun b ob q=>zC _ q) (zE _) ?_,rfl,q _ (I.hok.fresh (zE _))⟩;exact⟨qH (V6 xs lo hi) hz,_,0,(r.drop (HT.sIx xs.length 0 lo)).take (HT.sIx xs.length xs.length hi-HT.sIx xs.length 0 lo),zL _ rfl⟩
def flatV:V->Bool
 | .non=>true
 | .bl _=>true
 | .int _=>true
 | .str _=>true
 | _=>false
def eqV:V->V->Bool
 | .non,.non=>true
 | .bl a,.bl b=>a==b
 | .bl a,.int b=>(if a then 1 else 0)==b
 | .int a,.bl b=>a==(if b then 1 else 0)
 | .int a,.int b=>a==b
 | .str a,.str b=>a==b
 | _,_=>false
theorem b0e {A:Around}{s:Shared}{y x:V}{u v:Value}(ry:RelV y u)(rx:RelV x v)(fy:flatV y=true)(fx:flatV x=true):SeqAt.EqAt A s u v (eqV y x):=by
 cases y with
 | non=>
  cases ry;cases x with
  | non=>cases rx;exact SeqAt.EqAt.same _
  | bl b=>cases rx;exact SeqAt.EqAt.none_bool b
  | int b=>obtain⟨t,rfl⟩:=rx;exact SeqAt.EqAt.none_int b t
  | str b=>obtain⟨t,rfl⟩:=rx;exact SeqAt.EqAt.none_str b t
  | _=>exact absurd (show false=true from fx) zP
 | bl a=>
  cases ry;cases x with
  | non=>cases rx;exact SeqAt.EqAt.bool_none a
  | bl b=>cases rx;exact SeqAt.EqAt.bool_bool a b
  | int b=>obtain⟨t,rfl⟩:=rx;exact SeqAt.EqAt.bool_int a b t
  | str b=>obtain⟨t,rfl⟩:=rx;exact SeqAt.EqAt.bool_str a b t
  | _=>exact absurd (show false=true from fx) zP
 | int a=>
  obtain⟨t',rfl⟩:=ry;cases x with
  | non=>cases rx;exact SeqAt.EqAt.int_none a t'
  | bl b=>cases rx;exact SeqAt.EqAt.int_bool a t' b
  | int b=>obtain⟨t,rfl⟩:=rx;exact SeqAt.EqAt.int_int a t' b t
  | str b=>obtain⟨t,rfl⟩:=rx;exact SeqAt.EqAt.int_str a t' b t
  | _=>exact absurd (show false=true from fx) zP
 | str a=>
  obtain⟨t',rfl⟩:=ry;cases x with
  | non=>cases rx;exact SeqAt.EqAt.str_none a t'
  | bl b=>cases rx;exact SeqAt.EqAt.str_bool a t' b
  | int b=>obtain⟨t,rfl⟩:=rx;exact SeqAt.EqAt.str_int a t' b t
  | str b=>obtain⟨t,rfl⟩:=rx;exact SeqAt.EqAt.str_str a t' b t
  | _=>exact absurd (show false=true from fx) zP
 | _=>exact absurd (show false=true from fy) zP
def eqU (x:V) (u:Value):Bool:=match u with
 | .none=>eqV .non x
 | .bool b=>eqV (.bl b) x
 | .int i _=>eqV (.int i) x
 | .str z _=>eqV (.str z) x
 | _=>false
theorem a5W {x y:V}{u:Value}(r:RelV y u)(f:flatV y=true):eqU x u=eqV y x:=by
 cases y with
 | non=>cases r;rfl
 | bl b=>cases r;rfl
 | int i=>obtain⟨t,rfl⟩:=r;rfl
 | str z=>obtain⟨t,rfl⟩:=r;rfl
 | _=>exact absurd (show false=true from f) zP
theorem S2 {x:V}:∀{xs:List V} {us:List Value},Vals xs us->xs.all flatV=true->us.any (eqU x)=xs.any fun y=>eqV y x
 | _,_,.nil,_=>rfl
 | y::xs,u::us,.cons r t,f=>by
  rw[all_cons,jV] at f;rw[any_cons,any_cons,a5W r f.1,S2 t f.2]
theorem J4 {A:Around}{s:Shared}{x:V}{v:Value}(rx:RelV x v)(fx:flatV x=true):∀{xs:List V} {us:List Value},Vals xs us->xs.all flatV=true->∀u∈us,SeqAt.EqAt A s u v (eqU x u)
 | _,_,.nil,_=>fun u hu=>by cases hu
 | y::xs,u::us,.cons r t,f=>fun u' hu=>by
  rw[all_cons,jV] at f;rcases zO.mp hu with rfl|hu
  ·rw[a5W r f.1];exact b0e r rx f.1 fx
  ·exact J4 rx fx t f.2 u' hu
def inV (x:V) (xs:List V):Bool:=xs.any fun y=>eqV y x
def rIn (K:PySem.W.Frag) (neg:Bool):R2:=fun x y H Q=>∃p xs,y= .ref p/\(SqL K H p xs\/SqT K H p xs)/\flatV x=true/\xs.all flatV=true/\Q (.bl (if neg then !inV x xs else inV x xs)) H
theorem a0J:OpR X (compareOp .In) (rIn X.K false):=by
 intro pins s σ H x y v u Q I rx ry h;obtain⟨p,xs,rfl,hq,fx,fs,q⟩:=h;cases ry;rcases hq with hq|hq
 ·obtain⟨its,r,pl,hz⟩:=I.list hq;refine SeqAt.in_listAt (eqU x) pl.isList (fun w hw=>J4 rx fx r fs w (by simpa using hw)) ⟨.bl _,H,I,rfl,?_⟩
  rw[show its.toArray.any (eqU x)=its.any (eqU x) by simp,S2 r fs]
  exact q
 ·obtain⟨its,r,pl,hz⟩:=I.tuple hq;refine SeqAt.in_tupleAt (eqU x) pl (fun w hw=>J4 rx fx r fs w (by simpa using hw)) ⟨.bl _,H,I,rfl,?_⟩
  rw[show its.toArray.any (eqU x)=its.any (eqU x) by simp,S2 r fs]
  exact q
theorem P9:OpR X (compareOp .NotIn) (rIn X.K true):=by
 intro pins s σ H x y v u Q I rx ry h;obtain⟨p,xs,rfl,hq,fx,fs,q⟩:=h;cases ry;rcases hq with hq|hq
 ·obtain⟨its,r,pl,hz⟩:=I.list hq;refine SeqAt.notIn_listAt (eqU x) pl.isList (fun w hw=>J4 rx fx r fs w (by simpa using hw)) ⟨.bl _,H,I,rfl,?_⟩
  rw[show its.toArray.any (eqU x)=its.any (eqU x) by simp,S2 r fs]
  exact q
 ·obtain⟨its,r,pl,hz⟩:=I.tuple hq;refine SeqAt.notIn_tupleAt (eqU x) pl (fun w hw=>J4 rx fx r fs w (by simpa using hw)) ⟨.bl _,H,I,rfl,?_⟩
  rw[show its.toArray.any (eqU x)=its.any (eqU x) by simp,S2 r fs]
  exact q
theorem j6:CallR X (.builtin "len") (fun xs H Q=>∃p ys,xs=[.ref p]/\(SqL X.K H p ys\/SqT X.K H p ys)/\Q (.int ys.length) H):=by
 intro pins s σ H xs us Q I r h;obtain⟨p,ys,rfl,hq,q⟩:=h;obtain⟨u,rfl,rx⟩:=vals1 r;cases rx;have hn:=line63;rcases hq with hq|hq
 ·obtain⟨its,r',pl,hz⟩:=I.list hq;have hlen:=r'.length;exact Calls.call_len_list pl.isList (by simp only[zV]<;>walk_at "o") ⟨.int ys.length,H,I.tok _,⟨s.toks+1,by rw[zV,hlen]⟩,q⟩
 ·obtain⟨its,r',pl,hz⟩:=I.tuple hq;have hlen:=r'.length;exact len_tuple pl (by simp only[zV]<;>walk_at "o") ⟨.int ys.length,H,I.tok _,⟨s.toks+1,by rw[zV,hlen]⟩,q⟩
theorem CallR.or {f:Value}{r r':List V->Hp->VK->Prop}(h:CallR X f r)(h':CallR X f r'):CallR X f (fun xs H Q=>r xs H Q\/r' xs H Q):=by
 intro pins s σ H xs us Q I rs q;rcases q with q|q
 ·exact h pins s σ H xs us Q I rs q
 ·exact h' pins s σ H xs us Q I rs q
theorem a1z:CallR X (.type "list") (fun xs H Q=>∃p ys,xs=[.ref p]/\(SqL X.K H p ys\/SqT X.K H p ys)/\∀l,H l=none->Q (.ref l) (upd H l (.lst ys))):=by
 intro pins s σ H xs us Q I r h;obtain⟨p,ys,rfl,hq,q⟩:=h;obtain⟨u,rfl,rx⟩:=vals1 r;cases rx;have fin:∀(its:List Value),Vals ys its->ys.length<=sizeLine->∀(h':Heap) (c':Nat),(∀b o',s.heap.get? b=some o'->h'.get? b=some o')->
   h'.get? s.heap.objs.size=some {cls:=.type "list",dict:=none,data:=.seq its.toArray c',slots:= #[]}->EP X pins σ Q (.ref s.heap.objs.size) {s with heap:=h'}:=fun its r' hz h' c' kp e=>
  ⟨.ref s.heap.objs.size,_,I.laid (t':=s.toks) kp (zE _) (show ObjOk X.prog X.w _ h' _ (.lst ys) from⟨hz,its,c',r',e⟩),rfl,q _ (I.hok.fresh (zE _))⟩
 rcases hq with hq|hq
 ·obtain⟨its,r',pl,hz⟩:=I.list hq;have hlen:=r'.length;obtain⟨o,ho,hc,n,hd⟩:=pl.isList;exact call_list_seq p (.inl rfl) ho hc hd (fun h' c' kp e=>fin its r' hz h' c' kp e) (by simp only[zV]<;>walk_at "o")
 ·obtain⟨its,r',pl,hz⟩:=I.tuple hq;have hlen:=r'.length;obtain⟨o,ho,hc,n,hd⟩:=pl;exact call_list_seq p (.inr rfl) ho hc hd (fun h' c' kp e=>fin its r' hz h' c' kp e) (by simp only[zV]<;>walk_at "o")
theorem k7:CallR X (.type "tuple") (fun xs H Q=>∃p ys,xs=[.ref p]/\((SqL X.K H p ys/\∀l,H l=none->Q (.ref l) (upd H l (.tup ys)))\/(SqT X.K H p ys/\Q (.ref p) H))):=by
 intro pins s σ H xs us Q I r h;obtain⟨p,ys,rfl,h⟩:=h;obtain⟨u,rfl,rx⟩:=vals1 r;cases rx;rcases h with ⟨hq,q⟩|⟨hq,q⟩
 ·obtain⟨its,r',pl,hz⟩:=I.list hq;have hlen:=r'.length;refine call_tuple_list pl.isList (fun h' kp=>?_) (by simp only[zV]<;>walk_at "o")
  have I1:Inv X pins σ H {s with heap:=h'}:=I.kept (t':=s.toks) kp
  have I2:Inv X pins σ (upd H h'.objs.size (.tup ys)) {s with heap:=h'.push {cls:=.type "tuple",data:=.seq its.toArray}}:=
   I1.laid (t':=s.toks) (fun b o e=>zC _ e) (zE _) (show ObjOk X.prog X.w _ _ _ (.tup ys) from⟨hz,its,r',TupN.new _ _⟩)
  exact⟨.ref h'.objs.size,_,I2,rfl,q _ (I1.hok.fresh (zE _))⟩
 ·obtain⟨its,r',pl,hz⟩:=I.tuple hq;exact call_tuple_same pl ⟨.ref p,H,I,rfl,q⟩
def tyV (K:PySem.W.Frag) (T:String) (x:V) (H:Hp):Prop:=match x with
 | .str _=>T="str"
 | .int _=>T="int"
 | .ref p=>(T="list"/\∃xs,SqL K H p xs)\/(T="tuple"/\∃o,K.lookup p=some o/\o.cls= .type "tuple"/\o.dict=none)\/
   (T="dict"/\((∃kvs,H p=some (.dK kvs))\/∃kvs,H p=some (.dT kvs)))\/(T="set"/\∃S n,H p=some (.set S n))
 | _=>False
theorem a9N {pins:List (Addr×Obj)}{σ:St}{H:Hp}{s:Shared}{T:String}{x:V}{v:Value}(I:Inv X pins σ H s)(r:RelV x v)(ty:tyV X.K T x H):
  s.TypeIs v T/\∀a,v= .ref a->∃ob,s.heap.get? a=some ob/\ob.dict=none:=by
 cases x with
 | str z=>
  obtain⟨t,rfl⟩:=r;cases(show T="str" from ty);exact⟨typeIs_str s z t,fun _ e=>nomatch e⟩
 | int i=>
  obtain⟨t,rfl⟩:=r;cases(show T="int" from ty);exact⟨typeIs_int s i t,fun _ e=>nomatch e⟩
 | ref p=>
  cases r;rcases ty with ⟨rfl,xs,hq⟩|⟨rfl,o,hk,hc,hd⟩|⟨rfl,hk⟩|⟨rfl,S,n,hk⟩
  ·obtain⟨its,_,pl,_⟩:=I.list hq;refine⟨pl.isList.typeIs,fun a e=>?_⟩;cases e;obtain⟨o,n,e,c,hd,_⟩:=pl;exact⟨o,e,hd⟩
  ·refine⟨⟨o,I.kIn p o hk,hc⟩,fun a e=>?_⟩;cases e;exact⟨o,I.kIn _ o hk,hd⟩
  ·have z:∃o,s.heap.get? p=some o/\o.ExactDict:=by
    rcases hk with ⟨kvs,hk⟩|⟨kvs,hk⟩
    ·obtain⟨_,_,_,_,o,_,e,ex,_⟩:=I.hok p _ hk;exact⟨o,e,ex⟩
    ·obtain⟨_,_,_,_,o,_,e,ex,_⟩:=I.hok p _ hk;exact⟨o,e,ex⟩
   obtain⟨o,e,ex⟩:=z;refine⟨⟨o,e,ex.1⟩,fun a e2=>?_⟩;cases e2;exact⟨o,e,ex.2.1⟩
  ·obtain⟨o,_,_,_,e,ex,_⟩:=I.hok p _ hk;refine⟨⟨o,e,ex.1⟩,fun a e2=>?_⟩;cases e2;exact⟨o,e,ex.2.1⟩
 | _=>exact False.elim ty
def tBM (K:PySem.W.Frag) (T:String) (r:V->List V->Hp->VK->Prop) (to:TE) (t:TA):TE:=fun σ H Q=>to σ H fun x H1=>tyV K T x H1/\t σ H1 fun xs H2=>r x xs H2 Q
variable {o e:Expr}{es:List Expr}{to:TE}{t:TA}{name:Str}{apos cpos:Pos}{T id:String}{r:V->List V->Hp->VK->Prop}
theorem a85 (pa:PlainAttrs T)(slot:Slot T name id)(hty:typeOf (.builtin id)=pure (.type "method_descriptor"))(hm:MtR X id r)(ho:PE X o to)(ha:PA X (e::es) t)
  (hbase:attributeBase o name X.env (eval o X.env)=eval o X.env:=by rfl)
  (hfew:((backTo cpos (starEach (e::es) X.env)).all (fun x=>!x.1)&&(backToKw cpos (keywordEach [] X.env)).all (fun x=>x.1.isSome)
   && decide ((e::es).length+([]:List Keyword).length+(if([]:List Keyword).isEmpty then 0 else 1)<30))=true:=by rfl)
  (hline:(apos.endLine==cpos.line)=true:=by rfl) (hs:starEach (e::es) X.env=(false,eval e X.env)::starEach es X.env:=by rfl) (hplain:(backTo cpos (starEach es X.env)).any (·.1)=false:=by rfl):
  PE X (.Call (.Attribute o name apos) (e::es) [] cpos) (tBM X.K T r to t):=by
 intro pins s σ H Q I h;refine wpAny_Call_method_late hbase hfew hline rfl (thn (ho pins s σ H _ I h) fun v s1 ⟨x,H1,I1,r1,ty,q1⟩=>?_);obtain⟨h1,h2⟩:=a9N I1 r1 ty;refine⟨T,id,pa,slot,hty,h1,h2,?_⟩;have hA:=ha cpos pins s1 σ H1 _ I1 q1;rw[hs] at hA ⊢;refine Calls.callWith_builtin (by show(false||(backTo cpos (starEach es X.env)).any (·.1))=false;rw[hplain]<;>rfl) (Calls.evalArgs_plain ?_)
 exact thn hA fun us s2 h0=>ex5 h0 fun vs H2 I2 r2 q2=>hm pins s2 σ H2 x vs v us Q I2 r1 r2 q2
end
def MtM (X:Cx) (id:String) (r:V->List V->Hp->VK->Prop):Prop:=
 ∀(pins:List (Addr×Obj)) (s:Shared) (σ:St) (H:Hp) (x:V) (xs:List V) (v:Value) (us:List Value) (Q:VK),Inv X pins σ H s->RelV x v->Vals xs us->r x xs H Q->
  wpAny (model X.prog X.w) X.A (call (.builtin id) (v::us)) (EP X pins σ Q) X.xe s
theorem Vals.one:∀{x:V} {us:List Value},Vals [x] us->∃u,us=[u]/\RelV x u
 | _,_,.cons r .nil=>⟨_,rfl,r⟩
theorem Vals.reverse {xs:List V}{us:List Value}(h:Vals xs us):Vals xs.reverse us.reverse:=by
 induction h with
 | nil=>exact .nil
 | cons r t ih=>rw[reverse_cons,reverse_cons];exact Vals.append ih (.cons r .nil)
theorem Vals.rep {xs:List V}{us:List Value}(h:Vals xs us):∀k:Nat,Vals (List.replicate k xs).flatten (List.replicate k us).flatten
 | 0=>.nil
 | k+1=>by
  rw[xN,xN,flatten_cons,flatten_cons];exact Vals.append h (Vals.rep h k)
theorem a0V (its:List Value):∀(k:Nat) (acc:List Value),
  List.foldl (fun x1 x2=>x1++x2) acc.toArray (List.replicate k its.toArray)=(acc++(List.replicate k its).flatten).toArray
 | 0,acc=>by simp
 | k+1,acc=>by
  have e:acc.toArray++its.toArray=(acc++its).toArray:=by simp
  have e2:(acc++its)++(List.replicate k its).flatten=acc++(List.replicate (k+1) its).flatten:=by
   rw[xN,flatten_cons,yL]
  rw[<-e2,<-a0V its k (acc++its),<-e,xN,List.foldl_cons]
section
variable {X:Cx}{pins:List (Addr×Obj)}{σ:St}{H:Hp}{s:Shared}{l:Addr}{xs ys:List V}
theorem Inv.lset {its its':List Value}{n:Nat}{f:Array Value->Array Value}{t':Nat}(I:Inv X pins σ H s)(hH:H l=some (.lst xs))
  (e:s.heap.get? l=some {cls:=.type "list",data:=.seq its.toArray n}) (hf:f its.toArray=its'.toArray) (hv:Vals ys its') (hz:ys.length<=sizeLine):
  Inv X pins σ (upd H l (.lst ys)) {s with heap:=s.heap.update l (Obj.mapSeq f),toks:=t'}:=by
 have q:=PySem.IsL.update e f;rw[hf] at q;refine I.write (x:=l) (e:=l) (by rw[hH];exact trivial) (.inl rfl) (fun b' u hb hu=>(Heap.get?_update_other s.heap (Obj.mapSeq f) (jA hb)).trans hu) ⟨_,q⟩ ?_
 exact⟨hz,its',_,hv,q⟩
theorem Inv.lnew {its:List Value}{t':Nat}(I:Inv X pins σ H s)(hv:Vals ys its)(hz:ys.length<=sizeLine):
  Inv X pins σ (upd H s.heap.objs.size (.lst ys)) {s with heap:=s.heap.push {cls:=.type "list",data:=.seq its.toArray},toks:=t'}:=
 I.laid (fun _ _ q=>zC _ q) (zE _) ⟨hz,its,0,hv,zL _ rfl⟩
theorem Inv.fresh (I:Inv X pins σ H s):H s.heap.objs.size=none:=I.hok.fresh (zE _)
theorem Inv.lstM (I:Inv X pins σ H s)(hH:H l=some (.lst xs)):xs.length<=sizeLine/\∃(its:List Value) (n:Nat),Vals xs its/\xs.length=its.length/\s.heap.get? l=some {cls:=.type "list",data:=.seq its.toArray n}:=by
 obtain⟨z,its,n,r,e⟩:=I.hok l _ hH;exact⟨z,its,n,r,r.length,e⟩
theorem notLongL {n:Nat}(h:n<=sizeLine):Builtin.List.listTooLong n=false:=by
 unfold Builtin.List.listTooLong;exact qG (by walk_at "o")
end
section
variable {X:Cx}
def rAppend:V->List V->Hp->VK->Prop:=fun x vs H Q=>∃l xs y,x= .ref l/\vs=[y]/\H l=some (.lst xs)/\xs.length<sizeLine/\Q .non (upd H l (.lst (xs++[y])))
theorem V3:MtM X "list.append" rAppend:=by
 intro pins s σ H x vs v us Q I rx rv h;obtain⟨l,xs,y,rfl,rfl,hH,hz,q⟩:=h;cases rx;obtain⟨u,rfl,ru⟩:=rv.one;obtain⟨z,its,n,r,hl,e⟩:=I.lstM hH;refine call_meets F.slot_list_append ⟨_,e,rfl⟩ F.entry_list_append (F.args_list_append_2 _ _) (PySem.list_append l its.toArray n u (by rw[zV];walk_at "o")) ⟨e,?_⟩
 refine⟨.non,_,I.lset (its':=its++[u]) hH e (by simp) (r.append (.cons ru .nil)) ?_,rfl,q⟩
 rw[zZ,jM];walk_at "o"
theorem a7J {α:Type}(xs:List α)(k:Nat):(List.replicate k xs).flatten.length=k*xs.length:=by
 induction k with
 | zero=>simp
 | succ k ih=>rw[xN,flatten_cons,zZ,ih,Nat.succ_mul,Nat.add_comm]
end
section
set_option maxRecDepth 100000 in
end
end L2
namespace Att
open PySem PySem.W PySem.Calls PyProof.Rows
theorem W7 {P:Params}{h:Heap}:∀(ns:List Int) (vs:List Value),WellAll P h vs (ns.map WData.int)->IntsAre vs ns:=by
 intro ns
 induction ns with
 | nil=>
  intro vs w;rw[xY] at w;cases w;exact .nil
 | cons n ns ih=>
  intro vs w;rw[zJ] at w;cases w with
  | cons a b=>
   cases a;exact .cons _ _ (ih _ b)
theorem a4U {l:OpenLaw}{n:Nat}(hn:l.most=some n){P:Params}{h:Heap}{args:List WData}{vals:List Value}
  (hpre:l.row.toRowW.claim.pre args=true) (hwl:WellAll P h vals args):
  ∃a vs ns,vals=[Value.ref a]/\args=[WData.list (ns.map WData.int)]/\h.get? a=some {cls:=.type "list",data:=.seq vs.toArray}/\IntsAre vs ns/\ns.length<=n:=by
 have hsh:WShape.hasAll [] args [.list .int]=true:=(pre_splitW hpre).1;have hc:l.pre.holds [] {args:=args}=true:=(pre_splitW hpre).2;obtain⟨d,r,rfl,h1,h2⟩:=hasAllW_cons hsh;obtain rfl:=hasAllW_nil h2;obtain⟨xs,rfl,h3⟩:=hasW_list h1;obtain⟨ns,rfl⟩:=items_int h3;have hlen:ns.length<=n:=by
  unfold OpenLaw.pre at hc;have h4:(WTm.not (.lt (.lit (.int (n:Int))) (.len (.arg 0)))).holds [] {args:=[.list (ns.map .int)]}=true:=by
   have h4:=(holds_andW hc).1;rw[hn] at h4;exact h4
  have h5:=condW_of h4 (w_not (w_lt w_lit (w_len_list (w_arg rfl))));rw[zD] at h5;refine Nat.le_of_not_lt fun q=>?_;have q':(n:Int)<((ns.length:Nat):Int):=by walk_at "o"
  first
   | (rw[qE q'] at h5;exact absurd h5 (by decide))
   | (simp at h5;walk_at "o")
 cases hwl with
 | cons w1 w2=>
  cases w2;cases w1 with
  | list ho hall=>exact⟨_,_,ns,rfl,rfl,ho,W7 ns _ hall,hlen⟩
theorem a4x (l:OpenLaw)(args:List WData):l.row.toRowW.claim.post args (.bool true) args=true:=
 postW_of (r:=l.row.toRowW) (X:=(true==true))
  (show WShape.has [] (.bool true) .bool=true by first|rfl|decide|simp[WShape.has,WShape.arms,WShape.armsAll])
  (show(WTm.eq .res (.lit (.bool true))).value [] {args:=args,res:=some (.bool true),after:=args}=some (.bool (true==true)) from w_eq_bool (w_res rfl) w_lit) rfl
theorem attach_call {l:OpenLaw}{n:Nat}{q:Program}{loose:List Str}{XP:(Str->Option Value)->Heap->Prop}{YP:World->Heap->Prop}{d:DefRec}
  (hn:l.most=some n) (hdf:d.params.defaults=[])
  (call:∀(w:World) (s₀ s₁:Shared) (mg mb:Str->Option Value) (fa:Addr) (o:Obj) (pm cd doc:Value) (a:Addr) (vs:List Value) (ns:List Int),
   Ground q loose [] XP w s₀ mg mb s₁.heap->YP w s₁.heap->
   s₁.heap.get? fa=some o->o.data= .func (docDef d.name d.params d.body d.scope pm cd doc)->s₁.heap.CodeRec cd d.name->mg d.name=some (.ref fa)->
   s₁.heap.get? a=some {cls:=.type "list",data:=.seq vs.toArray}->IntsAre vs ns->ns.length<=n->s₁.gens= #[]->
   codeAny (model l.prog w) callerA (.call (.ref fa) ⟨[.ref a],[]⟩) (fun r s'=>r= .ok (.ret (.bool true))/\OldK s₁.heap s'.heap/\s'.os=s₁.os/\AllBare s'.gens) s₁):
  WalkO q loose XP YP l.row.toRowW d [] (fun f vs=>PySem.call f vs):=by
 intro w s₀ s₁ mg mb G Y fa o pm cd doc dV kV ho hd hcd hD hmg hg args vals as hpre hlay hrd hwl hlo;obtain rfl:dV= .none:=Dflts.none hD hdf;obtain rfl:kV= .none:=Dflts.noKw hD;obtain⟨a,vs,ns,rfl,rfl,hobj,hints,hlen⟩:=a4U hn hpre hwl;refine enter_call (yK (call w s₀ s₁ mg mb fa o pm cd doc a vs ns G Y ho (fd_plain hd) hcd hmg hobj hints hlen hg) fun r s' hq=>?_);obtain⟨rfl,h2,h3,h4⟩:=hq;exact⟨.inl ⟨.bool true,.bool true,[],rfl,fun _=>rfl,.bool true,a4x l _,fun _=>⟨List.Pairwise.nil,fun _ hm=>(nomatch hm)⟩⟩,h2,h3,h4⟩
def ledger (h:Heap) (L d:Addr):List (Addr×Obj):=(List.range h.objs.size).filterMap fun a=>if a=L\/a=d then none else(h.get? a).map fun o=>(a,o)
end Att
namespace L2
open PySem PySem.Spec PyProof.Rows
theorem a0Y:∀{vs:List Value} {ns:List Int},IntsAre vs ns->Vals (ns.map V.int) vs
 | _,_,.nil=>.nil
 | _,_,.cons n t h=>.cons ⟨t,rfl⟩ (a0Y h)
def Only (H:Hp):Prop:=∀b,H b=none\/∃o xs,H b=some (.frz o (.lst xs))
theorem a6R {P:Program}{w:World}{K:PySem.W.Frag}{mg mb:Str->Option Value}{CX:CXT}{k:Nat}{fa a:Addr}{fd:FuncData}{x:Str}{sp:Sp}{s₁:Shared}{vs:List Value}{ns:List Int}
  (KX:K.In s₁.heap) (hns:s₁.heap.Ns mainGlobals mg) (hb:s₁.heap.Ns builtinsNs mb) (hbb:∀x:Str,x≠"__name__"->mb x=bootBuiltins x) (hlim:s₁.heap.NoLimit) (hg:s₁.gens= #[])
  (ha:s₁.heap.get? a=some {cls:=.type "list",data:=.seq vs.toArray}) (hi:IntsAre vs ns) (hl:ns.length<=sizeLine) (hr:Room k callerA)
  (F:∀base:Heap,K.In base->base.Ns mainGlobals mg->FnOk P w K mg base CX k fa fd [x] sp) (hbind:∀(s:Shared) (u:Value),BindsTo s fd ⟨[u],[]⟩ [(x,u)])
  (hsp:∀H:Hp,Only H->SqL K H a (ns.map V.int)->sp [.ref a] H (fun v _=>v= .bl true) fun _ _ _=>False)
  (hCX:∀H e s',CX [] H s₁ (fun _ _ _=>False) e s'->False):
  codeAny (model P w) callerA (.call (.ref fa) ⟨[.ref a],[]⟩) (fun r s'=>r= .ok (.ret (.bool true))/\OldK s₁.heap s'.heap/\s'.os=s₁.os/\AllBare s'.gens) s₁:=by
 have rv:=a0Y hi;have lenV:=hi.length;have core:∀H:Hp,Only H->SqL K H a (ns.map V.int)->HOk P w H s₁.heap->(∀b,H b≠none->b=a)->(H a≠none->K.lookup a=none)->
   codeAny (model P w) callerA (.call (.ref fa) ⟨[.ref a],[]⟩) (fun r s'=>r= .ok (.ret (.bool true))/\OldK s₁.heap s'.heap/\s'.os=s₁.os/\AllBare s'.gens) s₁:=by
  intro H hO hS hok hA hK;have base_of:∀{b:Addr} {o:Obj},s₁.heap.get? b=some o->H b=none->(hidT s₁.heap H).get? b=some o:=fun e n=>a6S e n;have noA:∀{b:Addr} {o:Obj} {es:Array DictEntry} {ep:Nat},s₁.heap.get? b=some o->o.data= .dict es ep->H b=none:=fun{b o es ep} e d=>by
   cases q:H b with
   | none=>rfl
   | some u=>
    have e':b=a:=hA b (by rw[q];simp)
    subst e';rw[ha] at e;cases e;have d':Data.seq vs.toArray _=Data.dict es ep:=d;cases d'
  have nsK:∀{b:Addr} {m:Str->Option Value},s₁.heap.Ns b m->(hidT s₁.heap H).Ns b m:=fun{b m} ⟨o,es,ep,e,d,r⟩=>⟨o,es,ep,base_of e (noA e d),d,r⟩
  have hKb:K.In (hidT s₁.heap H):=fun b o e=>base_of (KX b o e) (by
   cases q:H b with
   | none=>rfl
   | some u=>
    have e':b=a:=hA b (by rw[q];simp)
    subst e'
    rw[hK (by rw[q];simp)] at e;cases e)
  have hM:Mod K mg (hidT s₁.heap H):=⟨hKb,nsK hns,⟨mb,nsK hb,hbb⟩,let ⟨mc,h1,h2⟩:=hlim;⟨mc,nsK h1,h2⟩⟩;have e0:Env0 P w K mg (hidT s₁.heap H) callerA [] s₁ H:=⟨rfl,hM,fun b o e=>a7B e,Nat.le_of_eq (a45 _ _),trivial,fun b hb=>absurd (show b∈([]:List Addr) from hb) (by simp),hok,.of_eq hg⟩
  refine yK ((F _ hKb (nsK hns)).run callerA [] s₁ H ⟨[.ref a],[]⟩ [.ref a] [.ref a] _ _ hr e0 (hbind s₁ (.ref a)) (.cons rfl .nil) (hsp H hO hS)) fun r s' h=>?_;cases r with
  | error e=>exact(hCX H e s' h).elim
  | ok fl=>
   cases fl with
   | next=>exact False.elim h
   | brk=>exact False.elim h
   | cont=>exact False.elim h
   | ret u=>
    obtain⟨v,H',os,bare,un,hok',r',q⟩:=h;have q':v= .bl true:=q;subst q';obtain rfl:u=Value.bool true:=r';refine⟨rfl,OldK.of_keep fun b o e=>?_,os,bare⟩;cases q:H b with
    | none=>exact un.keep b o e q (by intro z;exact absurd (show b∈([]:List Addr) from z) (by simp)) (by simp)
    | some u=>
     rcases hO b with z|⟨ob,xs,z⟩
     ·rw[q] at z;cases z
     ·have z2:=un.frzs b ob _ z;obtain⟨e1,_⟩:=hok b _ z;obtain⟨e2,_⟩:=hok' b _ z2;rw[e] at e1;cases e1;exact e2
 cases hk:K.lookup a with
 | some o=>
  have e:=KX a o hk;rw[ha] at e;cases e;refine core (fun _=>none) (fun _=>.inl rfl) (.inr ⟨_,vs.toArray,_,hk,rfl,rfl,rfl,by rw[zV,lenV];exact hl,by simpa using rv⟩) (fun b u z=>by have z':(none:Option HO)=some u:=z;cases z') (fun b z=>absurd rfl z) fun z=>absurd rfl z
 | none=>
  refine core (fun b=>if b=a then some (.frz {cls:=.type "list",data:=.seq vs.toArray} (.lst (ns.map V.int))) else none) (fun b=>?_) (.inl (.inr ⟨{cls:=.type "list",data:=.seq vs.toArray},if_pos rfl⟩)) (fun b u z=>?_) (fun b z=>?_) fun _=>hk
  ·by_cases hb:b=a
   ·exact .inr ⟨_,_,if_pos hb⟩
   ·exact .inl (if_neg hb)
  ·by_cases hb:b=a
   ·have z':=(if_pos hb).symm.trans z;cases z';subst hb;exact⟨ha,by rw[zD];exact hl,vs,_,rv,ha⟩
   ·have z':=(if_neg hb).symm.trans z;cases z'
  ·by_cases hb:b=a
   ·exact hb
   ·exact absurd (if_neg hb) z
abbrev KOf {K:PySem.W.Frag} {h:Heap} (_:K.In h):PySem.W.Frag:=K
theorem a7Z {l:PySem.W.OpenLaw}{n k:Nat}{q:Program}{loose:List Str}{XP:(Str->Option Value)->Heap->Prop}{YP:World->Heap->Prop}{d:DefRec}{K:Params->PySem.W.Frag}{CX:World->CXT}{sp:World->Sp}{x:Str}
  (hn:l.most=some n) (hn2:n<=sizeLine) (hdf:d.params.defaults=[]) (hr:Room k callerA)
  (hY:∀(w:World) (h:Heap),YP w h->(K w.params).In h)
  (F:∀(w:World) (mg:Str->Option Value) (fa:Addr) (h:Heap),(K w.params).In h->h.Ns mainGlobals mg->mg d.name=some (.ref fa)->
   ∃fd:FuncData,(∀(s:Shared) (u:Value),BindsTo s fd ⟨[u],[]⟩ [(x,u)])/\
    ∀base:Heap,(K w.params).In base->base.Ns mainGlobals mg->FnOk l.prog w (K w.params) mg base (CX w) k fa fd [x] (sp w))
  (hsp:∀(w:World) (H:Hp) (a:Addr) (ns:List Int),ns.length<=n->Only H->SqL (K w.params) H a (ns.map V.int)->sp w [.ref a] H (fun v _=>v= .bl true) fun _ _ _=>False)
  (hCX:∀(w:World) (H:Hp) (s:Shared) (e:Value) (s':Shared),CX w [] H s (fun _ _ _=>False) e s'->False):
  PySem.W.WalkO q loose XP YP l.row.toRowW d [] (fun f vs=>PySem.call f vs):=by
 refine Att.attach_call hn hdf fun w s₀ s₁ mg mb fa o pm cd doc a vs ns G Y ho hd hcd hmg hobj hints hlen hg=>?_;have KX:=hY w _ Y;obtain⟨fd,hb,hF⟩:=F w mg fa _ KX G.T.g hmg;exact a6R KX G.T.g G.T.b G.T.builtins G.T.nolimit hg hobj hints (qH hlen hn2) hr hF hb (fun H hO hS=>hsp w H a ns hlen hO hS) fun H e s'=>hCX w H s₁ e s'
def defArgs (s:Stmt):Arguments:=match s with
 | .FunctionDef _ a _ _ _ _ _ _ _ _=>a
 | _=>{posonlyargs:=[],args:=[],vararg:=none,kwonlyargs:=[],kw_defaults:=[],kwarg:=none,defaults:=[]}
def defBody (s:Stmt):List Stmt:=match s with
 | .FunctionDef _ _ b _ _ _ _ _ _ _=>b
 | _=>[]
def defScope (s:Stmt):Scope:=match s with
 | .FunctionDef _ _ _ _ _ _ sc _ _ _=>sc
 | _=>{kind:=.function,names:=[],isGenerator:=false,isCoroutine:=false}
abbrev CX0:CXT:=fun _ _ _ _ _ _=>False
abbrev E0:XK:=fun _ _ _=>False
theorem pass0 {X:Cx}:Passes CX0 X E0:=fun _ _ _ _ _ _ _ h=>h.elim
structure Fun (K:PySem.W.Frag) (x qual:Str) (st:Stmt) (f:Addr) (fd:FuncData):Prop where
 ex:∃(oc:Value) (od:Option Addr) (kV doc pm:Value) (an:Option Addr) (cdv ct:Value) (osl:Array (Option Value)),
  fd=PySem.W.fnOf x qual (defArgs st) (defBody st) (defScope st) .none kV doc pm an cdv ct/\K.lookup f=some ⟨oc,od,.func fd,osl⟩/\PySem.W.codeIn K cdv qual=true
 kp:PySem.W.keepIn K (.ref f)=true
section
variable {P:Program}{w:World}{K:PySem.W.Frag}{mg:Str->Option Value}{base:Heap}
theorem Fun.ok {x qual:Str}{st:Stmt}{f:Addr}{fd:FuncData}{N ps:List Str}{k:Nat}{sp:Sp}(F:Fun K x qual st f fd)(S:FnScope N ps (defScope st))(len:∀vs H Q E,sp vs H Q E->vs.length=ps.length)
  (hbody:∀(cdv:Value) (A:Around) (outer:List Env) (s:Shared) (H:Hp) (vs:List V) (Q:VK) (E:XK),Room k (A.deeper (envOfC qual (defScope st) s.heap.objs.size f cdv))->sp vs H Q E->
   ∃t,PSs (cxOf CX0 P w K mg base N qual (defScope st) f cdv A outer s H E).nox (defBody st) t/\t {nx:=fun _ H'=>Q .non H',rt:=Q} (start N vs) H):FnOk P w K mg base CX0 (k+1) f fd ps sp:=by
 obtain⟨oc,od,kV,doc,pm,an,cdv,ct,osl,rfl,lk,hcd⟩:=F.ex;refine fn_of lk hcd S len fun A outer s H vs Q E hr hsp=>?_;obtain⟨t,h,q⟩:=hbody cdv A outer s H vs Q E hr hsp;exact⟨t,h.nox,q⟩
theorem Fun.binds {x qual:Str}{st:Stmt}{f:Addr}{fd:FuncData}{ps:List Str}(F:Fun K x qual st f fd)
  (h:∀(kV doc pm:Value) (an:Option Addr) (cdv ct:Value) (us:List Value),us.length=ps.length->bindArgs (PySem.W.fnOf x qual (defArgs st) (defBody st) (defScope st) .none kV doc pm an cdv ct) ⟨us,[]⟩=pure (ps.zip us)):Binds K fd ps []:=by
 obtain⟨oc,od,kV,doc,pm,an,cdv,ct,osl,rfl,lk,hcd⟩:=F.ex;exact .all (h kV doc pm an cdv ct)
theorem a50 {x qual:Str}{st:Stmt}{f:Addr}{oc:Value}{od an:Option Addr}{osl:Array (Option Value)}{kV doc pm cdv ct:Value}(l:K.lookup f=some ⟨oc,od,.func (PySem.W.fnOf x qual (defArgs st) (defBody st) (defScope st) .none kV doc pm an cdv ct),osl⟩)
  (c:PySem.W.codeIn K cdv qual=true) (k:PySem.W.keepIn K (.ref f)=true):Fun K x qual st f (PySem.W.fnOf x qual (defArgs st) (defBody st) (defScope st) .none kV doc pm an cdv ct):=⟨⟨oc,od,kV,doc,pm,an,cdv,ct,osl,rfl,l,c⟩,k⟩
end
theorem a3I {A:Around}{k:Nat}(hr:Room k A):A.units+1<cLine:=Nat.lt_of_le_of_lt (Nat.add_le_add_left (by decide:1<=64) _) hr.units
section
variable {X:Cx}
theorem pv (i:Nat){x:Str}{pos:Pos}(hN:X.N[i]? =some x:=by rfl)(hv:Vis X.env.scope x:=by first|exact Or.inl rfl|exact Or.inr (Or.inl rfl)|exact Or.inr (Or.inr rfl))(hd:(x==("__debug__":Str))=false:=by decide)
  (hcd:(x==("__classdict__":Str))=false:=by decide):PE X (.Name x pos) (tVar i):=a2R hN hv hd hcd
end
def Same (H H':Hp):Prop:=∀b o,H b=some o->H' b=some o
theorem Same.refl (H:Hp):Same H H:=fun _ _ h=>h
theorem Same.trans {H H1 H2:Hp}(a:Same H H1)(b:Same H1 H2):Same H H2:=fun c o h=>b c o (a c o h)
section
variable {prog:Program}{w:World}{K:Type} [DecidableEq K] {knd:KeyKind prog w K}{A:Around}{E:Value->Shared->Prop}{s:Shared}
theorem Z8 {kvs:List (K×Value)}{k:K}{v:Value}(h:(kvs.any fun kv=>decide (kv.1=k))=true):(stored kvs k v).length=kvs.length:=by
 unfold stored;rw[if_pos h,zD]
theorem a0n {kvs:List (K×Value)}{k:K}{v:Value}(h:¬(kvs.any fun kv=>decide (kv.1=k))=true):(stored kvs k v).length=kvs.length+1:=by
 unfold stored;rw[if_neg h,zZ];rfl
theorem a2U {d:Addr}{kvs:List (K×Value)}{k:K}{key v:Value}{Q:Unit->Shared->Prop}(hkey:knd.is k key=true)(hm:s.heap.DictAt knd d kvs kvs.length)(hsz:kvs.length<=sizeLine)
  (hQ:∀h',h'.DictAt knd d (stored kvs k v) (stored kvs k v).length->Heap.SameBut d s.heap h'->Q () {s with heap:=h',toks:=s.toks+1}):wpAny (model prog w) A (dictSet d key v) Q E s:=by
 obtain⟨o,es,ho,hc,hd,hk,hp,hn⟩:=hm;have pl:=hp.length;have hes:es.size<=sizeLine:=by rw[qD] at pl;walk_at "o"
 unfold dictSet
 try with_reducible refine qM ?_
 refine zA (knd.pyHash hkey ?_);unfold dictSetHashed
 try with_reducible refine qM ?_
 refine zA (wpAny_dictFind_of (s:={s with toks:=s.toks+1}) hkey ho hd hk ?_)
 have hidx:(es.findIdx? fun e=>knd.is k e.key)=kvs.findIdx? fun kv=>decide (kv.1=k):=by
  rw[<-hp.findIdx k];obtain⟨l⟩:=es;simp
 cases hi:es.findIdx? fun e=>knd.is k e.key with
 | some i=>
  have old:=any_of_findIdx_some (hidx▸hi);have el:=Z8 (v:=v) old;refine zA (yC (zA (wpAny_updateDict (s:={s with toks:=s.toks+1}) ho hd (wpAny_point (hQ _ ⟨_,_,jL _ ho (Obj.isFreed_of_dict (Obj.data_mapDict hd _)),hc.mapDict _,by rw[el];exact Obj.data_mapDict hd _,hk.modify _ _,?_,?_⟩ (qO ..))))))
  ·rw[stored,if_pos old];have hl:(es.toList.findIdx? fun e=>knd.is k e.key)=some i:=by rw[<-hi];obtain⟨l⟩:=es;simp
   have:=hp.modify hn hl v
   obtain⟨l⟩:=es;simpa using this
  ·rw[stored,if_pos old,keys_map_store];exact hn
 | none=>
  have hnot:k∉kvs.map (·.1):=not_mem_of_findIdx_none (hidx▸hi);have hany:¬(kvs.any fun kv=>decide (kv.1=k))=true:=by
   rw[List.any_eq_true];rintro⟨kv,hkv,he⟩;exact hnot (zY.mpr ⟨kv,hkv,yH he⟩)
  have el:=a0n (v:=v) hany;refine zA (yC (wpAny_updateDictKeys (hz:=hes) (s:={s with toks:=s.toks+1}) ho hd (hQ _ ⟨_,_,jL _ ho (Obj.isFreed_of_dict (Obj.data_mapDictKeys hd _)),hc.mapDictKeys _,by rw[el];exact Obj.data_mapDictKeys hd _,hk.push hkey _,?_,?_⟩ (qO ..))))
  ·rw[stored,if_neg hany]
   have:=hp.append hkey (knd.hash k) v
   obtain⟨l⟩:=es;simpa using this
  ·rw[stored,if_neg hany,jC,nodup_append];exact⟨hn,by simp,fun a ha b hb e=>by simp only[zJ,xY,qA] at hb;subst hb;exact hnot (e▸ha)⟩
theorem a1R {d:Addr}{kvs:List (K×Value)}{k:K}{key v:Value}{Q:Unit->Shared->Prop}(hkey:knd.is k key=true)(hm:s.heap.DictAt knd d kvs kvs.length)(hsz:kvs.length<=sizeLine)
  (hQ:∀h',h'.DictAt knd d (stored kvs k v) (stored kvs k v).length->Heap.SameBut d s.heap h'->Q () {s with heap:=h',toks:=s.toks+1}):wpAny (model prog w) A (setItem (.ref d) key v) Q E s:=by
 have ty:=hm.dictOf.typeIs;unfold setItem
 try with_reducible refine qM ?_
 refine zA (yI ty (by decide) ?_)
 refine zA (qK (name:=Str.ofString "__setitem__") ty slot_dict_setitem (qI slot_dict_setitem ty entry_dict_setitem ?_ (args_dict_setitem _ _ _)));show wpAny _ _ (Builtin.Dict.notOrdered "__setitem__" ⟨[.ref d,key,v],[]⟩ >>=_) _ _ s;refine zA (wpAny_notOrdered_dict ty ?_);show wpAny _ _ (dictSet d key v >>=_) _ _ s;exact zA (a2U hkey hm hsz fun h' hm' hs'=>zB ⟨.none,rfl,zB (hQ h' hm' hs')⟩)
end
section
variable {prog:Program}{w:World}{K:Type} [DecidableEq K] {knd:HeapKind prog w K}{A:Around}{E:Value->Shared->Prop}{s:Shared}
def DictLnH (knd:HeapKind prog w K) (h:Heap) (d:Addr) (xs:List (K×Addr×Value)):Prop:=∃o es,h.get? d=some o/\o.ExactDict/\o.data= .dict es xs.length/\es.toList=xs.map (entryOfKey knd)/\(∀x∈xs,knd.is h x.1 x.2.1)/\(xs.map (·.1)).Nodup
theorem DictLnH.of {h:Heap}{d:Addr}{xs:List (K×Addr×Value)}(x:DictLnH knd h d xs):h.DictOfH knd d xs:=let ⟨o,es,a,b,c,e⟩:=x;⟨o,es,_,a,b,c,e⟩
theorem a4g {d a:Addr}{xs:List (K×Addr×Value)}{k:K}{v:Value}{Q:Unit->Shared->Prop}(hu:knd.room A)(hkey:knd.is s.heap k a)(hm:DictLnH knd s.heap d xs)(hsz:xs.length<=sizeLine)
  (hQ:∀h',DictLnH knd h' d (storedH xs k a v)->Heap.SameBut d s.heap h'->Q () {s with heap:=h',toks:=s.toks+knd.draws k}):wpAny (model prog w) A (dictSet d (.ref a) v) Q E s:=by
 obtain⟨o,es,ho,hc,hd,he,his,hn⟩:=hm;have sz:=size_of_entries he;unfold dictSet
 try with_reducible refine qM ?_
 refine zA (knd.pyHash hu hkey ?_);unfold dictSetHashed
 try with_reducible refine qM ?_
 refine zA (wpAny_dictFind_heap (s:={s with toks:=s.toks+knd.draws k}) hu hkey ho hd he his hn ?_ ?_)
 ·intro hno;have hnot:k∉xs.map (·.1):=not_mem_keys_of_get hno;have en:=storedH_new (atKey_none_of_get hno) a v;refine zA (yC (wpAny_updateDictKeys (hz:=by walk_at "o") (s:={s with toks:=s.toks+knd.draws k}) ho hd (hQ _ ⟨_,_,jL _ ho (Obj.isFreed_of_dict (Obj.data_mapDictKeys hd _)),hc.mapDictKeys _,by rw[en,zZ];exact Obj.data_mapDictKeys hd _,?_,?_,?_⟩ (qO ..))))
  ·rw[en];simp[he,entryOfKey]
  ·rw[en];intro x hx;rcases xJ.mp hx with hx|hx
   ·exact knd.keeps (his x hx) ho hd (qO ..)
   ·rw[qA.mp hx];exact knd.keeps hkey ho hd (qO ..)
  ·rw[en,jC,nodup_append];exact⟨hn,by simp,fun x hx y hy e=>by simp only[zJ,xY,qA] at hy;subst hy;exact hnot (e▸hx)⟩
 ·intro j p hj;have eo:=storedH_old (atKey_of_get hn hj) a v;refine zA (yC (zA (wpAny_updateDict (s:={s with toks:=s.toks+knd.draws k}) ho hd (wpAny_point (hQ _ ⟨_,_,jL _ ho (Obj.isFreed_of_dict (Obj.data_mapDict hd _)),hc.mapDict _,by rw[eo,zD];exact Obj.data_mapDict hd _,?_,?_,?_⟩ (qO ..))))))
  ·rw[eo]
   have:=modify_map_putAt (entryOfKey knd) (fun e:DictEntry=>{e with val:=v}) k v (fun _ _=>rfl) hn hj
   rw[<-he] at this;obtain⟨l⟩:=es;simpa using this
  ·rw[eo];intro x hx;obtain⟨y,hy,rfl⟩:=zY.mp hx;unfold putAt
   split<;>exact knd.keeps (his y hy) ho hd (qO ..)
  ·rw[eo,keys_map_putAt];exact hn
theorem a2L {d a:Addr}{xs:List (K×Addr×Value)}{k:K}{v:Value}{Q:Unit->Shared->Prop}(hu:knd.room A.in1)(hkey:knd.is s.heap k a)(hm:DictLnH knd s.heap d xs)(hsz:xs.length<=sizeLine)
  (hQ:∀h',DictLnH knd h' d (storedH xs k a v)->Heap.SameBut d s.heap h'->Q () {s with heap:=h',toks:=s.toks+knd.draws k}):wpAny (model prog w) A (setItem (.ref d) (.ref a) v) Q E s:=by
 have ty:=hm.of.typeIs;unfold setItem
 try with_reducible refine qM ?_
 refine zA (yI ty (by decide) ?_)
 refine zA (qK (name:=Str.ofString "__setitem__") ty slot_dict_setitem (qI slot_dict_setitem ty entry_dict_setitem ?_ (args_dict_setitem _ _ _)));show wpAny _ _ (Builtin.Dict.notOrdered "__setitem__" ⟨[.ref d,.ref a,v],[]⟩ >>=_) _ _ s;refine zA (wpAny_notOrdered_dict ty ?_);show wpAny _ _ (dictSet d (.ref a) v >>=_) _ _ s;exact zA (a4g hu hkey hm hsz fun h' hm' hs'=>zB ⟨.none,rfl,zB (hQ h' hm' hs')⟩)
end
section
variable {κ:Type} [DecidableEq κ]
def valV (kvs:List (κ×V)) (k:κ):Option V:=(kvs.find? fun kv=>decide (kv.1=k)).map (·.2)
def putK (kvs:List (κ×V)) (k:κ) (v:V):List (κ×V):=
 if(kvs.any fun kv=>decide (kv.1=k))=true then kvs.map (fun kv=>if kv.1=k then(kv.1,v) else kv) else kvs++[(k,v)]
theorem P1 {p:κ×V}{r:List (κ×V)}{k:κ}(e:p.1=k):valV (p::r) k=some p.2:=by simp[valV,find?_cons,e]
theorem K3 {p:κ×V}{r:List (κ×V)}{k:κ}(e:¬p.1=k):valV (p::r) k=valV r k:=by simp[valV,find?_cons,e]
theorem a2j (k:κ):∀kvs:List (κ×V),(kvs.any fun kv=>decide (kv.1=k))=(valV kvs k).isSome
 | []=>rfl
 | p::r=>by
  rw[any_cons]
  by_cases e:p.1=k
  ·simp only[P1 e,qE e,Bool.true_or,isSome_some]
  ·rw[K3 e,qG e,Bool.false_or];exact a2j k r
theorem V7 (kvs:List (κ×V))(k:κ)(v:V):(putK kvs k v).length<=kvs.length+1:=by
 unfold putK
 split
 ·rw[zD];walk_at "o"
 ·rw[zZ,qL,yB];walk_at "o"
theorem RelO.isSome_eq {o:Option V}{u:Option Value}(r:RelO o u):o.isSome=u.isSome:=by
 cases o with
 | none=>cases u with
  | none=>rfl
  | some _=>exact(show False from r).elim
 | some _=>cases u with
  | none=>exact(show False from r).elim
  | some _=>rfl
theorem RelO.getD {o:Option V}{u:Option Value}{d:V}{d':Value}(r:RelO o u)(rd:RelV d d'):RelV (o.getD d) (u.getD d'):=by
 cases o with
 | none=>cases u with
  | none=>exact rd
  | some _=>exact(show False from r).elim
 | some _=>cases u with
  | none=>exact(show False from r).elim
  | some _=>exact r
theorem KV.val {kvs:List (κ×V)}{vs:List (κ×Value)}(r:KV kvs vs)(k:κ):RelO (valV kvs k) (valueAt vs k):=by
 unfold KV at r
 induction r with
 | nil=>exact True.intro
 | @cons p q ps qs h t ih=>
  obtain⟨h1,h2⟩:=h
  by_cases e:p.1=k
  ·have e':q.1=k:=h1.symm.trans e;have b:valueAt (q::qs) k=some q.2:=by simp[valueAt,find?_cons,e']
   rw[P1 e,b];exact h2
  ·have e':¬q.1=k:=fun z=>e (h1.trans z);have b:valueAt (q::qs) k=valueAt qs k:=by simp[valueAt,find?_cons,e']
   rw[K3 e,b];exact ih
theorem KV.any {kvs:List (κ×V)}{vs:List (κ×Value)}(r:KV kvs vs)(k:κ):(kvs.any fun kv=>decide (kv.1=k))=vs.any fun kv=>decide (kv.1=k):=by
 unfold KV at r
 induction r with
 | nil=>rfl
 | cons h t ih=>rw[any_cons,any_cons,ih,h.1]
theorem KV.repl {kvs:List (κ×V)}{vs:List (κ×Value)}(r:KV kvs vs)(k:κ){y:V}{u:Value}(ry:RelV y u):
  KV (kvs.map fun kv=>if kv.1=k then(kv.1,y) else kv) (vs.map fun kv=>if kv.1=k then(kv.1,u) else kv):=by
 unfold KV at r ⊢
 induction r with
 | nil=>exact .nil
 | @cons p q ps qs h t ih=>
  rw[zJ,zJ];refine .cons ?_ ih;obtain⟨h1,h2⟩:=h
  by_cases e:p.1=k
  ·rw[if_pos e,if_pos (h1.symm.trans e)];exact⟨h1,ry⟩
  ·rw[if_neg e,if_neg (fun z=>e (h1.trans z))];exact⟨h1,h2⟩
theorem KV.put {kvs:List (κ×V)}{vs:List (κ×Value)}(r:KV kvs vs)(k:κ){y:V}{u:Value}(ry:RelV y u):KV (putK kvs k y) (stored vs k u):=by
 unfold putK stored;rw[r.any k]
 by_cases e:(vs.any fun kv=>decide (kv.1=k))=true
 ·rw[if_pos e,if_pos e];exact r.repl k ry
 ·rw[if_neg e,if_neg e];exact Paired.snoc r ⟨rfl,ry⟩
theorem KV.length {kvs:List (κ×V)}{vs:List (κ×Value)}(r:KV kvs vs):kvs.length=vs.length:=xX r
end
theorem a1Z {P:Program}{w:World}{k:Key}{u:Value}(r:RelV (kV k) u):(mixKind P w).is k u=true:=by
 cases k with
 | inl i=>obtain⟨t,e⟩:=(show ∃t,u=Value.int i t from r);subst e;exact a2q P w i t
 | inr x=>obtain⟨t,e⟩:=(show ∃t,u=Value.str x t from r);subst e;exact a16 P w x t
theorem V0 {P:Program}{w:World}:∀{ks:List Key} {us:List Value},Vals (ks.map kV) us->ItemsAre (mixKind P w) ks us
 | [],_,r=>by rw[xY] at r;cases r;exact .nil
 | k::ks,_,r=>by
  rw[zJ] at r;cases r with
  | cons h t=>exact .cons (a1Z h) (V0 t)
abbrev KT (H:Hp):List (List Key×V)->List (List Key×Addr×Value)->Prop:=Paired fun p q=>p.1=q.1/\H q.2.1=some (.tup (p.1.map kV))/\RelV p.2 q.2.2
theorem KT.val {H:Hp}{kvs:List (List Key×V)}{xs:List (List Key×Addr×Value)}(r:KT H kvs xs)(k:List Key):RelO (valV kvs k) ((atKey xs k).map (·.2)):=by
 induction r with
 | nil=>exact True.intro
 | @cons p q ps qs h t ih=>
  obtain⟨h1,_,h2⟩:=h
  by_cases e:p.1=k
  ·have e':q.1=k:=h1.symm.trans e;have b:atKey (q::qs) k=some q.2:=by simp[atKey,find?_cons,e']
   rw[P1 e,b];exact h2
  ·have e':¬q.1=k:=fun z=>e (h1.trans z);have b:atKey (q::qs) k=atKey qs k:=by simp[atKey,find?_cons,e']
   rw[K3 e,b];exact ih
theorem KT.repl {H:Hp}{kvs:List (List Key×V)}{xs:List (List Key×Addr×Value)}(r:KT H kvs xs)(k:List Key){y:V}{u:Value}(ry:RelV y u):
  KT H (kvs.map fun kv=>if kv.1=k then(kv.1,y) else kv) (xs.map (putAt k u)):=by
 induction r with
 | nil=>exact .nil
 | @cons p q ps qs h t ih=>
  rw[zJ,zJ];refine .cons ?_ ih;obtain⟨h1,h2,h3⟩:=h;unfold putAt
  by_cases e:p.1=k
  ·rw[if_pos e,if_pos (h1.symm.trans e)];exact⟨h1,h2,ry⟩
  ·rw[if_neg e,if_neg (fun z=>e (h1.trans z))];exact⟨h1,h2,h3⟩
theorem KT.put {H:Hp}{kvs:List (List Key×V)}{xs:List (List Key×Addr×Value)}(r:KT H kvs xs)(k:List Key){b:Addr}{y:V}{u:Value}(hb:H b=some (.tup (k.map kV)))(ry:RelV y u):
  KT H (putK kvs k y) (storedH xs k b u):=by
 have e:(kvs.any fun kv=>decide (kv.1=k))=(atKey xs k).isSome:=by
  rw[a2j,(r.val k).isSome_eq,isSome_map]
 unfold putK storedH;rw[e]
 by_cases q:(atKey xs k).isSome=true
 ·rw[if_pos q,if_pos q];exact r.repl k ry
 ·rw[if_neg q,if_neg q];exact Paired.snoc r ⟨rfl,hb,ry⟩
theorem KT.keeps {H H':Hp}{kvs:List (List Key×V)}{xs:List (List Key×Addr×Value)}(r:KT H kvs xs)(ht:∀b ys,H b=some (.tup ys)->H' b=some (.tup ys)):KT H' kvs xs:=
 Paired.mapP r fun _ _ z=>⟨z.1,ht _ _ z.2.1,z.2.2⟩
section
variable {P:Program}{w:World}{H:Hp}{h:Heap}{a:Addr}
theorem a6e {u:HO}(ok:HOk P w H h)(e:Rd H a u):ObjOk P w H h a u:=e.ok ok
theorem dk_rd {kvs:List (Key×V)}(ok:HOk P w H h)(e:Rd H a (.dK kvs)):kvs.length<=sizeLine/\(a==sysModules)=false/\∃vs,KV kvs vs/\h.DictOf (mixKind P w) a vs:=
 let ⟨z,y,vs,r,d⟩:=(show ObjOk P w H h a (.dK kvs) from a6e ok e);⟨z,y,vs,r,d.dictOf⟩
theorem dk_at {kvs:List (Key×V)}(ok:HOk P w H h)(e:H a=some (.dK kvs)):kvs.length<=sizeLine/\(a==sysModules)=false/\∃vs,KV kvs vs/\h.DictAt (mixKind P w) a vs kvs.length:=a6e ok (.inl e)
theorem a6o {kvs:List (Key×V)}(ok:HOk P w H h)(e:H a=some (.dK kvs)):kvs.length<=sizeLine/\(a==sysModules)=false/\∃vs,KV kvs vs/\h.DictOf (mixKind P w) a vs:=dk_rd ok (.inl e)
theorem a5F {ks:List Key}(ok:HOk P w H h)(e:H a=some (.tup (ks.map kV))):(tupleKind (mixKind P w)).is h ks a:=by
 obtain⟨_,its,r,o,h1,h2,⟨n,h3⟩,_⟩:=(show ObjOk P w H h a (.tup (ks.map kV)) from ok a _ e);exact⟨o,its.toArray,n,h1,h2,h3,by simpa using V0 r⟩
theorem a6z {kvs:List (List Key×V)}(ok:HOk P w H h)(e:Rd H a (.dT kvs)):kvs.length<=sizeLine/\(a==sysModules)=false/\
  ∃xs,KT H kvs xs/\DictLnH (tupleKind (mixKind P w)) h a xs:=by
 obtain⟨z,y,xs,r,o,es,h1,h2,h3,h4,h5⟩:=(show ObjOk P w H h a (.dT kvs) from a6e ok e);refine⟨z,y,xs,r,o,es,h1,h2,by rw[<-xX r];exact h3,h4,fun x hx=>?_,h5⟩
 have all:∀{l:List (List Key×V)} {m:List (List Key×Addr×Value)},KT H l m->∀x∈m,(tupleKind (mixKind P w)).is h x.1 x.2.1:=by
  intro l m q
  induction q with
  | nil=>intro x hx;exact nomatch hx
  | @cons p q ps qs hq t ih=>
   intro x hx;rcases zO.mp hx with e|hx
   ·subst e;exact a5F ok (by rw[<-hq.1];exact hq.2.1)
   ·exact ih x hx
 exact all r x hx
theorem dt_rd {kvs:List (List Key×V)}(ok:HOk P w H h)(e:Rd H a (.dT kvs)):kvs.length<=sizeLine/\(a==sysModules)=false/\
  ∃xs,KT H kvs xs/\h.DictOfH (tupleKind (mixKind P w)) a xs:=let ⟨z,y,xs,r,d⟩:=a6z ok e;⟨z,y,xs,r,d.of⟩
theorem a6y {kvs:List (List Key×V)}(ok:HOk P w H h)(e:H a=some (.dT kvs)):kvs.length<=sizeLine/\(a==sysModules)=false/\
  ∃xs,KT H kvs xs/\h.DictOfH (tupleKind (mixKind P w)) a xs:=dt_rd ok (.inl e)
end
def DPut (H:Hp) (a:Addr) (y v:V) (H':Hp):Prop:=
 (∃kvs k,H a=some (.dK kvs)/\y=kV k/\kvs.length<sizeLine/\H'=upd H a (.dK (putK kvs k v)))\/
 ∃kvs k b,H a=some (.dT kvs)/\y= .ref b/\H b=some (.tup (k.map kV))/\kvs.length<sizeLine/\H'=upd H a (.dT (putK kvs k v))
theorem DPut.k {H:Hp}{a:Addr}{kvs:List (Key×V)}{k:Key}{v:V}(e:H a=some (.dK kvs))(hl:kvs.length<sizeLine):DPut H a (kV k) v (upd H a (.dK (putK kvs k v))):=.inl ⟨kvs,k,e,rfl,hl,rfl⟩
theorem DPut.t {H:Hp}{a b:Addr}{kvs:List (List Key×V)}{k:List Key}{v:V}(e:H a=some (.dT kvs))(eb:H b=some (.tup (k.map kV)))(hl:kvs.length<sizeLine):
  DPut H a (.ref b) v (upd H a (.dT (putK kvs k v))):=.inr ⟨kvs,k,b,e,rfl,eb,hl,rfl⟩
section
variable {X:Cx}{pins:List (Addr×Obj)}{σ:St}{H:Hp}{s:Shared}{a:Addr}{y v:V}{u r:Value}{o:Option V}{A:Around}{E:Value->Shared->Prop}
theorem Inv.big (I:Inv X pins σ H s):sysModules<s.heap.objs.size:=by
 have h:mainGlobals<s.heap.objs.size:=(I.mod.glob.keeps I.bk).lt;exact Nat.lt_trans (by decide) h
theorem a34 {h':Heap}{t':Nat}{ob:HO}(I:Inv X pins σ H s)(mu:Mut (H a))(hs:Heap.SameBut a s.heap h')(he:∃q,h'.get? a=some q)(new:ObjOk X.prog X.w (upd H a ob) h' a ob):
  Inv X pins σ (upd H a ob) {s with heap:=h',toks:=t'}:=
 I.write (x:=a) (e:=a) mu (.inl rfl) (fun b q hb z=>(hs.2 b hb).trans z) he new
theorem a9h {P:Program}{w:World}{H':Hp}{h':Heap}{kvs:List (Key×V)}{vs:List (Key×Value)}(z:kvs.length<=sizeLine)(hd:(a==sysModules)=false)(rel:KV kvs vs)(dd:h'.DictAt (mixKind P w) a vs vs.length):
  ObjOk P w H' h' a (.dK kvs):=⟨z,hd,vs,rel,by rw[rel.length];exact dd⟩
theorem a43 {H':Hp}{Q:Unit->Shared->Prop}(hu:A.units+1<cLine)(I:Inv X pins σ H s)(g:DPut H a y v H')(ry:RelV y u)(rv:RelV v r)(h:∀s',Inv X pins σ H' s'->Q () s'):
  wpAny (model X.prog X.w) A (setItem (.ref a) u r) Q E s:=by
 rcases g with ⟨kvs,k,e,ey,l,eH⟩|⟨kvs,k,b,e,ey,eb,l,eH⟩
 ·subst ey eH;obtain⟨z,hd,vs,rel,dd⟩:=dk_at I.hok e;rw[rel.length] at dd;have hz:vs.length<=sizeLine:=by rw[<-rel.length];exact z
  have hl:(putK kvs k v).length<=sizeLine:=by have:=V7 kvs k v;walk_at "o"
  refine a1R (a1Z ry) dd hz fun h' dd' hs=>h _ ?_;have he:∃q,h'.get? a=some q:=let ⟨q,_,hq,_⟩:=dd';⟨q,hq⟩;exact a34 I (by rw[e];exact True.intro) hs he (a9h hl hd (rel.put k rv) dd')
 ·subst ey eH;cases(show u=Value.ref b from ry);obtain⟨z,hd,xs,rel,dd⟩:=a6z I.hok (.inl e);have hz:xs.length<=sizeLine:=by rw[<-xX rel];exact z
  have hl:(putK kvs k v).length<=sizeLine:=by have:=V7 kvs k v;walk_at "o"
  refine a2L (tupleKind_room_in1 hu) (a5F I.hok eb) dd hz fun h' dd' hs=>h _ ?_;obtain⟨q,es,hq,h2,h3,h4,_,h5⟩:=dd';refine a34 I (by rw[e];exact True.intro) hs ⟨q,hq⟩ ⟨hl,hd,_,(rel.put k eb rv).keeps fun c ys ec=>?_,q,es,hq,h2,by rw[xX (rel.put k eb rv)];exact h3,h4,h5⟩
  rw[c6 (ne_of ec e (fun z=>nomatch z))];exact ec
end
def sDPut (td ty tv:TE):TS:=fun D σ H=>tv σ H fun v H1=>td σ H1 fun x H2=>ty σ H2 fun y H3=>∃a H4,x= .ref a/\DPut H3 a y v H4/\D.nx σ H4
section
variable {X:Cx}{o i value:Expr}{pos pos':Pos}{td ty tv:TE}
theorem a7n (hu:X.A.units+1<cLine)(ho:PE X o td)(hi:PE X i ty)(hv:PE X value tv)(hs:swapsWith value (some (.Subscript o i pos')) pos.line X.env=pure false):
  PS X (.Assign [.Subscript o i pos'] value pos) (sDPut td ty tv):=by
 intro pins s σ H D I h;refine wpAny_Assign_Subscript (thn (hv pins s σ H _ I h) fun r s1 ⟨v,H1,I1,rv,q1⟩=>thn (ho pins s1 σ H1 _ I1 q1) fun u s2 ⟨x,H2,I2,rx,q2⟩=>thn (hi pins s2 σ H2 _ I2 q2) fun iv s3 ⟨y,H3,I3,ry,a,H4,ex,g,q3⟩=>?_) hs;subst ex;obtain rfl:u=Value.ref a:=rx;exact a43 hu I3 g ry rv fun s4 I4=>⟨σ,H4,I4,q3⟩
end
theorem a5x {P:Program}{w:World}{H:Hp}(h:Heap)(hb:sysModules<h.objs.size):ObjOk P w H (h.push {cls:=.type "dict",data:=.dict #[]}) h.objs.size (.dK []):=
 ⟨jW _,beq_eq_false_iff_ne.mpr (jA (zG hb)),[],.nil,_, #[],zL _ rfl,⟨rfl,rfl,rfl⟩,rfl,fun _ he=>by simp at he,Pairs.nil,nodup_nil⟩
def tDNewK:TE:=fun _ H Q=>∀p,H p=none->Q (.ref p) (upd H p (.dK []))
section
variable {X:Cx}{pos:Pos}
theorem a60:PE X (.Dict [] [] pos) tDNewK:=fun pins s σ H Q I h=>
 wpAny_Dict_empty ⟨.ref s.heap.objs.size,_,I.laid (a:=s.heap.objs.size) (o:=.dK []) (t':=s.toks) (fun _ _ q=>zC _ q) (zE _) (a5x s.heap I.big),rfl,h _ (I.hok.fresh (zE _))⟩
end
end L2
set_option maxHeartbeats 1000000
namespace Z
open PySem PySem.Spec PyProof.Rows L2
theorem obs {α β:Type}{o:Option α}{k:α->Option β}{y:β}(h:o.bind k=some y):∃a,o=some a/\k a=some y:=Option.bind_eq_some_iff.mp h
theorem oms {α β:Type}{o:Option α}{k:α->β}{y:β}(h:o.map k=some y):∃a,o=some a/\k a=y:=Option.map_eq_some_iff.mp h
set_option genInjectivity true in
inductive D where
 | non|bl (b:Bool)|int (i:Int)|str (x:Str)|tup (xs:List D)|lst (xs:List D)|dT (ks:List (List Key)) (xs:List D)|dK (ks:List Key) (xs:List D)|exn (C:Addr)
set_option genInjectivity true in
inductive W where
 | v (d:D)|o (d:D)|l (d:D)|r (i:Nat)
abbrev Ev:=List (Option W)
abbrev Av:=Addr->Prop
def ExcAt (a C:Addr) (h:Heap):Prop:=∃o vs,h.get? a=some o/\o.cls= .ref C/\o.data= .fields vs
def Mu:HO->Prop
 | .lst _=>True
 | .dT _=>True
 | .dK _=>True
 | _=>False
abbrev Emp:Hp:=fun _=>none
mutual
def Den (K:PySem.W.Frag) (A:Av) (H:Hp):D->V->Prop
 | .non,v=>v= .non
 | .bl b,v=>v= .bl b
 | .int i,v=>v= .int i
 | .str x,v=>v= .str x
 | .tup xs,v=>∃a vs,v= .ref a/\SqT K H a vs/\DenL K A H xs vs
 | .lst xs,v=>∃a vs,v= .ref a/\((H a=some (.lst vs)/\¬A a)\/(∃o,H a=some (.frz o (.lst vs)))\/SqL K Emp a vs)/\DenL K A H xs vs
 | .dT ks xs,v=>∃a vs,v= .ref a/\(H a=some (.dT (ks.zip vs))/\¬A a)/\ks.length=xs.length/\DenL K A H xs vs
 | .dK ks xs,v=>∃a vs,v= .ref a/\(H a=some (.dK (ks.zip vs))/\¬A a)/\ks.length=xs.length/\DenL K A H xs vs
 | .exn C,v=>∃a,v= .ref a/\H a=some (.ext (ExcAt a C))
def DenL (K:PySem.W.Frag) (A:Av) (H:Hp):List D->List V->Prop
 | [],vs=>vs=[]
 | d::ds,vs=>∃v r,vs=v::r/\Den K A H d v/\DenL K A H ds r
end
section
variable {K:PySem.W.Frag}{A A' M:Av}{H H':Hp}
structure Go (A A' M:Av) (H H':Hp):Prop where
 k:∀b o,H b=some o->¬M b->H' b=some o
 m:∀b,M b->A b/\∃u,H b=some u/\Mu u
 n:∀b,A' b->A b\/H b=none
theorem Go.not (g:Go A A' M H H'){b:Addr}{u:HO}(e:H b=some u)(n:¬Mu u):H' b=some u:=g.k b u e fun z=>by
 obtain⟨_,u',e',m⟩:=g.m b z;rw[e] at e';cases e';exact n m
theorem Go.lone (g:Go A A' M H H'){b:Addr}{u:HO}(h:H b=some u/\¬A b):H' b=some u/\¬A' b:=
 ⟨g.k b u h.1 fun z=>h.2 (g.m b z).1,fun z=>(g.n b z).elim h.2 fun z=>by rw[h.1] at z;cases z⟩
mutual
theorem l5 (g:Go A A' M H H'):∀(d:D) (v:V),Den K A H d v->Den K A' H' d v
 | .non,v,h=>by rw[Den] at h ⊢;exact h
 | .bl b,v,h=>by rw[Den] at h ⊢;exact h
 | .int i,v,h=>by rw[Den] at h ⊢;exact h
 | .str x,v,h=>by rw[Den] at h ⊢;exact h
 | .tup xs,v,h=>by
  rw[Den] at h ⊢;obtain⟨a,vs,e,q,l⟩:=h;refine⟨a,vs,e,?_,m6 g xs vs l⟩;rcases q with (q|⟨o,q⟩)|q
  ·exact .inl (.inl (g.not q id))
  ·exact .inl (.inr ⟨o,g.not q id⟩)
  ·exact .inr q
 | .lst xs,v,h=>by
  rw[Den] at h ⊢;obtain⟨a,vs,e,q,l⟩:=h;refine⟨a,vs,e,?_,m6 g xs vs l⟩;rcases q with q|⟨o,q⟩|q
  ·exact .inl (g.lone q)
  ·exact .inr (.inl ⟨o,g.not q id⟩)
  ·exact .inr (.inr q)
 | .dT ks xs,v,h=>by
  rw[Den] at h ⊢;obtain⟨a,vs,e,q,hl,l⟩:=h;exact⟨a,vs,e,g.lone q,hl,m6 g xs vs l⟩
 | .dK ks xs,v,h=>by
  rw[Den] at h ⊢;obtain⟨a,vs,e,q,hl,l⟩:=h;exact⟨a,vs,e,g.lone q,hl,m6 g xs vs l⟩
 | .exn C,v,h=>by
  rw[Den] at h ⊢;obtain⟨a,e,q⟩:=h;exact⟨a,e,g.not q id⟩
theorem m6 (g:Go A A' M H H'):∀(ds:List D) (vs:List V),DenL K A H ds vs->DenL K A' H' ds vs
 | [],vs,h=>by rw[DenL] at h ⊢;exact h
 | d::ds,vs,h=>by
  rw[DenL] at h ⊢;obtain⟨v,r,e,q,l⟩:=h;exact⟨v,r,e,l5 g d v q,m6 g ds r l⟩
end
theorem a1u (s:Same H H'):Go A A (fun _=>False) H H':=⟨fun b o e _=>s b o e,fun _ z=>z.elim,fun _ z=>.inl z⟩
theorem n9 (h:∀b,A' b->A b):Go A A' (fun _=>False) H H:=⟨fun _ _ e _=>e,fun _ z=>z.elim,fun b z=>.inl (h b z)⟩
theorem a1S (s:Same H H'){d:D}{v:V}(h:Den K A H d v):Den K A H' d v:=l5 (a1u s) d v h
theorem a44 (s:Same H H'){d:List D}{v:List V}(h:DenL K A H d v):DenL K A H' d v:=m6 (a1u s) d v h
theorem e8 {d:D}{ds:List D}{v:V}{vs:List V}(h:Den K A H d v)(t:DenL K A H ds vs):DenL K A H (d::ds) (v::vs):=by rw[DenL];exact⟨v,vs,rfl,h,t⟩
theorem g8:DenL K A H [] []:=by rw[DenL]
theorem k6:∀{ds es:List D} {vs ws:List V},DenL K A H ds vs->DenL K A H es ws->DenL K A H (ds++es) (vs++ws)
 | [],_,_,_,h,t=>by rw[DenL] at h;subst h;exact t
 | d::ds,_,_,_,h,t=>by
  rw[DenL] at h;obtain⟨v,r,rfl,q,l⟩:=h;exact e8 q (k6 l t)
theorem b4:∀{ds:List D} {vs:List V},DenL K A H ds vs->ds.length=vs.length
 | [],_,h=>by rw[DenL] at h;subst h;rfl
 | d::ds,_,h=>by
  rw[DenL] at h;obtain⟨v,r,rfl,q,l⟩:=h;rw[qL,qL,b4 l]
theorem t5:∀{ds:List D} {vs:List V} {i:Nat} {d:D},DenL K A H ds vs->ds[i]? =some d->∃v,vs[i]? =some v/\Den K A H d v
 | [],_,_,_,_,e=>by simp at e
 | d::ds,_,0,_,h,e=>by
  rw[DenL] at h;obtain⟨v,r,rfl,q,l⟩:=h;simp at e;subst e;exact⟨v,rfl,q⟩
 | d::ds,_,i+1,x,h,e=>by
  rw[DenL] at h;obtain⟨v,r,rfl,q,l⟩:=h;obtain⟨u,h1,h2⟩:=t5 (i:=i) (d:=x) l (by simpa using e)
  exact⟨u,by simpa using h1,h2⟩
theorem a1W {d:D}{v:V}(hd:Den K A H d v):∀{ds:List D} {vs:List V} (i:Nat),DenL K A H ds vs->DenL K A H (ds.set i d) (vs.set i v)
 | [],_,_,h=>by rw[DenL] at h;subst h;exact g8
 | _::_,_,0,h=>by
  rw[DenL] at h;obtain⟨v,r,rfl,q,l⟩:=h;exact e8 hd l
 | _::_,_,i+1,h=>by
  rw[DenL] at h;obtain⟨v,r,rfl,q,l⟩:=h;exact e8 q (a1W hd i l)
theorem U4:∀{ds:List D} {vs:List V} (n:Nat),DenL K A H ds vs->DenL K A H (ds.take n) (vs.take n)
 | [],_,n,h=>by rw[DenL] at h;subst h;simp;exact g8
 | d::ds,_,0,h=>by simp;exact g8
 | d::ds,_,n+1,h=>by
  rw[DenL] at h;obtain⟨v,r,rfl,q,l⟩:=h;exact e8 q (U4 n l)
theorem T5:∀{ds:List D} {vs:List V} (n:Nat),DenL K A H ds vs->DenL K A H (ds.drop n) (vs.drop n)
 | [],_,n,h=>by rw[DenL] at h;subst h;simp;exact g8
 | d::ds,_,0,h=>h
 | d::ds,_,n+1,h=>by
  rw[DenL] at h;obtain⟨v,r,rfl,q,l⟩:=h;exact T5 n l
theorem q8 {i:Int}{v:V}:Den K A H (.int i) v↔v= .int i:=by rw[Den]
theorem a0a {i:Bool}{v:V}:Den K A H (.bl i) v↔v= .bl i:=by rw[Den]
theorem a3i {v:V}:Den K A H .non v↔v= .non:=by rw[Den]
theorem W8 {i:Str}{v:V}:Den K A H (.str i) v↔v= .str i:=by rw[Den]
theorem denL1 {d:D}{vs:List V}(l:DenL K A H [d] vs):∃v,vs=[v]/\Den K A H d v:=by
 rw[DenL] at l;obtain⟨v,r,rfl,h,l⟩:=l;rw[DenL] at l;subst l;exact⟨v,rfl,h⟩
theorem denL2 {d e:D}{vs:List V}(l:DenL K A H [d,e] vs):∃v u,vs=[v,u]/\Den K A H d v/\Den K A H e u:=by
 rw[DenL] at l;obtain⟨v,r,rfl,h,l⟩:=l;obtain⟨u,rfl,h'⟩:=denL1 l;exact⟨v,u,rfl,h,h'⟩
end
mutual
def lf:D->Bool
 | .tup xs=>lfL xs
 | .lst _=>false
 | .dT _ _=>false
 | .dK _ _=>false
 | _=>true
def lfL:List D->Bool
 | []=>true
 | d::ds=>lf d&&lfL ds
end
section
variable {K:PySem.W.Frag}{A A':Av}{H H':Hp}
mutual
theorem a2D (g:∀b o,H b=some o->¬Mu o->H' b=some o):∀(d:D) (v:V),lf d=true->Den K A H d v->Den K A' H' d v
 | .non,v,_,h=>by rw[Den] at h ⊢;exact h
 | .bl b,v,_,h=>by rw[Den] at h ⊢;exact h
 | .int i,v,_,h=>by rw[Den] at h ⊢;exact h
 | .str x,v,_,h=>by rw[Den] at h ⊢;exact h
 | .tup xs,v,f,h=>by
  rw[Den] at h ⊢;obtain⟨a,vs,e,q,l⟩:=h;refine⟨a,vs,e,?_,R3 g xs vs (by rw[lf] at f;exact f) l⟩
  rcases q with (q|⟨o,q⟩)|q
  ·exact .inl (.inl (g _ _ q id))
  ·exact .inl (.inr ⟨o,g _ _ q id⟩)
  ·exact .inr q
 | .lst xs,v,f,h=>by rw[lf] at f;cases f
 | .dT _ xs,v,f,h=>by rw[lf] at f;cases f
 | .dK _ xs,v,f,h=>by rw[lf] at f;cases f
 | .exn _,v,_,h=>by rw[Den] at h ⊢;obtain⟨a,e,q⟩:=h;exact⟨a,e,g _ _ q id⟩
theorem R3 (g:∀b o,H b=some o->¬Mu o->H' b=some o):∀(d:List D) (v:List V),lfL d=true->DenL K A H d v->DenL K A' H' d v
 | [],v,_,h=>by rw[DenL] at h ⊢;exact h
 | d::ds,v,f,h=>by
  rw[lfL,jV] at f;rw[DenL] at h ⊢;obtain⟨u,r,e,q,l⟩:=h;exact⟨u,r,e,a2D g d u f.1 q,R3 g ds r f.2 l⟩
end
end
def Obj (K:PySem.W.Frag) (A:Av) (H:Hp) (a:Addr):D->Prop
 | .lst xs=>∃vs,H a=some (.lst vs)/\DenL K A H xs vs
 | .dT ks xs=>∃vs,H a=some (.dT (ks.zip vs))/\ks.length=xs.length/\DenL K A H xs vs
 | .dK ks xs=>∃vs,H a=some (.dK (ks.zip vs))/\ks.length=xs.length/\DenL K A H xs vs
 | _=>False
def DenR (K:PySem.W.Frag) (A:Av) (H:Hp):D->V->Prop
 | .lst xs,v=>∃a vs,v= .ref a/\SqL K H a vs/\DenL K A H xs vs
 | .dT ks xs,v=>∃a vs,v= .ref a/\H a=some (.dT (ks.zip vs))/\ks.length=xs.length/\DenL K A H xs vs
 | .dK ks xs,v=>∃a vs,v= .ref a/\H a=some (.dK (ks.zip vs))/\ks.length=xs.length/\DenL K A H xs vs
 | d,v=>Den K A H d v
section
variable {K:PySem.W.Frag}{A A' M:Av}{H H':Hp}{d:D}{v:V}{a:Addr}
theorem p7 (g:Go A A' M H H')(hk:H' a=H a)(h:Obj K A H a d):Obj K A' H' a d:=by
 cases d with
 | lst xs=>obtain⟨vs,e,l⟩:=h;exact⟨vs,hk.trans e,m6 g _ _ l⟩
 | dT ks xs=>obtain⟨vs,e,hl,l⟩:=h;exact⟨vs,hk.trans e,hl,m6 g _ _ l⟩
 | dK ks xs=>obtain⟨vs,e,hl,l⟩:=h;exact⟨vs,hk.trans e,hl,m6 g _ _ l⟩
 | _=>exact h
theorem A9 (h:Obj K A H a d):∃u,H a=some u/\Mu u:=by
 cases d with
 | lst xs=>obtain⟨vs,e,l⟩:=h;exact⟨_,e,trivial⟩
 | dT ks xs=>obtain⟨vs,e,hl,l⟩:=h;exact⟨_,e,trivial⟩
 | dK ks xs=>obtain⟨vs,e,hl,l⟩:=h;exact⟨_,e,trivial⟩
 | _=>exact h.elim
theorem P4 (h:Obj K A H a d)(n:¬A a):Den K A H d (.ref a):=by
 cases d with
 | lst xs=>obtain⟨vs,e,l⟩:=h;rw[Den];exact⟨a,vs,rfl,.inl ⟨e,n⟩,l⟩
 | dT ks xs=>obtain⟨vs,e,hl,l⟩:=h;rw[Den];exact⟨a,vs,rfl,⟨e,n⟩,hl,l⟩
 | dK ks xs=>obtain⟨vs,e,hl,l⟩:=h;rw[Den];exact⟨a,vs,rfl,⟨e,n⟩,hl,l⟩
 | _=>exact h.elim
theorem obj_r (h:Obj K A H a d):DenR K A H d (.ref a):=by
 cases d with
 | lst xs=>obtain⟨vs,e,l⟩:=h;exact⟨a,vs,rfl,.inl (.inl e),l⟩
 | dT ks xs=>obtain⟨vs,e,hl,l⟩:=h;exact⟨a,vs,rfl,e,hl,l⟩
 | dK ks xs=>obtain⟨vs,e,hl,l⟩:=h;exact⟨a,vs,rfl,e,hl,l⟩
 | _=>exact h.elim
theorem B6 (h:Den K A H d v):DenR K A H d v:=by
 cases d with
 | lst xs=>
  rw[Den] at h;obtain⟨a,vs,e,q,l⟩:=h;refine⟨a,vs,e,?_,l⟩;rcases q with q|⟨o,q⟩|(q|⟨o,q⟩)|q
  ·exact .inl (.inl q.1)
  ·exact .inl (.inr ⟨o,q⟩)
  ·cases q
  ·cases q
  ·exact .inr q
 | dT ks xs=>rw[Den] at h;obtain⟨a,vs,e,q,l⟩:=h;exact⟨a,vs,e,q.1,l⟩
 | dK ks xs=>rw[Den] at h;obtain⟨a,vs,e,q,l⟩:=h;exact⟨a,vs,e,q.1,l⟩
 | _=>exact h
end
def W.own:W->Option D
 | .o d=>some d
 | .l d=>some d
 | _=>none
def Ow (ρ:Ev) (σ:L2.St):Av:=fun b=>∃(i:Nat) (w:W) (d:D),ρ[i]? =some (some w)/\w.own=some d/\σ[i]? =some (some (V.ref b))
abbrev AvO (O:Av) (ρ:Ev) (σ:L2.St):Av:=fun b=>O b\/Ow ρ σ b
def SlotOk (K:PySem.W.Frag) (A:Av) (H:Hp):W->V->Prop
 | .v d,v=>Den K A H d v
 | .o d,v=>∃a,v= .ref a/\Obj K A H a d
 | .l d,v=>∃a,v= .ref a/\Obj K A H a d
 | .r _,_=>False
def hz (X:Cx) (L:List (Option Nat×Addr)):Hp:=fun b=>if(none,b)∈L then none else X.H₀ b
structure Rep (X:Cx) (P:List (D×V)) (O:Av) (L:List (Option Nat×Addr)) (ρ:Ev) (σ:L2.St) (H:Hp):Prop where
 same:∀b o,X.H₀ b=some o->(∀i,(i,b)∉L)->H b=some o
 amb:∀b,O b->(∃o,X.H₀ b=some o)/\∀i,(i,b)∉L
 len:ρ.length=σ.length
 slot:∀(i:Nat) (w:W),ρ[i]? =some (some w)->∃v,σ[i]? =some (some v)/\SlotOk X.K (AvO O ρ σ) H w v
 inj:∀(i j:Nat) (w w':W) (d d':D) (b:Addr),ρ[i]? =some (some w)->w.own=some d->σ[i]? =some (some (.ref b))->ρ[j]? =some (some w')->w'.own=some d'->σ[j]? =some (some (.ref b))->i=j
 new:∀(i:Nat) (d:D) (b:Addr),ρ[i]? =some (some (.o d))->σ[i]? =some (some (.ref b))->hz X L b=none
 lnt:∀(i:Nat) (d:D),ρ[i]? =some (some (.l d))->∃b,σ[i]? =some (some (.ref b))/\(some i,b)∈L
 lnd:∀(i:Nat) (b:Addr),(some i,b)∈L->∃d,ρ[i]? =some (some (.l d))/\σ[i]? =some (some (.ref b))
 prot:∀p∈P,Den X.K (AvO O ρ σ) H p.1 p.2
 gvl:∀b,(none,b)∈L->∃(i:Nat) (a:Addr),(some i,a)∈L
section
variable {X:Cx}{P:List (D×V)}{O:Av}{L:List (Option Nat×Addr)}{ρ:Ev}{σ:L2.St}{H H':Hp}
theorem a20 {K:PySem.W.Frag}{A:Av}{H:Hp}{w:W}{d:D}{v:V}(h:SlotOk K A H w v)(e:w.own=some d):∃a,v= .ref a/\Obj K A H a d:=by
 cases w<;>simp only[W.own] at e<;>first|(cases e;exact h)|cases e
theorem Rep.obj (r:Rep X P O L ρ σ H){i:Nat}{w:W}{d:D}(e:ρ[i]? =some (some w))(ew:w.own=some d):∃a,σ[i]? =some (some (.ref a))/\Obj X.K (AvO O ρ σ) H a d:=by
 obtain⟨v,h1,h2⟩:=r.slot i w e;obtain⟨a,rfl,h3⟩:=a20 h2 ew;exact⟨a,h1,h3⟩
theorem Rep.owMu (r:Rep X P O L ρ σ H){b:Addr}(z:Ow ρ σ b):∃u,H b=some u/\Mu u:=by
 obtain⟨i,w,d,e1,e2,e3⟩:=z;obtain⟨a,h1,h2⟩:=r.obj e1 e2;rw[e3] at h1;cases h1;exact A9 h2
theorem Rep.ambN (r:Rep X P O L ρ σ H){b:Addr}(z:O b):¬Ow ρ σ b:=fun⟨i,w,d,e1,e2,e3⟩=>by
 obtain⟨⟨o,h0⟩,hl⟩:=r.amb b z;cases w with
 | o d'=>have:=r.new i d' b e1 e3;unfold hz at this;rw[if_neg (hl none),h0] at this;cases this
 | l d'=>obtain⟨c,h1,h2⟩:=r.lnt i d' e1;rw[e3] at h1;cases h1;exact hl (some i) h2
 | _=>cases e2
theorem Rep.there (r:Rep X P O L ρ σ H){b:Addr}(z:AvO O ρ σ b):∃o,H b=some o:=by
 rcases z with z|z
 ·obtain⟨⟨o,h0⟩,hl⟩:=r.amb b z;exact⟨o,r.same b o h0 hl⟩
 ·obtain⟨u,e,_⟩:=r.owMu z;exact⟨u,e⟩
theorem Rep.fresh (r:Rep X P O L ρ σ H){b:Addr}(n:H b=none):¬AvO O ρ σ b:=fun z=>by obtain⟨o,e⟩:=r.there z;rw[n] at e;cases e
theorem Rep.fresh0 (r:Rep X P O L ρ σ H){b:Addr}(n:H b=none):hz X L b=none:=by
 unfold hz
 split
 ·rfl
 ·rename_i hg;cases q:X.H₀ b with
  | none=>rfl
  | some o=>
   have:H b=some o:=r.same b o q fun i e=>by
    cases i with
    | none=>exact hg e
    | some i=>
     obtain⟨d,h1,h2⟩:=r.lnd i b e;obtain⟨a,h3,h4⟩:=r.obj h1 rfl;rw[h2] at h3;cases h3;obtain⟨u,e,_⟩:=A9 h4;rw[n] at e;cases e
   rw[n] at this;cases this
theorem D5 {K:PySem.W.Frag}{A A' M:Av}{H H':Hp}(g:Go A A' M H H'){w:W}{v:V}(hk:∀a d,w.own=some d->v= .ref a->H' a=H a)(h:SlotOk K A H w v):SlotOk K A' H' w v:=by
 cases w with
 | v d=>exact l5 g _ _ h
 | o d=>obtain⟨a,e,q⟩:=h;exact⟨a,e,p7 g (hk a d rfl e) q⟩
 | l d=>obtain⟨a,e,q⟩:=h;exact⟨a,e,p7 g (hk a d rfl e) q⟩
 | r i=>exact h
theorem Rep.grow (r:Rep X P O L ρ σ H)(s:Same H H'):Rep X P O L ρ σ H' where
 same:=fun b o e hl=>s b o (r.same b o e hl)
 amb:=r.amb
 len:=r.len
 slot:=fun i w e=>by
  obtain⟨v,h1,h2⟩:=r.slot i w e;refine⟨v,h1,D5 (a1u s) (fun a d ew ev=>?_) h2⟩;subst ev;obtain⟨b,h3,h4⟩:=r.obj e ew;rw[h1] at h3;cases h3;obtain⟨u,eu,_⟩:=A9 h4;rw[eu,s _ _ eu]
 inj:=r.inj
 new:=r.new
 lnt:=r.lnt
 lnd:=r.lnd
 prot:=fun p hp=>a1S s (r.prot p hp)
 gvl:=r.gvl
theorem Rep.more {p:D×V}(r:Rep X P O L ρ σ H)(h:Den X.K (AvO O ρ σ) H p.1 p.2):Rep X (p::P) O L ρ σ H:=
 ⟨r.same,r.amb,r.len,r.slot,r.inj,r.new,r.lnt,r.lnd,fun q hq=>(zO.mp hq).elim (fun e=>by rw[e];exact h) (r.prot q),r.gvl⟩
theorem Rep.less {p:D×V}(r:Rep X (p::P) O L ρ σ H):Rep X P O L ρ σ H:=
 ⟨r.same,r.amb,r.len,r.slot,r.inj,r.new,r.lnt,r.lnd,fun q hq=>r.prot q (zN _ hq),r.gvl⟩
theorem Rep.head {p:D×V}(r:Rep X (p::P) O L ρ σ H):Den X.K (AvO O ρ σ) H p.1 p.2:=r.prot p zR
theorem l6 {α:Type}{l:List α}{i j:Nat}{x y:α}(e:(l.set i x)[j]? =some y):(j=i/\y=x/\i<l.length)\/(j≠i/\l[j]? =some y):=by
 by_cases q:i=j
 ·subst q;rw[List.getElem?_set,if_pos rfl] at e;split at e
  ·cases e;rename_i h;exact .inl ⟨rfl,rfl,h⟩
  ·cases e
 ·rw[zX q] at e;exact .inr ⟨jA q,e⟩
theorem v5 {α:Type}{l:List α}{i:Nat}{x:α}(h:i<l.length):(l.set i x)[i]? =some x:=by rw[List.getElem?_set,if_pos rfl,if_pos h]
def freeSlot (ρ:Ev) (i:Nat):Bool:=match ρ[i]? with
 | some (some (.l _))=>false
 | _=>true
theorem Rep.put (r:Rep X P O L ρ σ H){i:Nat}{d:D}{v:V}(hf:freeSlot ρ i=true)(h:Den X.K (AvO O ρ σ) H d v):Rep X P O L (ρ.set i (some (.v d))) (σ.set i (some v)) H:=by
 have sub:∀b,AvO O (ρ.set i (some (.v d))) (σ.set i (some v)) b->AvO O ρ σ b:=fun b z=>by
  rcases z with z|⟨j,w,c,e1,e2,e3⟩
  ·exact .inl z
  ·rcases l6 e1 with ⟨rfl,z,_⟩|⟨n,e1⟩
   ·cases z;cases e2
   ·rw[zX (jA n)] at e3;exact .inr ⟨j,w,c,e1,e2,e3⟩
 have g:=n9 (H:=H) sub;have st:∀{j:Nat} {w:W} {c:D},(ρ.set i (some (.v d)))[j]? =some (some w)->w.own=some c->j≠i/\ρ[j]? =some (some w):=fun{j w c} e1 e2=>by
  rcases l6 e1 with ⟨rfl,z,_⟩|z
  ·cases z;cases e2
  ·exact z
 refine⟨r.same,r.amb,by rw[xK,xK];exact r.len,fun j w e=>?_,fun j k w w' c c' b e1 e2 e3 e4 e5 e6=>?_,fun j c b e1 e2=>?_,fun j c e=>?_,fun j b e=>?_,fun p hp=>l5 g _ _ (r.prot p hp),r.gvl⟩
 ·rcases l6 e with ⟨rfl,z,hl⟩|⟨n,e⟩
  ·cases z;exact⟨v,v5 (by rw[<-r.len];exact hl),l5 g _ _ h⟩
  ·obtain⟨u,h1,h2⟩:=r.slot j w e;exact⟨u,by rw[zX (jA n)];exact h1,D5 g (fun _ _ _ _=>rfl) h2⟩
 ·obtain⟨n1,e1⟩:=st e1 e2;obtain⟨n2,e4⟩:=st e4 e5;rw[zX (jA n1)] at e3;rw[zX (jA n2)] at e6;exact r.inj j k w w' c c' b e1 e2 e3 e4 e5 e6
 ·obtain⟨n1,e1⟩:=st (c:=c) e1 rfl;rw[zX (jA n1)] at e2;exact r.new j c b e1 e2
 ·obtain⟨n1,e1⟩:=st (c:=c) e rfl;rw[zX (jA n1)];exact r.lnt j c e1
 ·obtain⟨c,h1,h2⟩:=r.lnd j b e;have n:i≠j:=fun z=>by subst z;unfold freeSlot at hf;rw[h1] at hf;cases hf
  exact⟨c,by rw[zX n];exact h1,by rw[zX n];exact h2⟩
theorem Rep.putO (r:Rep X P O L ρ σ H)(s:Same H H'){i:Nat}{d:D}{a:Addr}(hf:freeSlot ρ i=true)(hn:H a=none)(h:Obj X.K (fun b=>AvO O ρ σ b\/b=a) H' a d):Rep X P O L (ρ.set i (some (.o d))) (σ.set i (some (.ref a))) H':=by
 have nA:=r.fresh hn;have sub:∀b,AvO O (ρ.set i (some (.o d))) (σ.set i (some (.ref a))) b->AvO O ρ σ b\/b=a:=fun b z=>by
  rcases z with z|⟨j,w,c,e1,e2,e3⟩
  ·exact .inl (.inl z)
  ·rcases l6 e1 with ⟨rfl,z,hl⟩|⟨n,e1⟩
   ·rw[v5 (by rw[<-r.len];exact hl)] at e3;cases e3;exact .inr rfl
   ·rw[zX (jA n)] at e3;exact .inl (.inr ⟨j,w,c,e1,e2,e3⟩)
 have g:Go (AvO O ρ σ) (AvO O (ρ.set i (some (.o d))) (σ.set i (some (.ref a)))) (fun _=>False) H H':=⟨fun b o e _=>s b o e,fun _ z=>z.elim,fun b z=>(sub b z).imp id fun z=>by rw[z];exact hn⟩
 have old:∀{j:Nat} {w:W} {b:Addr},ρ[j]? =some (some w)->σ[j]? =some (some (.ref b))->w.own≠none->b≠a:=fun{j w b} e1 e2 e3 z=>by
  cases q:w.own with
  | none=>exact e3 q
  | some c=>exact nA (.inr ⟨j,w,c,e1,q,by rw[<-z];exact e2⟩)
 refine⟨fun b o e hl=>s b o (r.same b o e hl),r.amb,by rw[xK,xK];exact r.len,fun j w e=>?_,fun j k w w' c c' b e1 e2 e3 e4 e5 e6=>?_,fun j c b e1 e2=>?_,fun j c e=>?_,fun j b e=>?_,fun p hp=>l5 g _ _ (r.prot p hp),r.gvl⟩
 ·rcases l6 e with ⟨rfl,z,hl⟩|⟨n,e⟩
  ·cases z;exact⟨.ref a,v5 (by rw[<-r.len];exact hl),a,rfl,p7 (n9 sub) rfl h⟩
  ·obtain⟨u,h1,h2⟩:=r.slot j w e;refine⟨u,by rw[zX (jA n)];exact h1,D5 g (fun b c ec eb=>?_) h2⟩
   subst eb;obtain⟨o,eo,_⟩:=r.owMu ⟨j,w,c,e,ec,h1⟩;rw[eo,s _ _ eo]
 ·rcases l6 e1 with ⟨rfl,z,hl⟩|⟨n1,e1⟩
  ·rw[v5 (by rw[<-r.len];exact hl)] at e3;cases e3
   rcases l6 e4 with ⟨rfl,_,_⟩|⟨n2,e4⟩
   ·rfl
   ·rw[zX (jA n2)] at e6;exact absurd rfl (old e4 e6 (by rw[e5];exact nofun))
  ·rw[zX (jA n1)] at e3;have f1:=old e1 e3 (by rw[e2];exact nofun)
   rcases l6 e4 with ⟨rfl,_,hl⟩|⟨n2,e4⟩
   ·rw[v5 (by rw[<-r.len];exact hl)] at e6;cases e6
    exact absurd rfl f1
   ·rw[zX (jA n2)] at e6;exact r.inj j k w w' c c' b e1 e2 e3 e4 e5 e6
 ·rcases l6 e1 with ⟨rfl,z,hl⟩|⟨n1,e1⟩
  ·rw[v5 (by rw[<-r.len];exact hl)] at e2;cases e2;exact r.fresh0 hn
  ·rw[zX (jA n1)] at e2;exact r.new j c b e1 e2
 ·rcases l6 e with ⟨rfl,z,hl⟩|⟨n1,e⟩
  ·cases z
  ·rw[zX (jA n1)];exact r.lnt j c e
 ·obtain⟨c,h1,h2⟩:=r.lnd j b e;have n:i≠j:=fun z=>by subst z;unfold freeSlot at hf;rw[h1] at hf;cases hf
  exact⟨c,by rw[zX n];exact h1,by rw[zX n];exact h2⟩
def setOwn (ρ:Ev) (i:Nat) (d:D):Ev:=match ρ[i]? with
 | some (some (.l _))=>ρ.set i (some (.l d))
 | _=>ρ.set i (some (.o d))
def ownAt (ρ:Ev) (i:Nat):Option D:=match ρ[i]? with
 | some (some w)=>w.own
 | _=>none
theorem m3 {ρ:Ev}{i:Nat}{c:D}(e:ownAt ρ i=some c):∃w,ρ[i]? =some (some w)/\w.own=some c:=by
 unfold ownAt at e;split at e
 ·rename_i w q;exact⟨w,q,e⟩
 ·cases e
theorem N1 {ρ:Ev}{i:Nat}{c d:D}(e:ownAt ρ i=some c):∃w,w.own=some d/\setOwn ρ i d=ρ.set i (some w)/\((∃x,w= .l x)↔∃x,ρ[i]? =some (some (.l x))):=by
 obtain⟨w,q,e⟩:=m3 e;unfold setOwn;cases w with
 | v d=>cases e
 | r d=>cases e
 | o x=>rw[q];exact⟨.o d,rfl,rfl,by simp⟩
 | l x=>rw[q];exact⟨.l d,rfl,rfl,by simp⟩
theorem L7 {ρ:Ev}{σ:L2.St}{i:Nat}{c d:D}(e:ownAt ρ i=some c)(b:Addr):Ow (setOwn ρ i d) σ b↔Ow ρ σ b:=by
 obtain⟨w,h1,h2,_⟩:=N1 (d:=d) e;obtain⟨w0,q,e0⟩:=m3 e;rw[h2];constructor
 ·rintro⟨j,w',c',e1,e2,e3⟩;rcases l6 e1 with ⟨rfl,z,_⟩|⟨n,e1⟩
  ·exact⟨j,w0,c,q,e0,e3⟩
  ·exact⟨j,w',c',e1,e2,e3⟩
 ·rintro⟨j,w',c',e1,e2,e3⟩
  by_cases n:j=i
  ·subst n;exact⟨j,w,d,v5 (zK.mp q).1,h1,e3⟩
  ·exact⟨j,w',c',by rw[zX (jA n)];exact e1,e2,e3⟩
theorem Rep.mut (r:Rep X P O L ρ σ H){i:Nat}{a:Addr}{c d:D}(e:ownAt ρ i=some c)(ea:σ[i]? =some (some (.ref a)))(hk:∀b o,H b=some o->b≠a->H' b=some o)(h:Obj X.K (AvO O ρ σ) H' a d):
  Rep X P O L (setOwn ρ i d) σ H':=by
 obtain⟨w,h1,h2,h3⟩:=N1 (d:=d) e;obtain⟨w0,q,e0⟩:=m3 e;have av:AvO O (setOwn ρ i d) σ=AvO O ρ σ:=funext fun b=>propext (or_congr Iff.rfl (L7 e b));have ma:Ow ρ σ a:=⟨i,w0,c,q,e0,ea⟩;have g:Go (AvO O ρ σ) (AvO O ρ σ) (fun b=>b=a) H H':=⟨hk,fun b z=>by rw[z];exact⟨.inr ma,r.owMu ma⟩,fun b z=>.inl z⟩
 have st:∀{j:Nat} {w':W} {c':D},(setOwn ρ i d)[j]? =some (some w')->w'.own=some c'->∃w'' c'',ρ[j]? =some (some w'')/\w''.own=some c'':=fun{j w' c'} e1 e2=>by
  rw[h2] at e1;rcases l6 e1 with ⟨rfl,_,_⟩|⟨_,e1⟩
  ·exact⟨w0,c,q,e0⟩
  ·exact⟨w',c',e1,e2⟩
 refine⟨fun b o eb hl=>hk b o (r.same b o eb hl) fun z=>?_,r.amb,by rw[h2,xK];exact r.len,fun j w' e'=>?_,fun j k w1 w2 c1 c2 b e1 e2 e3 e4 e5 e6=>?_,fun j c' b e1 e2=>?_,fun j c' e'=>?_,fun j b e'=>?_,fun p hp=>by rw[av];exact l5 g _ _ (r.prot p hp),r.gvl⟩
 ·subst z;cases w0 with
  | o x=>have:=r.new i x b q ea;unfold hz at this;rw[if_neg (hl none),eb] at this;cases this
  | l x=>obtain⟨c',q1,q2⟩:=r.lnt i x q;rw[ea] at q1;cases q1;exact hl (some i) q2
  | _=>cases e0
 ·rw[av];rw[h2] at e';rcases l6 e' with ⟨rfl,z,_⟩|⟨n,e'⟩
  ·cases z;refine⟨.ref a,ea,?_⟩;cases w with
   | o x=>cases h1;exact⟨a,rfl,h⟩
   | l x=>cases h1;exact⟨a,rfl,h⟩
   | _=>cases h1
  ·obtain⟨u,q1,q2⟩:=r.slot j w' e';refine⟨u,q1,D5 g (fun b c' ec eb=>?_) q2⟩;subst eb;have nb:b≠a:=fun z=>n (r.inj j i w' w0 c' c a e' ec (by rw[<-z];exact q1) q e0 ea)
   obtain⟨o,eo,_⟩:=r.owMu ⟨j,w',c',e',ec,q1⟩;rw[eo,hk _ _ eo nb]
 ·obtain⟨u1,v1,q1,q2⟩:=st e1 e2;obtain⟨u2,v2,q3,q4⟩:=st e4 e5;exact r.inj j k u1 u2 v1 v2 b q1 q2 e3 q3 q4 e6
 ·rw[h2] at e1;rcases l6 e1 with ⟨rfl,z,_⟩|⟨n,e1⟩
  ·cases z;cases w0 with
   | o x=>exact r.new j x b q e2
   | l x=>exact absurd (h3.mpr ⟨x,q⟩) (by simp)
   | _=>cases e0
  ·exact r.new j c' b e1 e2
 ·rw[h2] at e';rcases l6 e' with ⟨rfl,z,_⟩|⟨n,e'⟩
  ·cases z;obtain⟨x,qx⟩:=h3.mp ⟨_,rfl⟩;exact r.lnt j x qx
  ·exact r.lnt j c' e'
 ·obtain⟨c',q1,q2⟩:=r.lnd j b e'
  by_cases n:j=i
  ·subst n;obtain⟨x,rfl⟩:=h3.mpr ⟨c',q1⟩;exact⟨x,by rw[h2];exact v5 (zK.mp q).1,q2⟩
  ·exact⟨c',by rw[h2,zX (jA n)];exact q1,q2⟩
def frzAt (ρ:Ev) (i:Nat):Option Ev:=match ρ[i]? with
 | some (some (.o d))=>some (ρ.set i (some (.v d)))
 | some (some (.v _))=>some ρ
 | _=>none
theorem Rep.frz (r:Rep X P O L ρ σ H){i:Nat}{ρ':Ev}(e:frzAt ρ i=some ρ'):Rep X P O L ρ' σ H/\∀(j:Nat) (w:W) (d:D),ρ'[j]? =some (some w)->w.own=some d->ρ[j]? =some (some w)/\j≠i:=by
 unfold frzAt at e;split at e
 ·rename_i d q;cases e;obtain⟨a,h1,h2⟩:=r.obj q rfl;have hl:i<σ.length:=by rw[<-r.len];exact(zK.mp q).1
  have es:σ.set i (some (.ref a))=σ:=by
   apply xQ;intro j
   by_cases z:i=j
   ·subst z;rw[v5 hl,h1]
   ·rw[zX z]
  have hw:¬AvO O (ρ.set i (some (.v d))) σ a:=fun z=>by
   rcases z with z|⟨j,w,c,e1,e2,e3⟩
   ·exact r.ambN z ⟨i,_,d,q,rfl,h1⟩
   ·rcases l6 e1 with ⟨rfl,z,_⟩|⟨n,e1⟩
    ·cases z;cases e2
    ·exact n (r.inj j i w (.o d) c d a e1 e2 e3 q rfl h1)
  have sub:∀b,AvO O (ρ.set i (some (.v d))) σ b->AvO O ρ σ b:=fun b z=>by
   rcases z with z|⟨j,w,c,e1,e2,e3⟩
   ·exact .inl z
   ·rcases l6 e1 with ⟨rfl,z,_⟩|⟨n,e1⟩
    ·cases z;cases e2
    ·exact .inr ⟨j,w,c,e1,e2,e3⟩
  have g:=n9 (H:=H) sub;refine⟨⟨r.same,r.amb,by rw[xK];exact r.len,fun j w e=>?_,fun j k w w' c c' b e1 e2 e3 e4 e5 e6=>?_,fun j c b e1 e2=>?_,fun j c e=>?_,fun j b e=>?_,fun p hp=>l5 g _ _ (r.prot p hp),r.gvl⟩,fun j w c e1 e2=>?_⟩
  ·rcases l6 e with ⟨rfl,z,_⟩|⟨n,e⟩
   ·cases z;exact⟨.ref a,h1,P4 (p7 g rfl h2) hw⟩
   ·obtain⟨u,q1,q2⟩:=r.slot j w e;exact⟨u,q1,D5 g (fun _ _ _ _=>rfl) q2⟩
  ·rcases l6 e1 with ⟨rfl,z,_⟩|⟨n1,e1⟩
   ·cases z;cases e2
   ·rcases l6 e4 with ⟨rfl,z,_⟩|⟨n2,e4⟩
    ·cases z;cases e5
    ·exact r.inj j k w w' c c' b e1 e2 e3 e4 e5 e6
  ·rcases l6 e1 with ⟨rfl,z,_⟩|⟨n1,e1⟩
   ·cases z
   ·exact r.new j c b e1 e2
  ·rcases l6 e with ⟨rfl,z,_⟩|⟨n1,e⟩
   ·cases z
   ·exact r.lnt j c e
  ·obtain⟨c,q1,q2⟩:=r.lnd j b e;have n:i≠j:=fun z=>by subst z;rw[q] at q1;cases q1
   exact⟨c,by rw[zX n];exact q1,q2⟩
  ·rcases l6 e1 with ⟨rfl,z,_⟩|⟨n,e1⟩
   ·cases z;cases e2
   ·exact⟨e1,n⟩
 ·rename_i d q;cases e;exact⟨r,fun j w c e1 e2=>⟨e1,fun z=>by subst z;rw[q] at e1;cases e1;cases e2⟩⟩
 ·cases e
end
abbrev FX:=Ev->Option (W×Ev)
abbrev FT:=Ev->Option (Bool×Ev)
abbrev FA:=Ev->Option (List W×Ev)
def DenW (K:PySem.W.Frag) (A:Av) (σ:L2.St) (H1 H':Hp):W->V->Prop
 | .v d,v=>Den K A H' d v
 | .o d,v=>∃a,v= .ref a/\H1 a=none/\Obj K (fun b=>A b\/b=a) H' a d
 | .r i,v=>σ[i]? =some (some v)
 | .l _,_=>False
def DenP (K:PySem.W.Frag) (A:Av) (σ:L2.St) (H:Hp):W->V->Prop
 | .v d,v=>Den K A H d v
 | .r i,v=>σ[i]? =some (some v)
 | _,_=>False
def DenA (K:PySem.W.Frag) (A:Av) (σ:L2.St) (H:Hp):List W->List V->Prop
 | [],vs=>vs=[]
 | w::ws,vs=>∃v r,vs=v::r/\DenP K A σ H w v/\DenA K A σ H ws r
def W.fz:W->W
 | .o d=>.v d
 | w=>w
def tX (X:Cx) (f:FX):TE:=fun σ H Q=>∃P O L ρ w ρ',Rep X P O L ρ σ H/\f ρ=some (w,ρ')/\∀v H1 H',Rep X P O L ρ' σ H1->Same H1 H'->DenW X.K (AvO O ρ' σ) σ H1 H' w v->Q v H'
def tT (X:Cx) (f:FT):TT:=fun σ H Q=>∃P O L ρ b ρ',Rep X P O L ρ σ H/\f ρ=some (b,ρ')/\∀H',Rep X P O L ρ' σ H'->Q b H'
def tA (X:Cx) (f:FA):TA:=fun σ H Q=>∃P O L ρ ws ρ',Rep X P O L ρ σ H/\f ρ=some (ws,ρ')/\∀vs H',Rep X P O L ρ' σ H'->DenA X.K (AvO O ρ' σ) σ H' ws vs->Q vs H'
theorem tXe {X:Cx}{f:FX}{σ:L2.St}{H:Hp}{Q:VK}{C:Prop}(h:tX X f σ H Q)(k:∀P O L ρ w ρ',Rep X P O L ρ σ H->f ρ=some (w,ρ')->(∀v H1 H',Rep X P O L ρ' σ H1->Same H1 H'->DenW X.K (AvO O ρ' σ) σ H1 H' w v->Q v H')->C):C:=by
 obtain⟨P,O,L,ρ,w,ρ',r,e,q⟩:=h;exact k P O L ρ w ρ' r e q
theorem tTe {X:Cx}{f:FT}{σ:L2.St}{H:Hp}{Q:Bool->Hp->Prop}{C:Prop}(h:tT X f σ H Q)(k:∀P O L ρ b ρ',Rep X P O L ρ σ H->f ρ=some (b,ρ')->(∀H',Rep X P O L ρ' σ H'->Q b H')->C):C:=by
 obtain⟨P,O,L,ρ,w,ρ',r,e,q⟩:=h;exact k P O L ρ w ρ' r e q
theorem tAe {X:Cx}{f:FA}{σ:L2.St}{H:Hp}{Q:List V->Hp->Prop}{C:Prop}(h:tA X f σ H Q)(k:∀P O L ρ ws ρ',Rep X P O L ρ σ H->f ρ=some (ws,ρ')->(∀vs H',Rep X P O L ρ' σ H'->DenA X.K (AvO O ρ' σ) σ H' ws vs->Q vs H')->C):C:=by
 obtain⟨P,O,L,ρ,w,ρ',r,e,q⟩:=h;exact k P O L ρ w ρ' r e q
structure QX (X:Cx) (e:Expr) (f:FX):Prop where
 to:PE X e (tX X f)
structure QT (X:Cx) (e:Expr) (f:FT):Prop where
 to:PT X e (tT X f)
structure QW (X:Cx) (e:Expr) (f:FT):Prop where
 to:PW X e (tT X f)
structure QA (X:Cx) (e:List Expr) (f:FA):Prop where
 to:PA X e (tA X f)
theorem PE.weak {X:Cx}{e:Expr}{t u:TE}(h:PE X e t)(w:∀σ H Q,u σ H Q->t σ H Q):PE X e u:=fun pins s σ H Q I q=>h pins s σ H Q I (w σ H Q q)
theorem PT.weak {X:Cx}{e:Expr}{t u:TT}(h:PT X e t)(w:∀σ H Q,u σ H Q->t σ H Q):PT X e u:=fun pins s σ H Q I q=>h pins s σ H Q I (w σ H Q q)
theorem PW.weak {X:Cx}{e:Expr}{t u:TT}(h:PW X e t)(w:∀σ H Q,u σ H Q->t σ H Q):PW X e u:=fun wh pins s σ H Q I q=>h wh pins s σ H Q I (w σ H Q q)
theorem PA.weak {X:Cx}{e:List Expr}{t u:TA}(h:PA X e t)(w:∀σ H Q,u σ H Q->t σ H Q):PA X e u:=fun pos pins s σ H Q I q=>h pos pins s σ H Q I (w σ H Q q)
def dr (ρ:Ev):W->Option D
 | .v d=>some d
 | .r i=>match ρ[i]? with
  | some (some (.v d))=>some d
  | some (some w)=>w.own
  | _=>none
 | _=>none
def drs (ρ:Ev):List W->Option (List D)
 | []=>some []
 | w::ws=>(dr ρ w).bind fun d=>(drs ρ ws).map fun ds=>d::ds
section
variable {X:Cx}{P:List (D×V)}{O:Av}{L:List (Option Nat×Addr)}{ρ:Ev}{σ:L2.St}{H H1 H':Hp}{w:W}{d:D}{v:V}
theorem DenW.fz (r:Rep X P O L ρ σ H1)(s:Same H1 H')(h:DenW X.K (AvO O ρ σ) σ H1 H' w v):DenP X.K (AvO O ρ σ) σ H' w.fz v:=by
 cases w with
 | v d=>exact h
 | o d=>
  obtain⟨a,rfl,n,ob⟩:=h;exact P4 (p7 (n9 fun b z=>.inl z) rfl ob) (r.fresh n)
 | r i=>exact h
 | l d=>exact h.elim
theorem hold (r:Rep X P O L ρ σ H)(h:DenP X.K (AvO O ρ σ) σ H w v):∃P',Rep X P' O L ρ σ H/\∀ρ2 H2,Rep X P' O L ρ2 σ H2->Rep X P O L ρ2 σ H2/\DenP X.K (AvO O ρ2 σ) σ H2 w v:=by
 cases w with
 | v d=>exact⟨(d,v)::P,r.more h,fun ρ2 H2 r2=>⟨r2.less,r2.head⟩⟩
 | r i=>exact⟨P,r,fun ρ2 H2 r2=>⟨r2,h⟩⟩
 | _=>exact h.elim
theorem C4 (r:Rep X P O L ρ σ H)(e:dr ρ w=some d)(h:DenP X.K (AvO O ρ σ) σ H w v):DenR X.K (AvO O ρ σ) H d v:=by
 cases w with
 | v c=>cases e;exact B6 h
 | r i=>
  rw[dr] at e;have h:σ[i]? =some (some v):=h;cases q:ρ[i]? with
  | none=>rw[q] at e;cases e
  | some o=>
   rw[q] at e;cases o with
   | none=>cases e
   | some w'=>
    cases w' with
    | v c=>
     cases e;obtain⟨u,h1,h2⟩:=r.slot i _ q;rw[h1] at h;cases h;exact B6 h2
    | _=>
     obtain⟨a,h1,h2⟩:=r.obj q e;rw[h1] at h;cases h;exact obj_r h2
 | _=>cases e
def DenRL (K:PySem.W.Frag) (A:Av) (H:Hp):List D->List V->Prop
 | [],vs=>vs=[]
 | d::ds,vs=>∃v r,vs=v::r/\DenR K A H d v/\DenRL K A H ds r
theorem a3z (r:Rep X P O L ρ σ H):∀{ws:List W} {ds:List D} {vs:List V},drs ρ ws=some ds->DenA X.K (AvO O ρ σ) σ H ws vs->DenRL X.K (AvO O ρ σ) H ds vs
 | [],ds,vs,e,h=>by cases e;exact h
 | w::ws,ds,vs,e,h=>by
  obtain⟨v,rs,rfl,h1,h2⟩:=h;rw[drs] at e;cases e1:dr ρ w with
  | none=>rw[e1] at e;cases e
  | some d=>
   cases e2:drs ρ ws with
   | none=>rw[e1,e2] at e;cases e
   | some dd=>
    rw[e1,e2] at e;cases e;exact⟨v,rs,rfl,C4 r e1 h1,a3z r e2 h2⟩
end
section
variable {K:PySem.W.Frag}{A:Av}{σ:L2.St}{H H':Hp}
theorem z6 {i:Int}:DenW K A σ H H' (.v (.int i)) (.int i):=by show Den _ _ _ _ _;rw[Den]
theorem t8 {i:Bool}:DenW K A σ H H' (.v (.bl i)) (.bl i):=by show Den _ _ _ _ _;rw[Den]
theorem a5V {i:Str}:DenW K A σ H H' (.v (.str i)) (.str i):=by show Den _ _ _ _ _;rw[Den]
theorem O5:DenW K A σ H H' (.v .non) .non:=by show Den _ _ _ _ _;rw[Den]
end
def fVar (i:Nat):FX:=fun ρ=>match ρ[i]? with
 | some (some (.v d))=>some (.v d,ρ)
 | some (some (.r _))=>none
 | some (some _)=>some (.r i,ρ)
 | _=>none
def fC (d:D):FX:=fun ρ=>some (.v d,ρ)
section
variable {X:Cx}{a b e:Expr}{pos:Pos}{f g h:FX}{t u:FT}
theorem a8 (i:Nat){x:Str}(hN:X.N[i]? =some x:=by rfl)(hv:Vis X.env.scope x:=by first|exact Or.inl rfl|exact Or.inr (Or.inl rfl)|exact Or.inr (Or.inr rfl))(hd:(x==("__debug__":Str))=false:=by decide)(hcd:(x==("__classdict__":Str))=false:=by decide):QX X (.Name x pos) (fVar i):=by
 refine⟨PE.weak (a2R hN hv hd hcd) fun σ H Q h0=>tXe h0 fun P O L ρ w ρ' r e q=>?_⟩;unfold fVar at e;split at e
 ·rename_i d0 e0;cases e;obtain⟨v,h1,h2⟩:=r.slot i _ e0;exact⟨v,h1,q v H H r (Same.refl H) h2⟩
 ·cases e
 ·rename_i w' _ _ e0;cases e;obtain⟨v,h1,h2⟩:=r.slot i _ e0;exact⟨v,h1,q v H H r (Same.refl H) h1⟩
 ·cases e
theorem a3Q {d:D}{v:V}(hd:∀A H,Den X.K A H d v):∀σ H Q,tX X (fC d) σ H Q->tC v σ H Q:=fun σ H Q h0=>tXe h0 fun P O L ρ w ρ' r e q=>by cases e;exact q v H H r (Same.refl H) (hd _ H)
theorem b3 {i:Int}{j:Nat}:QX X (.Constant (.int i) j pos) (fC (.int i)):=⟨PE.weak b0d (a3Q fun A H=>q8.mpr rfl)⟩
theorem Z2 {i:Bool}{j:Nat}:QX X (.Constant (.bool i) j pos) (fC (.bl i)):=⟨PE.weak pe_bl (a3Q fun A H=>a0a.mpr rfl)⟩
theorem a2W {j:Nat}:QX X (.Constant .none j pos) (fC .non):=⟨PE.weak a9k (a3Q fun A H=>a3i.mpr rfl)⟩
theorem a1e {i:Str}{j:Nat}:QX X (.Constant (.str i) j pos) (fC (.str i)):=⟨PE.weak a9I (a3Q fun A H=>W8.mpr rfl)⟩
def fBin (op:D->D->Option W) (f g:FX):FX:=fun ρ=>(f ρ).bind fun p=>(g p.2).bind fun q=>(dr q.2 p.1.fz).bind fun x=>(dr q.2 q.1.fz).bind fun y=>(op x y).map fun w=>(w,q.2)
def Pr2 (X:Cx) (op:D->D->Option W) (r:R2):Prop:=∀(A:Av) (x y:D) (w:W) (v u:V) (H:Hp) (Q:VK),(∀b,A b->∃o,H b=some o)->op x y=some w->DenR X.K A H x v->DenR X.K A H y u->(∀z H',Same H H'->DenW X.K A [] H H' w z->Q z H')->r v u H Q
theorem DenW.st {K:PySem.W.Frag}{A:Av}{σ:L2.St}{H1 H':Hp}{w:W}{v:V}(h:DenW K A [] H1 H' w v):DenW K A σ H1 H' w v:=by
 cases w with
 | r i=>exact absurd h (by simp[DenW])
 | _=>exact h
theorem R7 {r:R2}{op:D->D->Option W}(k:Pr2 X op r):∀σ H Q,tX X (fBin op f g) σ H Q->tOp r (tX X f) (tX X g) σ H Q:=fun σ H Q h0=>tXe h0 fun P O L ρ w ρ' r e q=>by
 unfold fBin at e;obtain⟨⟨w1,ρ1⟩,e1,e⟩:=obs e;dsimp only at e;refine⟨P,O,L,ρ,w1,ρ1,r,e1,fun v H1 H1' r1 s1 d1=>?_⟩;obtain⟨P',r1',k1⟩:=hold (r1.grow s1) (d1.fz r1 s1);obtain⟨⟨w2,ρ2⟩,e2,e⟩:=obs e;dsimp only at e;refine⟨P',O,L,ρ1,w2,ρ2,r1',e2,fun u H2 H2' r2 s2 d2=>?_⟩;have d2':=d2.fz r2 s2;obtain⟨r3,d1'⟩:=k1 ρ2 H2' (r2.grow s2);cases e3:dr ρ2 w1.fz with
 | none=>rw[e3] at e;cases e
 | some x=>
  cases e4:dr ρ2 w2.fz with
  | none=>rw[e3,e4] at e;cases e
  | some y=>
   rw[e3,e4] at e;simp only[bind_some] at e;cases e5:op x y with
   | none=>rw[e5] at e;cases e
   | some w'=>
    rw[e5] at e;cases e;exact k _ x y w v u H2' Q (fun b z=>r3.there z) e5 (C4 r3 e3 d1') (C4 r3 e4 d2') fun z H' s d=>q z H2' H' r3 s d.st
theorem N0 {op:Operator}{r:R2}{o:D->D->Option W}(ho:OpR X (binaryOp op) r)(k:Pr2 X o r)(ha:QX X a f)(hb:QX X b g):QX X (.BinOp a op b pos) (fBin o f g):=⟨PE.weak (pe_op ho ha.to hb.to) (R7 k)⟩
theorem a2F {op:CmpOp}{r:R2}{o:D->D->Option W}(ho:OpR X (compareOp op) r)(k:Pr2 X o r)(ha:QX X a f)(hb:QX X b g)(hm:behindInMarks op b=false:=by first|exact nomark _|rfl):QX X (.Compare a [op] [b] pos) (fBin o f g):=⟨PE.weak (a7F ho ha.to hb.to hm) (R7 k)⟩
def fTest (f:FX):FT:=fun ρ=>(f ρ).bind fun p=>match p.1 with|.v (.bl k)=>some (k,p.2)|_=>none
theorem Y7 {f:FX}{ρ ρ':Ev}{k:Bool}(e:fTest f ρ=some (k,ρ')):f ρ=some (.v (.bl k),ρ'):=by
 unfold fTest at e;cases q:f ρ with
 | none=>rw[q] at e;cases e
 | some p=>
  rw[q] at e;obtain⟨w,ρ1⟩:=p;simp only[bind_some] at e;split at e
  ·cases e;rfl
  ·cases e
theorem J8 {op:CmpOp}{r:R2}{o:D->D->Option W}(ho:OpR X (compareOp op) r)(k:Pr2 X o r)(ha:QX X a f)(hb:QX X b g)(hm:behindInMarks op b=false:=by first|exact nomark _|rfl):QT X (.Compare a [op] [b] pos) (fTest (fBin o f g)):=by
 refine⟨PT.weak (a7O ho ha.to hb.to hm) fun σ H Q h0=>tTe h0 fun P O L ρ t ρ' r e q=>?_⟩;refine R7 k σ H _ ⟨P,O,L,ρ,_,ρ',r,Y7 e,fun v H1 H' r1 s1 d1=>⟨t,?_,q H' (r1.grow s1)⟩⟩;have d1':Den X.K (AvO O ρ' σ) H' (.bl t) v:=d1;exact a0a.mp d1'
def big:Nat:=2^8000
def mOk (i j:Int):Prop:=i.natAbs<2^64\/j.natAbs<2^64\/(i.natAbs<big/\j.natAbs<big)
instance (i j:Int):Decidable (mOk i j):=by unfold mOk;infer_instance
theorem mOk.ok {i j:Int}(m:mOk i j):IntMulOk i j:=by
 rcases m with m|m|⟨m,n⟩
 ·exact .of_left (KE_bits m)
 ·exact .of_right (KE_bits m)
 ·exact .of_bits (qH (KE_bits m) (by decide)) (qH (KE_bits n) (by decide))
where KE_bits {x:Int} {m:Nat} (h:x.natAbs<2^m):Builtin.Int.intBits x<=m:=intBits_le_iff.mpr h
theorem a7s:OpR X (binaryOp .Mult) (rI mOk fun i j=>.int (i*j)):=opI fun _ _ _ _ _ _ _ hc q=>mul_int q hc.ok
def dOk (j:Int):Prop:=0<j/\j.natAbs<big
instance (j:Int):Decidable (dOk j):=by unfold dOk;infer_instance
theorem a7g:OpR X (binaryOp .FloorDiv) (rI (fun _ j=>dOk j) fun i j=>.int (i/j)):=opI fun i j _ _ _ _ _ hc q=>by
 have e:i.fdiv j=i/j:=Int.fdiv_eq_ediv_of_nonneg i (Int.le_of_lt hc.1);refine floordiv_int (Int.ne_of_gt hc.1) (by rw[e];exact q) (.inl (PyProof.noPylong_of_log2 ?_))
 by_cases z:j.natAbs=0
 ·rw[z];decide
 ·exact zF ((Nat.log2_lt z).mpr (show j.natAbs<2^8000 from hc.2)) (by decide)
def oI (C:Int->Int->Prop) [∀i j,Decidable (C i j)] (g:Int->Int->D):D->D->Option W
 | .int i,.int j=>if C i j then some (.v (g i j)) else none
 | _,_=>none
def oI0 (g:Int->Int->D):D->D->Option W
 | .int i,.int j=>some (.v (g i j))
 | _,_=>none
theorem g5 {K:PySem.W.Frag}{A:Av}{H:Hp}{i:Int}{v:V}(h:DenR K A H (.int i) v):v= .int i:=by
 have h:Den K A H (.int i) v:=h;exact q8.mp h
theorem kI {C:Int->Int->Prop} [∀i j,Decidable (C i j)] {g:Int->Int->Int}:Pr2 X (oI C fun i j=>.int (g i j)) (rI C fun i j=>.int (g i j)):=by
 intro A x y w v u H Q _ e hx hy q;cases x<;>cases y<;>simp only[oI] at e<;>try cases e
 rename_i i j;split at e
 ·rename_i hc;cases e;exact⟨i,j,g5 hx,g5 hy,hc,q _ H (Same.refl H) z6⟩
 ·cases e
theorem kI0 {g:Int->Int->Int}:Pr2 X (oI0 fun i j=>.int (g i j)) (rI0 fun i j=>.int (g i j)):=by
 intro A x y w v u H Q _ e hx hy q;cases x<;>cases y<;>simp only[oI0] at e<;>cases e
 rename_i i j;exact⟨i,j,g5 hx,g5 hy,q _ H (Same.refl H) z6⟩
theorem kB0 {g:Int->Int->Bool}:Pr2 X (oI0 fun i j=>.bl (g i j)) (rI0 fun i j=>.bl (g i j)):=by
 intro A x y w v u H Q _ e hx hy q;cases x<;>cases y<;>simp only[oI0] at e<;>cases e
 rename_i i j;exact⟨i,j,g5 hx,g5 hy,q _ H (Same.refl H) t8⟩
abbrev fSub:=fBin (oI0 fun i j=>.int (i-j))
abbrev fMul:=fBin (oI mOk fun i j=>.int (i*j))
abbrev fDiv:=fBin (oI (fun _ j=>dOk j) fun i j=>.int (i/j))
abbrev fMod:=fBin (oI (fun _ j=>0<j) fun i j=>.int (i%j))
instance (i j:Int):Decidable (CPow i j):=by unfold CPow;infer_instance
abbrev fPow:=fBin (oI CPow fun i j=>.int (i^j.toNat))
theorem K6 (ha:QX X a f)(hb:QX X b g):QX X (.BinOp a .Sub b pos) (fSub f g):=N0 a9x kI0 ha hb
theorem a0c (ha:QX X a f)(hb:QX X b g):QX X (.BinOp a .Mult b pos) (fMul f g):=N0 a7s kI ha hb
theorem a9D (ha:QX X a f)(hb:QX X b g):QX X (.BinOp a .FloorDiv b pos) (fDiv f g):=N0 a7g kI ha hb
theorem C1 (ha:QX X a f)(hb:QX X b g):QX X (.BinOp a .Mod b pos) (fMod f g):=N0 a9f kI ha hb
theorem a1n (ha:QX X a f)(hb:QX X b g):QX X (.BinOp a .Pow b pos) (fPow f g):=N0 a90 kI ha hb
abbrev oGe:=oI0 fun i j=>.bl (decide (j<=i))
theorem qt_ge (ha:QX X a f)(hb:QX X b g):QT X (.Compare a [.GtE] [b] pos) (fTest (fBin oGe f g)):=J8 op_ge kB0 ha hb
def lim:Nat:=1000000
theorem t6:lim<=sizeLine:=by unfold lim;rw[qY];decide
theorem g7 {H:Hp}{p:Addr}(h:H p=none)(o:HO):Same H (upd H p o):=fun b u q=>by rw[c6 (j8 q h)];exact q
theorem v6 {K:PySem.W.Frag}{A:Av}{σ:L2.St}{H:Hp}{p:Addr}{xs:List D}{vs:List V}(hp:H p=none)(l:DenL K A H xs vs):DenW K A σ H (upd H p (.lst vs)) (.o (.lst xs)) (.ref p):=
 ⟨p,rfl,hp,vs,j5,m6 (M:=fun _=>False) ⟨fun b o q _=>g7 hp _ b o q,fun _ z=>z.elim,fun b z=>z.imp id fun z=>by rw[z];exact hp⟩ _ _ l⟩
theorem C9 {K:PySem.W.Frag}{A:Av}{σ:L2.St}{H H0:Hp}{p:Addr}{xs:List D}{vs:List V}(hp:H p=none)(l:DenL K A H xs vs):DenW K A σ H0 (upd H p (.tup vs)) (.v (.tup xs)) (.ref p):=by
 show Den _ _ _ _ _;rw[Den];exact⟨p,vs,rfl,.inl (.inl j5),a44 (g7 hp _) l⟩
theorem a79:OpR X (binaryOp .Add) (fun x y H Q=>∃l b xs zs,x= .ref l/\y= .ref b/\SqL X.K H l xs/\SqL X.K H b zs/\xs.length+zs.length<=sizeLine/\∀p,H p=none->Q (.ref p) (upd H p (.lst (xs++zs)))):=by
 intro pins s σ H x y v u Q I rx ry h;obtain⟨l,b,xs,zs,rfl,rfl,hH,hB,hz,q⟩:=h;cases rx;cases ry;obtain⟨its,r,⟨⟨c1,d1,e1,s1⟩,n1,g1,k1,_,w1⟩,_⟩:=I.list hH;obtain⟨its2,r2,⟨⟨c2,d2,e2,s2⟩,n2,g2,k2,_,w2⟩,_⟩:=I.list hB;simp only at k1 w1 k2 w2;subst k1 w1 k2 w2;have l1:=r.length;have l2:=r2.length;refine concat_meets ⟨_,g1,rfl⟩ ⟨_,g2,rfl⟩ noFill_list_add seq_list_add PySem.F.slot_list_add PySem.F.entry_list_add (PySem.F.args_list_add_2 _ _) (list_addW l b its.toArray its2.toArray n1 n2 d1 d2 s1 s2 (by rw[zV,zV];walk_at "o")) ⟨g1,g2,?_⟩
 have ea:its.toArray++its2.toArray=(its++its2).toArray:=by simp
 rw[ea];exact⟨.ref _,_,I.lnew (t':=s.toks) (r.append r2) (by rw[zZ];walk_at "o"),rfl,q _ I.fresh⟩
def oCat (xs ys:List D):Option W:=if xs.length+ys.length<=lim then some (.o (.lst (xs++ys))) else none
def oAdd:D->D->Option W
 | .int i,.int j=>some (.v (.int (i+j)))
 | .lst xs,.lst ys=>oCat xs ys
 | .tup xs,.tup ys=>if xs≠[]/\xs.length+ys.length<=lim then some (.v (.tup (xs++ys))) else none
 | _,_=>none
instance (xs:List D):Decidable (xs≠[]):=match xs with
 | []=>.isFalse fun h=>h rfl
 | _::_=>.isTrue nofun
theorem m4 (ha:QX X a f)(hb:QX X b g):QX X (.BinOp a .Add b pos) (fBin oAdd f g):=N0 (a9L.or (a79.or a7D)) (by
 intro A x y w v u H Q _ e hx hy q;cases x<;>cases y<;>simp only[oAdd] at e<;>try cases e
 ·rename_i i j;exact .inl ⟨i,j,g5 hx,g5 hy,q _ H (Same.refl H) z6⟩
 ·rename_i xs ys;split at e
  ·rename_i hl;cases e;have hx:Den X.K A H (.tup xs) v:=hx;have hy:Den X.K A H (.tup ys) u:=hy;rw[Den] at hx hy;obtain⟨a,vs,ev,ha,la⟩:=hx;obtain⟨b,us,eu,hb,lb⟩:=hy;refine .inr (.inr ⟨a,b,vs,us,ev,eu,ha,hb,fun z=>?_,?_,fun z=>?_,fun _ p hp=>q _ _ (g7 hp _) (C9 hp (k6 la lb))⟩)
   rotate_left 2
   ·subst z;have z:ys=[]:=List.length_eq_zero_iff.mp (b4 lb);subst z;refine q _ H (Same.refl H) ?_;show Den _ _ _ _ _;rw[append_nil,Den];exact⟨a,vs,rfl,ha,la⟩
   ·subst z;exact hl.1 (List.length_eq_zero_iff.mp (b4 la))
   ·rw[<-b4 la,<-b4 lb];exact qH hl.2 t6
  ·cases e
 ·rename_i xs ys;unfold oCat at e;split at e
  ·rename_i hl;cases e;obtain⟨a,vs,ev,ha,la⟩:=hx;obtain⟨b,us,eu,hb,lb⟩:=hy;refine .inr (.inl ⟨a,b,vs,us,ev,eu,ha,hb,?_,fun p hp=>q _ _ (g7 hp _) (v6 hp (k6 la lb))⟩);rw[<-b4 la,<-b4 lb];exact qH hl t6
  ·cases e) ha hb
def fUn (op:D->Option W) (f:FX):FX:=fun ρ=>(f ρ).bind fun p=>(dr p.2 p.1.fz).bind fun x=>(op x).map fun w=>(w,p.2)
def Pr1 (X:Cx) (op:D->Option W) (r:V->Hp->VK->Prop):Prop:=∀(A:Av) (x:D) (w:W) (v:V) (H:Hp) (Q:VK),(∀b,A b->∃o,H b=some o)->op x=some w->DenR X.K A H x v->(∀z H',Same H H'->DenW X.K A [] H H' w z->Q z H')->r v H Q
theorem a25 {r:V->Hp->VK->Prop}{op:D->Option W}(k:Pr1 X op r):∀σ H Q,tX X (fUn op f) σ H Q->tUn r (tX X f) σ H Q:=fun σ H Q h0=>tXe h0 fun P O L ρ w ρ' r e q=>by
 unfold fUn at e;obtain⟨⟨w1,ρ1⟩,e1,e⟩:=obs e;dsimp only at e;refine⟨P,O,L,ρ,w1,ρ1,r,e1,fun v H1 H1' r1 s1 d1=>?_⟩;have r3:=r1.grow s1;cases e3:dr ρ1 w1.fz with
 | none=>rw[e3] at e;cases e
 | some x=>
  rw[e3] at e;simp only[bind_some] at e;cases e5:op x with
  | none=>rw[e5] at e;cases e
  | some w'=>
   rw[e5] at e;cases e;exact k _ x w v H1' Q (fun b z=>r3.there z) e5 (C4 r3 e3 (d1.fz r1 s1)) fun z H' s d=>q z H1' H' r3 s d.st
def oNeg:D->Option W
 | .int i=>some (.v (.int (-i)))
 | _=>none
theorem a9p (ha:QX X a f):QX X (.UnaryOp .USub a pos) (fUn oNeg f):=⟨PE.weak (pe_un a9m ha.to) (a25 fun A x w v H Q _ e hx q=>by
 cases x<;>simp only[oNeg] at e<;>cases e
 rename_i i
 exact⟨i,g5 hx,q _ H (Same.refl H) z6⟩)⟩
end
section
variable {X:Cx}{a b c e:Expr}{pos:Pos}{f g h:FX}{t u:FT}{fa:FA}{es rest:List Expr}
def truth:D->Option Bool
 | .non=>some false
 | .bl b=>some b
 | .int i=>some (!decide (i=0))
 | .tup xs=>some (!xs.isEmpty)
 | .lst xs=>some (!xs.isEmpty)
 | .dK ks _=>some (!ks.isEmpty)
 | _=>none
def fTru (f:FX):FT:=fun ρ=>(f ρ).bind fun p=>(dr p.2 p.1.fz).bind fun d=>(truth d).map fun k=>(k,p.2)
theorem a0i {K:PySem.W.Frag}{A:Av}{H:Hp}{xs:List D}{vs:List V}(l:DenL K A H xs vs):(!xs.isEmpty)= !vs.isEmpty:=by
 have:=b4 l
 cases xs<;>cases vs<;>simp_all
theorem a4e {K:PySem.W.Frag}{A:Av}{H:Hp}{d:D}{v:V}{k:Bool}(e:truth d=some k)(h:DenR K A H d v):TruV K v H k:=by
 cases d with
 | non=>cases e;have h:Den K A H .non v:=h;rw[Den] at h;subst h;rfl
 | bl b=>cases e;have h:Den K A H (.bl k) v:=h;rw[Den] at h;subst h;rfl
 | int i=>cases e;have h:Den K A H (.int i) v:=h;rw[Den] at h;subst h;rfl
 | tup xs=>cases e;have h:Den K A H (.tup xs) v:=h;rw[Den] at h;obtain⟨a,vs,rfl,hq,l⟩:=h;exact .inr (.inl ⟨vs,hq,a0i l⟩)
 | lst xs=>cases e;obtain⟨a,vs,rfl,hq,l⟩:=h;exact .inl ⟨vs,hq,a0i l⟩
 | dK ks xs=>
  cases e;obtain⟨a,vs,rfl,hq,hl,l⟩:=h;refine .inr (.inr ⟨_,hq,?_⟩)
  have:=b4 l
  cases ks<;>cases vs<;>cases xs<;>simp_all
 | _=>cases e
theorem U9 (ha:QX X a f)(he:∀whole,isTrue a X.env whole=(do let v <-whole;standAt a.pos;holding [v] (truthy v)):=by intro _;rfl):QT X a (fTru f):=⟨PT.weak (a5C ha.to he) fun σ H Q h0=>tTe h0 fun P O L ρ k ρ' r e q=>by
 unfold fTru at e;obtain⟨⟨w,ρ1⟩,e1,e⟩:=obs e;dsimp only at e;cases e2:dr ρ1 w.fz with
 | none=>rw[e2] at e;cases e
 | some d=>
  rw[e2] at e;simp only[bind_some] at e;cases e3:truth d with
  | none=>rw[e3] at e;cases e
  | some k'=>
   rw[e3] at e;cases e
   exact⟨P,O,L,ρ,w,_,r,e1,fun v H1 H' r1 s1 d1=>⟨k,a4e e3 (C4 (r1.grow s1) e2 (d1.fz r1 s1)),q H' (r1.grow s1)⟩⟩⟩
def fNot (t:FT):FT:=fun ρ=>(t ρ).map fun p=>(!p.1,p.2)
theorem U1 (ha:QT X a t):QT X (.UnaryOp .Not a pos) (fNot t):=⟨PT.weak (L2.a9K ha.to) fun σ H Q h0=>tTe h0 fun P O L ρ k ρ' r e q=>by
 unfold fNot at e;cases e1:t ρ with
 | none=>rw[e1] at e;cases e
 | some p=>rw[e1] at e;obtain⟨k1,ρ1⟩:=p;cases e;exact⟨P,O,L,ρ,k1,_,r,e1,q⟩⟩
def fAnd (t u:FT):FT:=fun ρ=>(t ρ).bind fun p=>if p.1=true then u p.2 else some (false,p.2)
def fOr (t u:FT):FT:=fun ρ=>(t ρ).bind fun p=>if p.1=true then some (true,p.2) else u p.2
theorem L0 (ha:QT X a t):QW X (.BoolOp .And [a] pos) t:=⟨pw_and1 ha.to⟩
theorem a2v (ha:QT X a t):QW X (.BoolOp .Or [a] pos) t:=⟨pw_or1 ha.to⟩
theorem T9 (ha:QT X a t)(hb:QW X (.BoolOp .And (b::rest) pos) u):QW X (.BoolOp .And (a::b::rest) pos) (fAnd t u):=⟨PW.weak (pw_and ha.to hb.to) fun σ H Q h0=>tTe h0 fun P O L ρ k ρ' r e q=>by
 unfold fAnd at e;obtain⟨⟨k1,ρ1⟩,e1,e⟩:=obs e;dsimp only at e;refine⟨P,O,L,ρ,k1,ρ1,r,e1,fun H' r'=>?_⟩;cases k1 with
 | true=>rw[if_pos rfl] at e ⊢;exact⟨P,O,L,ρ1,k,ρ',r',e,q⟩
 | false=>rw[if_neg zP] at e ⊢;cases e;exact q H' r'⟩
theorem a18 (ha:QT X a t)(hb:QW X (.BoolOp .Or (b::rest) pos) u):QW X (.BoolOp .Or (a::b::rest) pos) (fOr t u):=⟨PW.weak (pw_or ha.to hb.to) fun σ H Q h0=>tTe h0 fun P O L ρ k ρ' r e q=>by
 unfold fOr at e;obtain⟨⟨k1,ρ1⟩,e1,e⟩:=obs e;dsimp only at e;refine⟨P,O,L,ρ,k1,ρ1,r,e1,fun H' r'=>?_⟩;cases k1 with
 | true=>rw[if_pos rfl] at e ⊢;cases e;exact q H' r'
 | false=>rw[if_neg zP] at e ⊢;exact⟨P,O,L,ρ1,k,ρ',r',e,q⟩⟩
theorem R6 (ha:QW X a t):QT X a t:=⟨PW.pt ha.to⟩
theorem a2C {op}(ha:QX X a f):QX X (.BoolOp op [a] pos) f:=⟨a9i ha.to⟩
def fAndV (f g:FX):FX:=fun ρ=>(fTest f ρ).bind fun p=>if p.1=true then g p.2 else some (.v (.bl false),p.2)
def fOrV (f g:FX):FX:=fun ρ=>(fTest f ρ).bind fun p=>if p.1=true then some (.v (.bl true),p.2) else g p.2
def fNotV (f:FX):FX:=fun ρ=>(fTest f ρ).map fun p=>(.v (.bl (!p.1)),p.2)
theorem Y6 {K:PySem.W.Frag}{A:Av}{σ:L2.St}{H H':Hp}{k:Bool}{v:V}(h:DenW K A σ H H' (.v (.bl k)) v):v= .bl k:=by
 have h:Den K A H' (.bl k) v:=h;exact a0a.mp h
theorem a2H (ha:QX X a f)(hb:QX X (.BoolOp .And (b::rest) pos) g):QX X (.BoolOp .And (a::b::rest) pos) (fAndV f g):=⟨PE.weak (a9G ha.to hb.to) fun σ H Q h0=>tXe h0 fun P O L ρ w ρ' r e q=>by
 unfold fAndV at e;obtain⟨⟨k,ρ1⟩,e1,e⟩:=obs e;dsimp only at e;refine⟨P,O,L,ρ,_,ρ1,r,Y7 e1,fun v H1 H' r1 s1 d1=>⟨k,Y6 d1,?_⟩⟩;cases k with
 | true=>rw[if_pos rfl] at e ⊢;exact⟨P,O,L,ρ1,w,ρ',r1.grow s1,e,q⟩
 | false=>rw[if_neg zP] at e ⊢;cases e;exact q _ H' H' (r1.grow s1) (Same.refl _) t8⟩
def fIf (t:FT) (f g:FX):FX:=fun ρ=>(t ρ).bind fun p=>if p.1=true then f p.2 else g p.2
theorem qx_if (hc:QT X c t)(ha:QX X a f)(hb:QX X b g):QX X (.IfExp c a b pos) (fIf t f g):=⟨PE.weak (a7c hc.to ha.to hb.to) fun σ H Q h0=>tXe h0 fun P O L ρ w ρ' r e q=>by
 unfold fIf at e;obtain⟨⟨k,ρ1⟩,e1,e⟩:=obs e;dsimp only at e;refine⟨P,O,L,ρ,k,ρ1,r,e1,fun H' r'=>?_⟩;cases k with
 | true=>rw[if_pos rfl] at e ⊢;exact⟨P,O,L,ρ1,w,ρ',r',e,q⟩
 | false=>rw[if_neg zP] at e ⊢;exact⟨P,O,L,ρ1,w,ρ',r',e,q⟩⟩
def fNil:FA:=fun ρ=>some ([],ρ)
def fCons (f:FX) (fa:FA):FA:=fun ρ=>(f ρ).bind fun p=>(fa p.2).map fun q=>(p.1.fz::q.1,q.2)
theorem b0:QA X [] fNil:=⟨PA.weak a1J fun σ H Q h0=>tAe h0 fun P O L ρ ws ρ' r e q=>by cases e;exact q [] H r rfl⟩
theorem a9 (ha:QX X e f)(hr:QA X es fa)(hs:starEach (e::es) X.env=(false,eval e X.env)::starEach es X.env:=by rfl):QA X (e::es) (fCons f fa):=⟨PA.weak (O4 ha.to hr.to hs) fun σ H Q h0=>tAe h0 fun P O L ρ ws ρ' r e q=>by
 unfold fCons at e;obtain⟨⟨w,ρ1⟩,e1,e⟩:=obs e;dsimp only at e;obtain⟨⟨ws2,ρ2⟩,e2,e⟩:=oms e;cases e;refine⟨P,O,L,ρ,w,ρ1,r,e1,fun v H1 H' r1 s1 d1=>?_⟩;obtain⟨P',r1',k1⟩:=hold (r1.grow s1) (d1.fz r1 s1);refine⟨P',O,L,ρ1,ws2,_,r1',e2,fun vs H2 r2 l2=>?_⟩;obtain⟨r3,d3⟩:=k1 _ H2 r2
 exact q _ H2 r3 ⟨v,vs,rfl,d3,l2⟩⟩
def takeAll:Ev->List W->Option (List D×Ev)
 | ρ,[]=>some ([],ρ)
 | ρ,.v d::ws=>(takeAll ρ ws).map fun p=>(d::p.1,p.2)
 | ρ,.r i::ws=>(frzAt ρ i).bind fun ρ1=>match ρ1[i]? with
  | some (some (.v d))=>(takeAll ρ1 ws).map fun p=>(d::p.1,p.2)
  | _=>none
 | _,_=>none
theorem a2w {ρ ρ':Ev}{σ:L2.St}{O:Av}(h:∀(j:Nat) (w:W) (d:D),ρ'[j]? =some (some w)->w.own=some d->ρ[j]? =some (some w)):∀b,AvO O ρ' σ b->AvO O ρ σ b:=fun b z=>z.imp id fun⟨j,w,d,e1,e2,e3⟩=>⟨j,w,d,h j w d e1 e2,e2,e3⟩
theorem m5 {P:List (D×V)}{O:Av}{L:List (Option Nat×Addr)}{σ:L2.St}{H:Hp}:∀{ws:List W} {ds:List D} {vs:List V} {ρ ρ':Ev},Rep X P O L ρ σ H->takeAll ρ ws=some (ds,ρ')->DenA X.K (AvO O ρ σ) σ H ws vs->
  Rep X P O L ρ' σ H/\DenL X.K (AvO O ρ' σ) H ds vs/\∀(j:Nat) (w:W) (d:D),ρ'[j]? =some (some w)->w.own=some d->ρ[j]? =some (some w)
 | [],ds,vs,ρ,ρ',r,e,h=>by cases e;have h:vs=[]:=h;subst h;exact⟨r,g8,fun j w d e _=>e⟩
 | .v d::ws,ds,vs,ρ,ρ',r,e,h=>by
  obtain⟨v,rs,rfl,h1,h2⟩:=h;rw[takeAll] at e;obtain⟨⟨ds1,ρ1⟩,e1,e⟩:=oms e;cases e;obtain⟨r1,l1,k1⟩:=m5 r e1 h2;exact⟨r1,e8 (l5 (n9 (a2w k1)) _ _ h1) l1,k1⟩
 | .r i::ws,ds,vs,ρ,ρ',r,e,h=>by
  obtain⟨v,rs,rfl,h1,h2⟩:=h;have h1:σ[i]? =some (some v):=h1;rw[takeAll] at e;cases e0:frzAt ρ i with
  | none=>rw[e0] at e;cases e
  | some ρ1=>
   rw[e0] at e;simp only[bind_some] at e;obtain⟨r1,k1⟩:=r.frz e0;split at e
   ·rename_i d q;obtain⟨⟨ds1,ρ2⟩,e1,e⟩:=oms e;cases e;have go1:∀{ws:List W} {vs:List V},DenA X.K (AvO O ρ σ) σ H ws vs->DenA X.K (AvO O ρ1 σ) σ H ws vs:=fun{ws}=>by
     induction ws with
     | nil=>exact fun h=>h
     | cons w ws ih=>
      intro vs h;obtain⟨v,rs,rfl,h1,h2⟩:=h;refine⟨v,rs,rfl,?_,ih h2⟩;cases w with
      | v d=>exact l5 (n9 (a2w fun j w d e1 e2=>(k1 j w d e1 e2).1)) _ _ h1
      | _=>exact h1
    obtain⟨r2,l2,k2⟩:=m5 r1 e1 (go1 h2);obtain⟨u,q1,q2⟩:=r1.slot i _ q;rw[h1] at q1;cases q1;have q2:Den X.K (AvO O ρ1 σ) H d v:=q2;exact⟨r2,e8 (l5 (n9 (a2w k2)) _ _ q2) l2,fun j w d e1 e2=>(k1 j w d (k2 j w d e1 e2) e2).1⟩
   ·cases e
 | .o _::ws,ds,vs,ρ,ρ',r,e,h=>by rw[takeAll] at e<;>first|cases e|(intros;nofun)
 | .l _::ws,ds,vs,ρ,ρ',r,e,h=>by rw[takeAll] at e<;>first|cases e|(intros;nofun)
def fTup (fa:FA):FX:=fun ρ=>(fa ρ).bind fun p=>(takeAll p.2 p.1).bind fun q=>if q.1.length<=lim then some (.v (.tup q.1),q.2) else none
def fLst (fa:FA):FX:=fun ρ=>(fa ρ).bind fun p=>(takeAll p.2 p.1).bind fun q=>if q.1.length<=lim then some (.o (.lst q.1),q.2) else none
theorem a0A {mk:List D->W}{σ:L2.St}{H:Hp}{Q:VK}{R:List V->Hp->Prop}(hq:∀(A:Av) (ds:List D) (vs:List V) (H:Hp),(∀v H',Same H H'->DenW X.K A σ H H' (mk ds) v->Q v H')->vs.length<=sizeLine->DenL X.K A H ds vs->R vs H)
  (h:tX X (fun ρ=>(fa ρ).bind fun p=>(takeAll p.2 p.1).bind fun q=>if q.1.length<=lim then some (mk q.1,q.2) else none) σ H Q):tA X fa σ H R:=by
 obtain⟨P,O,L,ρ,w,ρ',r,e,q⟩:=h;dsimp only at e;obtain⟨⟨ws,ρ1⟩,e1,e⟩:=obs e;dsimp only at e;obtain⟨⟨ds,ρ2⟩,e2,e⟩:=obs e;dsimp only at e;split at e
 ·rename_i hl;cases e;refine⟨P,O,L,ρ,ws,ρ1,r,e1,fun vs H1 r1 l1=>?_⟩;obtain⟨r2,l2,_⟩:=m5 r1 e2 l1;exact hq _ ds vs H1 (fun v H' s d=>q v H1 H' r2 s d) (by rw[<-b4 l2];exact qH hl t6) l2
 ·cases e
theorem m8 {k:Nat}(ha:QA X es fa):QX X (.Tuple es k pos) (fTup fa):=⟨PE.weak (a9Q ha.to) fun σ H Q h=>a0A (mk:=fun ds=>.v (.tup ds)) (fun A ds vs H q hl l=>⟨hl,fun p hp=>q _ _ (g7 hp _) (C9 hp l)⟩) h⟩
theorem v7 (ha:QA X es fa):QX X (.List es pos) (fLst fa):=⟨PE.weak (a9u ha.to) fun σ H Q h=>a0A (mk:=fun ds=>.o (.lst ds)) (fun A ds vs H q hl l=>⟨hl,fun p hp=>q _ _ (g7 hp _) (v6 hp l)⟩) h⟩
def items:D->Option (List D)
 | .tup xs=>some xs
 | .lst xs=>some xs
 | _=>none
theorem A6 {K:PySem.W.Frag}{A:Av}{H:Hp}{d:D}{xs:List D}{v:V}(e:items d=some xs)(h:DenR K A H d v):∃a vs,v= .ref a/\(SqL K H a vs\/SqT K H a vs)/\DenL K A H xs vs:=by
 cases d<;>simp only[items] at e<;>cases e
 ·have h:Den K A H (.tup xs) v:=h;rw[Den] at h;obtain⟨a,vs,e,hq,l⟩:=h;exact⟨a,vs,e,.inr hq,l⟩
 ·obtain⟨a,vs,e,hq,l⟩:=h;exact⟨a,vs,e,.inl hq,l⟩
def strAt (x:Str) (i:Int):Option W:=if x.length<=lim then(atI x.cps.toList i).map fun c=>.v (.str ⟨#[c]⟩) else none
def oIx (x y:D):Option W:=match x,y with
 | .str x,.int i=>strAt x i
 | x,.int i=>(items x).bind fun xs=>(atI xs i).map .v
 | _,_=>none
theorem a7M {K:PySem.W.Frag}{A:Av}{H:Hp}{xs:List D}{vs:List V}{i:Int}{d:D}(l:DenL K A H xs vs)(e:atI xs i=some d):∃v,atI vs i=some v/\Den K A H d v:=by
 unfold atI at e ⊢;rw[<-b4 l];cases q:ixN xs.length i with
 | none=>rw[q] at e;cases e
 | some j=>rw[q] at e;exact t5 l e
theorem k_ix:Pr2 X oIx (rIx X.K):=by
 intro A x y w v u H Q _ e hx hy q;unfold oIx at e;split at e
 ·rename_i z i;unfold strAt at e;split at e
  ·rename_i hl;obtain⟨ch,e1,e⟩:=oms e;cases e;have hx:Den X.K A H (.str z) v:=hx;exact .inr (.inr ⟨z,i,ch,W8.mp hx,g5 hy,qH hl t6,e1,q _ H (Same.refl H) a5V⟩)
  ·cases e
 ·rename_i i _;cases e1:items x with
  | none=>rw[e1] at e;cases e
  | some xs=>
   rw[e1] at e;simp only[bind_some] at e;obtain⟨d,e2,e⟩:=oms e;cases e;obtain⟨a,vs,rfl,hq,l⟩:=A6 e1 hx;obtain⟨v',h1,h2⟩:=a7M l e2;rcases hq with hq|hq
   ·exact .inl ⟨a,vs,i,v',rfl,g5 hy,hq,h1,q _ H (Same.refl H) h2⟩
   ·exact .inr (.inl ⟨a,vs,i,v',rfl,g5 hy,hq,h1,q _ H (Same.refl H) h2⟩)
 ·cases e
def fCall (k:List D->Option W) (fa:FA):FX:=fun ρ=>(fa ρ).bind fun p=>(drs p.2 p.1).bind fun ds=>(k ds).map fun w=>(w,p.2)
def PrA (X:Cx) (k:List D->Option W) (r:List V->Hp->VK->Prop):Prop:=∀(A:Av) (ds:List D) (w:W) (vs:List V) (H:Hp) (Q:VK),(∀b,A b->∃o,H b=some o)->k ds=some w->DenRL X.K A H ds vs->(∀z H',Same H H'->DenW X.K A [] H H' w z->Q z H')->r vs H Q
theorem K8 {r:List V->Hp->VK->Prop}{k:List D->Option W}(hk:PrA X k r):∀σ H Q,tX X (fCall k fa) σ H Q->tCB r (tA X fa) σ H Q:=fun σ H Q h0=>tXe h0 fun P O L ρ w ρ' r e q=>by
 unfold fCall at e;obtain⟨⟨ws,ρ1⟩,e1,e⟩:=obs e;dsimp only at e;cases e2:drs ρ1 ws with
 | none=>rw[e2] at e;cases e
 | some ds=>
  rw[e2] at e;simp only[bind_some] at e;cases e3:k ds with
  | none=>rw[e3] at e;cases e
  | some w'=>
   rw[e3] at e;cases e;exact⟨P,O,L,ρ,ws,ρ',r,e1,fun vs H1 r1 l1=>hk _ ds w vs H1 Q (fun b z=>r1.there z) e3 (a3z r1 e2 l1) fun z H2 s2 d2=>q z H1 H2 r1 s2 d2.st⟩
theorem Y3 {x:Str}{p:Pos}{id:String}{r:List V->Hp->VK->Prop}{k:List D->Option W}(hc:CallR X (.builtin id) r)(hk:PrA X k r)(hv:bootBuiltins x=some (.builtin id))(hm:X.mg x=none)(ha:QA X (e::es) fa)(hg:Gl X x)(hn:x≠"__name__")(hdb:(x==("__debug__":Str))=false)
  (he:starEach (e::es) X.env=(false,eval e X.env)::starEach es X.env) (hpl:(backTo pos (starEach es X.env)).any (·.1)=false):QX X (.Call (.Name x p) (e::es) [] pos) (fCall k fa):=⟨PE.weak (P5 hc hg hm hv ha.to hn hdb he hpl) (K8 hk)⟩
theorem a2e {x:Str}{p:Pos}{T:String}{r:List V->Hp->VK->Prop}{k:List D->Option W}(hc:CallR X (.type T) r)(hk:PrA X k r)(hv:bootBuiltins x=some (.type T))(hm:X.mg x=none)(ha:QA X (e::es) fa)(hg:Gl X x)(hn:x≠"__name__")(hdb:(x==("__debug__":Str))=false)
  (he:starEach (e::es) X.env=(false,eval e X.env)::starEach es X.env) (hpl:(backTo pos (starEach es X.env)).any (·.1)=false):QX X (.Call (.Name x p) (e::es) [] pos) (fCall k fa):=⟨PE.weak (U6 hc hg hm hv ha.to hn hdb he hpl) (K8 hk)⟩
theorem denRL1 {K:PySem.W.Frag}{A:Av}{H:Hp}{d:D}{vs:List V}(l:DenRL K A H [d] vs):∃v,vs=[v]/\DenR K A H d v:=by
 obtain⟨v,r,rfl,h,l⟩:=l;have l:r=[]:=l;subst l;exact⟨v,rfl,h⟩
theorem denRL2 {K:PySem.W.Frag}{A:Av}{H:Hp}{d d':D}{vs:List V}(l:DenRL K A H [d,d'] vs):∃v v',vs=[v,v']/\DenR K A H d v/\DenR K A H d' v':=by
 obtain⟨v,r,rfl,h,l⟩:=l;obtain⟨v',rfl,h'⟩:=denRL1 l;exact⟨v,v',rfl,h,h'⟩
end
inductive R where
 | nx (ρ:Ev)|bk (ρ:Ev)|ct (ρ:Ev)|rt (w:W) (ρ:Ev)
abbrev FS:=Ev->Option R
abbrev A0 (O:Av) (L:List (Option Nat×Addr)):Av:=fun b=>O b\/∃i:Nat,(some i,b)∈L
def EndsOk (X:Cx) (P:List (D×V)) (O:Av) (L:List (Option Nat×Addr)) (E:Ends):R->Prop
 | .nx ρ=>∀σ H,Rep X P O L ρ σ H->E.nx σ H
 | .bk ρ=>∀σ H,Rep X P O L ρ σ H->E.bk σ H
 | .ct ρ=>∀σ H,Rep X P O L ρ σ H->E.ct σ H
 | .rt w ρ=>∀v H,(∀b o,X.H₀ b=some o->(∀i,(i,b)∉L)->H b=some o)->(∀(i:Nat) b,(some i,b)∈L->∃c,ownAt ρ i=some c/\Obj X.K (A0 O L) H b c)->DenW X.K (A0 O L) [] (hz X L) H w v->E.rt v H
def tS (X:Cx) (F:FS):TS:=fun E σ H=>∃P O L ρ r,Rep X P O L ρ σ H/\F ρ=some r/\EndsOk X P O L E r
theorem tSe {X:Cx}{F:FS}{E:Ends}{σ:L2.St}{H:Hp}{C:Prop}(h:tS X F E σ H)(k:∀P O L ρ r,Rep X P O L ρ σ H->F ρ=some r->EndsOk X P O L E r->C):C:=by
 obtain⟨P,O,L,ρ,r,rp,e,q⟩:=h;exact k P O L ρ r rp e q
structure QS (X:Cx) (st:Stmt) (F:FS):Prop where
 to:PS X st (tS X F)
structure QSs (X:Cx) (st:List Stmt) (F:FS):Prop where
 to:PSs X st (tS X F)
theorem PS.weak {X:Cx}{e:Stmt}{t u:TS}(h:PS X e t)(w:∀E σ H,u E σ H->t E σ H):PS X e u:=fun pins s σ H E I q=>h pins s σ H E I (w E σ H q)
theorem PSs.weak {X:Cx}{e:List Stmt}{t u:TS}(h:PSs X e t)(w:∀E σ H,u E σ H->t E σ H):PSs X e u:=fun pins s σ H E I q=>h pins s σ H E I (w E σ H q)
def fThen (F G:FS):FS:=fun ρ=>(F ρ).bind fun r=>match r with
 | .nx ρ'=>G ρ'
 | r=>some r
section
variable {X:Cx}{P:List (D×V)}{O:Av}{L:List (Option Nat×Addr)}{ρ ρ':Ev}{σ:L2.St}{H H1 H':Hp}{w:W}{d:D}{v:V}
theorem Rep.a0 (r:Rep X P O L ρ σ H){b:Addr}(z:A0 O L b):AvO O ρ σ b:=z.imp id fun⟨i,z⟩=>by
 obtain⟨d,h1,h2⟩:=r.lnd i b z;exact⟨i,_,d,h1,rfl,h2⟩
theorem Rep.lents (r:Rep X P O L ρ σ H):∀(i:Nat) b,(some i,b)∈L->∃c,ownAt ρ i=some c/\Obj X.K (A0 O L) H b c:=fun i b z=>by
 obtain⟨d,h1,h2⟩:=r.lnd i b z;obtain⟨a,h3,h4⟩:=r.obj h1 rfl;rw[h2] at h3;cases h3;exact⟨d,by unfold ownAt;rw[h1];rfl,p7 (n9 fun b z=>r.a0 z) rfl h4⟩
def bindW (ρ:Ev) (i:Nat):W->Option Ev
 | .v d=>if freeSlot ρ i=true then some (ρ.set i (some (.v d))) else none
 | .o d=>if freeSlot ρ i=true then some (ρ.set i (some (.o d))) else none
 | .r j=>(frzAt ρ j).bind fun ρ1=>match ρ1[j]? with
  | some (some (.v d))=>if freeSlot ρ1 i=true then some (ρ1.set i (some (.v d))) else none
  | _=>none
 | .l _=>none
theorem a3J {i:Nat}(r:Rep X P O L ρ σ H1)(s:Same H1 H')(h:DenW X.K (AvO O ρ σ) σ H1 H' w v)(e:bindW ρ i w=some ρ'):Rep X P O L ρ' (σ.set i (some v)) H':=by
 cases w with
 | v d=>
  rw[bindW] at e;split at e
  ·rename_i hf;cases e;exact(r.grow s).put hf h
  ·cases e
 | o d=>
  rw[bindW] at e;split at e
  ·rename_i hf;cases e;obtain⟨a,rfl,hn,ob⟩:=h;exact r.putO s hf hn ob
  ·cases e
 | r j=>
  rw[bindW] at e;cases e1:frzAt ρ j with
  | none=>rw[e1] at e;cases e
  | some ρ1=>
   rw[e1] at e;simp only[bind_some] at e;obtain⟨r1,_⟩:=(r.grow s).frz e1;split at e
   ·rename_i d q;split at e
    ·rename_i hf;cases e;obtain⟨u,q1,q2⟩:=r1.slot j _ q;have h:σ[j]? =some (some v):=h;rw[h] at q1;cases q1;exact r1.put hf q2
    ·cases e
   ·cases e
 | l d=>cases e
def retW (ρ:Ev):W->Option R
 | .v d=>some (.rt (.v d) ρ)
 | .o d=>some (.rt (.o d) ρ)
 | .r i=>match ρ[i]? with
  | some (some (.o d))=>some (.rt (.o d) ρ)
  | some (some (.v d))=>some (.rt (.v d) ρ)
  | _=>none
 | .l _=>none
theorem a9H {E:Ends}{q:R}(r:Rep X P O L ρ σ H1)(s:Same H1 H')(h:DenW X.K (AvO O ρ σ) σ H1 H' w v)(e:retW ρ w=some q)(hq:EndsOk X P O L E q):E.rt v H':=by
 have r':=r.grow s;cases w with
 | v d=>cases e;exact hq v H' r'.same r'.lents (l5 (n9 fun b z=>r.a0 z) _ _ h)
 | o d=>
  cases e;obtain⟨a,rfl,hn,ob⟩:=h;exact hq _ H' r'.same r'.lents ⟨a,rfl,r.fresh0 hn,p7 (n9 fun b z=>z.imp (fun z=>r.a0 z) id) rfl ob⟩
 | r i=>
  rw[retW] at e;have h:σ[i]? =some (some v):=h;split at e
  ·rename_i d q;cases e;obtain⟨a,h1,h2⟩:=r'.obj q rfl;rw[h] at h1;cases h1;refine hq _ H' r'.same r'.lents ⟨a,rfl,r'.new i d a q h,p7 (n9 fun b z=>?_) rfl h2⟩;rcases z with z|z
   ·exact r.a0 z
   ·rw[z];exact .inr ⟨i,_,d,q,rfl,h⟩
  ·rename_i d q;cases e;obtain⟨u,q1,q2⟩:=r'.slot i _ q;rw[h] at q1;cases q1;exact hq v H' r'.same r'.lents (l5 (n9 fun b z=>r.a0 z) _ _ q2)
  ·cases e
 | l d=>cases e
end
section
variable {X:Cx}{a b c e:Expr}{st:Stmt}{rest bd els:List Stmt}{pos:Pos}{f g:FX}{t:FT}{fa:FA}{F G:FS}
theorem p9:QSs X [] (fun ρ=>some (.nx ρ)):=⟨PSs.weak a7Q fun E σ H h0=>tSe h0 fun P O L ρ r rp e q=>by cases e;exact q σ H rp⟩
theorem b5 (h1:QS X st F)(h2:QSs X rest G):QSs X (st::rest) (fThen F G):=⟨PSs.weak (a6F h1.to h2.to) fun E σ H h0=>tSe h0 fun P O L ρ r rp e q=>by
 unfold fThen at e;obtain⟨r1,e1,e⟩:=obs e;refine⟨P,O,L,ρ,r1,rp,e1,?_⟩;cases r1 with
 | nx ρ'=>exact fun σ' H' rp'=>⟨P,O,L,ρ',r,rp',e,q⟩
 | bk ρ'=>cases e;exact q
 | ct ρ'=>cases e;exact q
 | rt d ρ'=>cases e;exact q⟩
theorem b8 (h1:QS X st F):QSs X [st] F:=⟨a7U h1.to⟩
def fRet (f:FX):FS:=fun ρ=>(f ρ).bind fun p=>retW p.2 p.1
theorem k5 (ha:QX X e f):QS X (.Return (some e) pos) (fRet f):=⟨PS.weak (a96 ha.to) fun E σ H h0=>tSe h0 fun P O L ρ r rp e q=>by
 unfold fRet at e;obtain⟨⟨w,ρ1⟩,e1,e⟩:=obs e
 exact⟨P,O,L,ρ,w,ρ1,rp,e1,fun v H1 H' r1 s1 d1=>a9H r1 s1 d1 e q⟩⟩
def fIfS (t:FT) (F G:FS):FS:=fun ρ=>(t ρ).bind fun p=>if p.1=true then F p.2 else G p.2
theorem A8 (hc:QT X c t)(ha:QSs X bd F)(hb:QSs X els G):QS X (.If c bd els pos) (fIfS t F G):=⟨PS.weak (ps_if hc.to ha.to hb.to) fun E σ H h0=>tSe h0 fun P O L ρ r rp e q=>by
 unfold fIfS at e;obtain⟨⟨k,ρ1⟩,e1,e⟩:=obs e;dsimp only at e;refine⟨P,O,L,ρ,k,ρ1,rp,e1,fun H1 r1=>?_⟩;cases k with
 | true=>rw[if_pos rfl] at e ⊢;exact⟨P,O,L,ρ1,r,r1,e,q⟩
 | false=>rw[if_neg zP] at e ⊢;exact⟨P,O,L,ρ1,r,r1,e,q⟩⟩
def fAsg (i:Nat) (f:FX):FS:=fun ρ=>(f ρ).bind fun p=>(bindW p.2 i p.1).map .nx
theorem j0 (i:Nat){x:Str}{pos':Pos}(hN:X.N.Nodup)(ha:QX X e f)(hi:X.N[i]? =some x:=by rfl)(hx:Loc X.env.scope x:=by first|exact Or.inl rfl|exact Or.inr rfl)(hs:swapsWith e (some (.Name x pos')) pos.line X.env=pure false:=by rfl)(hf:X.fn x=true\/X.env.scope.names.lookup x=some .local:=by first|exact .inl rfl|exact .inr rfl):
  QS X (.Assign [.Name x pos'] e pos) (fAsg i f):=⟨PS.weak (a9R hN hi hx ha.to hs hf) fun E σ H h0=>tSe h0 fun P O L ρ r rp e q=>by
 unfold fAsg at e;obtain⟨⟨w,ρ1⟩,e1,e⟩:=obs e;dsimp only at e;obtain⟨ρ2,e2,e⟩:=oms e;cases e
 exact⟨P,O,L,ρ,w,ρ1,rp,e1,fun v H1 H' r1 s1 d1=>q _ H' (a3J r1 s1 d1 e2)⟩⟩
abbrev FG:=D->Ev->Option Ev
def GOk (X:Cx) (g:TG) (gf:FG):Prop:=∀(P:List (D×V)) (O:Av) (L:List (Option Nat×Addr)) (d:D) (v:V) (ρ ρ':Ev) (σ:L2.St) (H:Hp) (Q:L2.St->Hp->Prop),Rep X P O L ρ σ H->Den X.K (AvO O ρ σ) H d v->gf d ρ=some ρ'->(∀σ' H',Rep X P O L ρ' σ' H'->Q σ' H')->g v σ H Q
structure QG (X:Cx) (tg:Expr) (gf:FG):Prop where
 to:∃g,PG X tg g/\GOk X g gf
abbrev FGs:=List D->Ev->Option Ev
structure QGs (X:Cx) (tgs:List Expr) (n:Nat) (gf:FGs):Prop where
 to:∃g,PGs X tgs g/\∀(P:List (D×V)) (O:Av) (L:List (Option Nat×Addr)) (ds:List D) (vs:List V) (ρ ρ':Ev) (σ:L2.St) (H:Hp) (Q:L2.St->Hp->Prop),Rep X P O L ρ σ H->DenL X.K (AvO O ρ σ) H ds vs->gf ds ρ=some ρ'->(∀σ' H',Rep X P O L ρ' σ' H'->Q σ' H')->g vs σ H Q
 len:∀ds ρ ρ',gf ds ρ=some ρ'->ds.length=n
def gfName (i:Nat):FG:=fun d ρ=>if freeSlot ρ i=true then some (ρ.set i (some (.v d))) else none
theorem b9 (i:Nat){x:Str}(hN:X.N.Nodup)(hi:X.N[i]? =some x:=by rfl)(hx:Loc X.env.scope x:=by first|exact Or.inl rfl|exact Or.inr rfl)(hf:X.fn x=true\/X.env.scope.names.lookup x=some .local:=by first|exact .inl rfl|exact .inr rfl):QG X (.Name x pos) (gfName i):=
 ⟨gName i,a7Y hN hi hx hf,fun P O L d v ρ ρ' σ H Q r h e q=>by
  unfold gfName at e;split at e
  ·rename_i hf;cases e;exact q _ H (r.put hf h)
  ·cases e⟩
def gfNil:FGs:=fun ds ρ=>match ds with
 | []=>some ρ
 | _=>none
def gfCons (gf:FG) (gs:FGs):FGs:=fun ds ρ=>match ds with
 | d::ds=>(gf d ρ).bind (gs ds)
 | _=>none
def gfTup (gs:FGs):FG:=fun d ρ=>match d with
 | .tup ds=>gs ds ρ
 | _=>none
theorem z5:QGs X [] 0 gfNil:=⟨⟨gNil,a7C,fun P O L ds vs ρ ρ' σ H Q r l e q=>by
 cases ds with
 | nil=>cases e;rw[DenL] at l;exact⟨l,q σ H r⟩
 | cons d ds=>cases e⟩,fun ds ρ ρ' e=>by cases ds with|nil=>rfl|cons d ds=>cases e⟩
theorem holdL {P:List (D×V)}{O:Av}{L:List (Option Nat×Addr)}{σ:L2.St}:∀{ds:List D} {vs:List V} {ρ:Ev} {H:Hp},Rep X P O L ρ σ H->DenL X.K (AvO O ρ σ) H ds vs->∃P',Rep X P' O L ρ σ H/\∀ρ2 σ2 H2,Rep X P' O L ρ2 σ2 H2->Rep X P O L ρ2 σ2 H2/\DenL X.K (AvO O ρ2 σ2) H2 ds vs
 | [],vs,ρ,H,r,l=>⟨P,r,fun ρ2 σ2 H2 r2=>⟨r2,by rw[DenL] at l ⊢;exact l⟩⟩
 | d::ds,vs,ρ,H,r,l=>by
  rw[DenL] at l;obtain⟨v,rs,rfl,h,l⟩:=l;obtain⟨P',r1,k1⟩:=holdL r l
  exact⟨(d,v)::P',r1.more h,fun ρ2 σ2 H2 r2=>by
   obtain⟨r3,l3⟩:=k1 ρ2 σ2 H2 r2.less
   exact⟨r3,e8 r2.head l3⟩⟩
theorem g6 {n:Nat}{tgs:List Expr}{tg:Expr}{gf:FG}{gs:FGs}(h:QG X tg gf)(t:QGs X tgs n gs)(hs:(assignEach (tg::tgs) X.env).map (·.2)=assign tg X.env::(assignEach tgs X.env).map (·.2):=by rfl):QGs X (tg::tgs) (n+1) (gfCons gf gs):=by
 obtain⟨g,p,k⟩:=h.to;obtain⟨gg,pp,kk⟩:=t.to;refine⟨⟨gCons g gg,a5w p pp hs,fun P O L ds vs ρ ρ' σ H Q r l e q=>?_⟩,fun ds ρ ρ' e=>?_⟩
 ·cases ds with
  | nil=>cases e
  | cons d ds=>
   rw[DenL] at l;obtain⟨v,rs,rfl,hd,l⟩:=l;simp only[gfCons] at e;obtain⟨ρ1,e1,e⟩:=obs e;obtain⟨P',r1,k1⟩:=holdL r l;refine⟨v,rs,rfl,k P' O L d v ρ ρ1 σ H _ r1 hd e1 fun σ' H' r2=>?_⟩;obtain⟨r3,l3⟩:=k1 _ _ _ r2;exact kk P O L ds rs ρ1 ρ' σ' H' Q r3 l3 e q
 ·cases ds with
  | nil=>cases e
  | cons d ds=>
   simp only[gfCons] at e;cases e1:gf d ρ with
   | none=>rw[e1] at e;cases e
   | some ρ1=>rw[e1] at e;rw[qL,t.len ds ρ1 ρ' e]
theorem C7 {tgs:List Expr}{n k:Nat}{gs:FGs}(hc:X.calm=true)(h:QGs X tgs n gs)(hn:(assignEach tgs X.env).length=n:=by rfl)(hst:(assignEach tgs X.env).findIdx? (·.1)=none:=by rfl):QG X (.Tuple tgs k pos) (gfTup gs):=by
 obtain⟨gg,pp,kk⟩:=h.to;refine⟨gTup X.K n gg,a9U hc pp hn hst,fun P O L d v ρ ρ' σ H Q r hd e q=>?_⟩;cases d with
 | tup ds=>
  rw[Den] at hd;obtain⟨a,vs,ev,hq,l⟩:=hd;exact⟨a,vs,ev,hq,by rw[<-b4 l];exact h.len ds ρ ρ' e,kk P O L ds vs ρ ρ' σ H Q r l e q⟩
 | _=>cases e
def gfSub (f g:FX):FG:=fun d ρ=>(f ρ).bind fun p=>match p.1 with
 | .r j=>(g p.2).bind fun q=>(dr q.2 q.1.fz).bind fun k=>match k,ownAt q.2 j with
  | .int k,some (.lst xs)=>(ixN xs.length k).map fun n=>setOwn q.2 j (.lst (xs.set n d))
  | _,_=>none
 | _=>none
theorem a2K (ha:QX X a f)(hb:QX X b g)(hs:∀v,assign (.Subscript a b pos) X.env v=(do
   let ov <-holding [v] (eval a X.env)
   let iv <-holding [v,ov] (eval b X.env)
   standAt pos
   holding [v,ov,iv] (setItem ov iv v)
   release [v,ov,iv] []):=by intro _;rfl):QG X (.Subscript a b pos) (gfSub f g):=by
 refine⟨_,b0a ha.to hb.to a5a hs,fun P O L d v ρ ρ' σ H Q r hd e q=>?_⟩;unfold gfSub at e;obtain⟨⟨w1,ρ1⟩,e1,e⟩:=obs e;dsimp only at e;split at e
 ·rename_i w1 j;obtain⟨⟨w2,ρ2⟩,e2,e⟩:=obs e;dsimp only at e;cases e3:dr ρ2 w2.fz with
  | none=>rw[e3] at e;cases e
  | some k=>
   rw[e3] at e;simp only[bind_some] at e;split at e
   ·rename_i _ _ i xs e4;obtain⟨n,e5,e⟩:=oms e;cases e;have r0:Rep X ((d,v)::P) O L ρ σ H:=r.more hd;refine⟨(d,v)::P,O,L,ρ,_,ρ1,r0,e1,fun o H1 H1' r1 s1 d1=>?_⟩;have d1:σ[j]? =some (some o):=d1;refine⟨(d,v)::P,O,L,ρ1,w2,ρ2,r1.grow s1,e2,fun u H2 H2' r2 s2 d2=>?_⟩;have r3:=r2.grow s2;have ki:=g5 (C4 r3 e3 (d2.fz r2 s2));obtain⟨w0,q0,ow⟩:=m3 e4;obtain⟨pa,h1,vs,h2,l⟩:=r3.obj q0 ow;rw[d1] at h1;cases h1;have av:∀b,AvO O (setOwn ρ2 j (.lst (xs.set n d))) σ b->AvO O ρ2 σ b:=fun b z=>z.imp id fun z=>(L7 e4 b).mp z;refine⟨pa,vs,i,n,rfl,ki,h2,by rw[<-b4 l];exact e5,q σ _ ((r3.less).mut e4 d1 (fun b o eb nb=>by rw[c6 nb];exact eb) ⟨_,j5,?_⟩)⟩
    have g0:Go (AvO O ρ2 σ) (AvO O ρ2 σ) (fun b=>b=pa) H2' (upd H2' pa (.lst (vs.set n v))):=⟨fun b o eb nb=>by rw[c6 nb];exact eb,fun b z=>by rw[z];exact⟨.inr ⟨j,w0,_,q0,ow,d1⟩,_,h2,trivial⟩,fun b z=>.inl z⟩
    exact m6 g0 _ _ (a1W r3.head n l)
   ·cases e
 ·cases e
def fAsgG (f:FX) (gf:FG):FS:=fun ρ=>(f ρ).bind fun p=>(takeAll p.2 [p.1.fz]).bind fun q=>match q.1 with
 | [d]=>(gf d q.2).map .nx
 | _=>none
theorem U2 {tg:Expr}{gf:FG}(ha:QX X e f)(hg:QG X tg gf)(hs:swapsWithSole [tg] e pos.line X.env=pure false:=by rfl)(hw:swappedStores [tg] e X.env=pure none:=by rfl)(h1:(assignEach [tg] X.env).map (·.2)=[assign tg X.env]:=by rfl):QS X (.Assign [tg] e pos) (fAsgG f gf):=by
 obtain⟨g,p,k⟩:=hg.to;refine⟨PS.weak (a9g ha.to p hs hw h1) fun E σ H h0=>tSe h0 fun P O L ρ r rp e q=>?_⟩;unfold fAsgG at e;obtain⟨⟨w,ρ1⟩,e1,e⟩:=obs e;dsimp only at e;obtain⟨⟨ds,ρ2⟩,e2,e⟩:=obs e;dsimp only at e;split at e
 ·rename_i d;obtain⟨ρ3,e3,e⟩:=oms e;cases e;refine⟨P,O,L,ρ,w,ρ1,rp,e1,fun v H1 H' r1 s1 d1=>?_⟩;obtain⟨r2,l2,_⟩:=m5 (vs:=[v]) (r1.grow s1) e2 ⟨v,[],rfl,d1.fz r1 s1,rfl⟩;obtain⟨v',ev,h'⟩:=denL1 l2;cases ev;exact k P O L d v ρ2 ρ3 σ H' _ r2 h' e3 fun σ' H' r'=>q σ' H' r'
 ·cases e
def fDrop (f:FX):FS:=fun ρ=>(f ρ).map fun p=>.nx p.2
theorem Q1 (ha:QX X e f)(hs:swapsWith e none pos.line X.env=pure false:=by rfl):QS X (.Expr e pos) (fDrop f):=⟨PS.weak (a7X ha.to hs) fun E σ H h0=>tSe h0 fun P O L ρ r rp e q=>by
 unfold fDrop at e;obtain⟨p,e1,e⟩:=oms e;cases e
 exact⟨P,O,L,ρ,p.1,p.2,rp,e1,fun v H1 H' r1 s1 d1=>q σ H' (r1.grow s1)⟩⟩
def fPar (i j:Nat) (fa:FA):FS:=fun ρ=>(fa ρ).bind fun p=>(takeAll p.2 p.1).bind fun q=>match q.1 with
 | [d,d']=>if freeSlot q.2 i=true/\freeSlot (q.2.set i (some (.v d))) j=true then some (.nx ((q.2.set i (some (.v d))).set j (some (.v d')))) else none
 | _=>none
end
def whileF (c:FT) (b:FS):Nat->Ev->Option R
 | 0,_=>none
 | n+1,ρ=>(c ρ).bind fun k=>if k.1=true then(b k.2).bind (fun r=>match r with
   | .nx ρ'=>whileF c b n ρ'
   | .ct ρ'=>whileF c b n ρ'
   | .bk ρ'=>some (.nx ρ')
   | .rt d ρ'=>some (.rt d ρ')) else some (.nx k.2)
theorem F9 {c:FT}{b:FS}:∀{n:Nat} {ρ:Ev} {r:R},whileF c b n ρ=some r->whileF c b (n+1) ρ=some r
 | 0,ρ,r,h=>by cases h
 | n+1,ρ,r,h=>by
  rw[whileF] at h ⊢;cases e:c ρ with
  | none=>rw[e] at h;cases h
  | some k=>
   rw[e] at h;obtain⟨k,ρ1⟩:=k;cases k with
   | false=>exact h
   | true=>
    simp only[bind_some,qW] at h ⊢;cases e2:b ρ1 with
    | none=>rw[e2] at h;cases h
    | some r2=>
     rw[e2] at h;cases r2 with
     | nx ρ'=>exact F9 (n:=n) h
     | ct ρ'=>exact F9 (n:=n) h
     | bk ρ'=>exact h
     | rt d ρ'=>exact h
theorem a0P {c:FT}{b:FS}{n m:Nat}{ρ:Ev}{r:R}(h:whileF c b n ρ=some r)(hm:n<=m):whileF c b m ρ=some r:=by
 induction hm with
 | refl=>exact h
 | step _ ih=>exact F9 ih
open Classical in
def whileV (c:FT) (b:FS):FS:=fun ρ=>if h:∃r,∃n,whileF c b n ρ=some r then some h.choose else none
theorem a4M {c:FT}{b:FS}{n:Nat}{ρ:Ev}{r:R}(h:whileF c b n ρ=some r):whileV c b ρ=some r:=by
 have z:∃r,∃n,whileF c b n ρ=some r:=⟨r,n,h⟩;unfold whileV;rw[dif_pos z];obtain⟨m,hm⟩:=z.choose_spec;have h1:=a0P h (Nat.le_max_left n m);have h2:=a0P hm (Nat.le_max_right n m);rw[h1] at h2;exact h2.symm
theorem a4A {c:FT}{b:FS}{ρ:Ev}{r:R}(h:whileV c b ρ=some r):∃n,whileF c b n ρ=some r:=by
 unfold whileV at h;split at h
 ·rename_i z;cases h;exact z.choose_spec
 ·cases h
section
variable {X:Cx}{a b c e:Expr}{body:List Stmt}{pos:Pos}{f g:FX}{t:FT}{fa:FA}{F:FS}
theorem a5U (hp:PassesOwn (model X.prog X.w) X.A X.env X.xe)(hc:QT X c t)(hb:QSs X body F):QS X (.While c body [] pos) (whileV t F):=⟨PS.weak (a5z hp hc.to hb.to) fun E σ H h0=>tSe h0 fun P O L ρ r rp e q=>by
 obtain⟨n,e⟩:=a4A e;refine⟨fun m σ H=>∃ρ,Rep X P O L ρ σ H/\whileF t F m ρ=some r,⟨n,ρ,rp,e⟩,fun m σ H ⟨ρ,rp,e⟩=>?_⟩;cases m with
 | zero=>cases e
 | succ m=>
  rw[whileF] at e;obtain⟨⟨k,ρ1⟩,e1,e⟩:=obs e;refine⟨P,O,L,ρ,k,ρ1,rp,e1,fun H1 r1=>?_⟩;cases k with
  | false=>
   rw[if_neg zP];cases e;exact q σ H1 r1
  | true=>
   rw[if_pos rfl];simp only[bind_some,qW] at e;obtain⟨r2,e2,e⟩:=obs e;refine⟨fun σ' H'=>∃ρ,Rep X P O L ρ σ' H'/\whileF t F m ρ=some r,fun σ' H' h=>⟨m,jU m,h⟩,P,O,L,ρ1,r2,r1,e2,?_⟩;cases r2 with
   | nx ρ'=>exact fun σ' H' rp'=>⟨ρ',rp',e⟩
   | ct ρ'=>exact fun σ' H' rp'=>⟨ρ',rp',e⟩
   | bk ρ'=>cases e;exact fun σ' H' rp'=>q σ' H' rp'
   | rt d ρ'=>cases e;exact q⟩
abbrev FI:=Ev->Option (List D×Ev)
def Wks (K:PySem.W.Frag) (P:List (D×V)) (xs:List D) (J:It):Prop:=∀(Y:Cx) (O:Av) (L:List (Option Nat×Addr)) (ρ:Ev) (σ:L2.St) (H:Hp),Y.K=K->Rep Y P O L ρ σ H->
 (∀(i:Nat) (x:D),xs[i]? =some x->J.go i H/\∀v H',J.yld i H v H'->Same H H'/\Den K (AvO O ρ σ) H' x v)/\J.stop xs.length H
def Holds (P P':List (D×V)):Prop:=∀p∈P',p∈P
theorem Rep.holds {P P':List (D×V)}{O:Av}{L:List (Option Nat×Addr)}{ρ:Ev}{σ:L2.St}{H:Hp}(r:Rep X P O L ρ σ H)(h:Holds P P'):Rep X P' O L ρ σ H:=⟨r.same,r.amb,r.len,r.slot,r.inj,r.new,r.lnt,r.lnd,fun p hp=>r.prot p (h p hp),r.gvl⟩
def tI (X:Cx) (fi:FI):TI:=fun σ H R=>∃P O L ρ xs ρ',Rep X P O L ρ σ H/\fi ρ=some (xs,ρ')/\∀J H1 P',Rep X P' O L ρ' σ H1->Holds P' P->Wks X.K P' xs J->R J H1
theorem tIe {X:Cx}{fi:FI}{σ:L2.St}{H:Hp}{R:It->Hp->Prop}{C:Prop}(h:tI X fi σ H R)(k:∀P O L ρ xs ρ',Rep X P O L ρ σ H->fi ρ=some (xs,ρ')->(∀J H1 P',Rep X P' O L ρ' σ H1->Holds P' P->Wks X.K P' xs J->R J H1)->C):C:=by
 obtain⟨P,O,L,ρ,w,ρ',r,e,q⟩:=h;exact k P O L ρ w ρ' r e q
structure QI (X:Cx) (tg iter:Expr) (fi:FI):Prop where
 to:PI X tg iter (tI X fi)
theorem PI.weak {tg e:Expr}{t u:TI}(h:PI X tg e t)(w:∀σ H Q,u σ H Q->t σ H Q):PI X tg e u:=fun pins s σ H Q I q=>h pins s σ H Q I (w σ H Q q)
def iSeq (K:PySem.W.Frag) (tl:TE):TI:=fun σ H R=>tl σ H fun x H1=>(∃a,x= .ref a/\(∃xs,SqL K H1 a xs)/\R (Itl K a) H1)\/∃a,x= .ref a/\(∃xs,SqT K H1 a xs)/\R (Itt K a) H1
theorem a6N {tg l:Expr}{tl:TE}(hl:PE X l tl):PI X tg l (iSeq X.K tl):=by
 intro pins s σ H R I h;refine thn (hl pins s σ H _ I h) fun v s1 ⟨x,H1,I1,r1,q1⟩=>?_;rcases q1 with ⟨a,e,⟨xs,hq⟩,q⟩|⟨a,e,⟨xs,hq⟩,q⟩
 ·subst e;cases r1;obtain⟨its,rv,p,hz⟩:=I1.list hq;refine wpAny_pyIter_list p.isList ?_;refine⟨s1.heap.objs.size,[s1.heap.objs.size],_,_,H1,rfl,I1.kept (t':=s1.toks) fun b o e=>zC _ e,a4N a _,⟨_,zL _ rfl,rfl,rfl⟩,fun b hb=>?_,q⟩;have e:b=s1.heap.objs.size:=by simpa using hb
  subst e;exact I1.fpOk (zE _) (I1.hok.fresh (zE _))
 ·subst e;cases r1;obtain⟨its,rv,p,hz⟩:=I1.tuple hq;refine wpAny_pyIter_tuple (show s1.heap.IsTuple a its.toArray from p) ?_;refine⟨s1.heap.objs.size,[s1.heap.objs.size],_,_,H1,rfl,I1.kept (t':=s1.toks) fun b o e=>zC _ e,a2z a _,⟨_,zL _ rfl,rfl,rfl⟩,fun b hb=>?_,q⟩;have e:b=s1.heap.objs.size:=by simpa using hb
  subst e;exact I1.fpOk (zE _) (I1.hok.fresh (zE _))
def fiSeq (f:FX):FI:=fun ρ=>(f ρ).bind fun p=>(takeAll p.2 [p.1.fz]).bind fun q=>match q.1 with
 | [d]=>(items d).map fun xs=>(xs,q.2)
 | _=>none
theorem A4 {tg l:Expr}(hl:QX X l f):QI X tg l (fiSeq f):=⟨PI.weak (a6N hl.to) fun σ H R h0=>tIe h0 fun P O L ρ xs ρ' r e q=>by
 unfold fiSeq at e;obtain⟨⟨w,ρ1⟩,e1,e⟩:=obs e;dsimp only at e;obtain⟨⟨ds,ρ2⟩,e2,e⟩:=obs e;dsimp only at e;split at e
 ·rename_i d;obtain⟨ys,e3,e⟩:=oms e;cases e;refine⟨P,O,L,ρ,w,ρ1,r,e1,fun v H1 H' r1 s1 d1=>?_⟩;obtain⟨r2,l2,_⟩:=m5 (vs:=[v]) (r1.grow s1) e2 ⟨v,[],rfl,d1.fz r1 s1,rfl⟩;obtain⟨v',ev,h'⟩:=denL1 l2;cases ev;have r3:=r2.more (p:=(d,v)) h';have hh:Holds ((d,v)::P) P:=fun p hp=>zN _ hp;cases d with
  | tup zs=>
   cases e3;have z:=h';rw[Den] at z;obtain⟨a,vs,rfl,hq,l⟩:=z;refine .inr ⟨a,rfl,⟨vs,hq⟩,q _ H' _ r3 hh fun Y O' L' ρ' σ' Hh hY rr=>?_⟩;have z:=rr.head;rw[hY] at z;rw[Den] at z;obtain⟨a',vs,ea,hq,l⟩:=z;cases ea;refine⟨fun i x ex=>?_,vs,hq,by rw[<-b4 l];exact zE _⟩
   obtain⟨v0,hv,dv⟩:=t5 l ex;exact⟨⟨vs,v0,hq,hv⟩,fun w H' ⟨y1,y2⟩=>by subst y1;have:=y2 vs hq;rw[hv] at this;cases this;exact⟨Same.refl _,dv⟩⟩
  | lst zs=>
   cases e3;obtain⟨a,vs,rfl,hq,l⟩:=B6 h';refine .inl ⟨a,rfl,⟨vs,hq⟩,q _ H' _ r3 hh fun Y O' L' ρ' σ' Hh hY rr=>?_⟩;have z:=rr.head;rw[hY] at z;obtain⟨a',vs,ea,hq,l⟩:=B6 z;cases ea;refine⟨fun i x ex=>?_,vs,hq,by rw[<-b4 l];exact zE _⟩
   obtain⟨v0,hv,dv⟩:=t5 l ex;exact⟨⟨vs,v0,hq,hv⟩,fun w H' ⟨y1,y2⟩=>by subst y1;have:=y2 vs hq;rw[hv] at this;cases this;exact⟨Same.refl _,dv⟩⟩
  | _=>cases e3
 ·cases e⟩
def rngD (lo:Int) (n:Nat):List D:=(List.range n).map fun(i:Nat)=>D.int (lo+i)
theorem a0S {K:PySem.W.Frag}{P:List (D×V)}(lo:Int)(n:Nat):Wks K P (rngD lo n) (Itr lo n):=fun Y O L ρ σ H _ _=>by
 unfold rngD;refine⟨fun i x ex=>?_,by show(List.length _)≥n;simp⟩
 rw[zW] at ex
 by_cases hi:i<n
 ·rw[xO hi] at ex;cases ex;exact⟨hi,fun v H' ⟨y1,y2⟩=>by subst y1;exact⟨Same.refl _,q8.mpr y2⟩⟩
 ·rw[qS (by simpa using hi)] at ex;cases ex
def fiR1 (fa:FA):FI:=fun ρ=>(fa ρ).bind fun p=>match p.1 with
 | [.v (.int n)]=>if -(2^62)<=n/\n<2^62 then some (rngD 0 n.toNat,p.2) else none
 | _=>none
theorem B8 {tg:Expr}{p:Pos}(hm:X.mg "range"=none)(ha:QA X [a] fa)(hg:Gl X "range":=by rfl)(hs:starEach [a] X.env=[(false,eval a X.env)]:=by rfl):QI X tg (.Call (.Name "range" p) [a] [] pos) (fiR1 fa):=⟨PI.weak (a4Y hg hm ha.to hs) fun σ H R h0=>tIe h0 fun P O L ρ xs ρ' r e q=>by
 unfold fiR1 at e;obtain⟨⟨ws,ρ1⟩,e1,e⟩:=obs e;dsimp only at e;split at e
 ·rename_i n;split at e
  ·rename_i hn;cases e;refine⟨P,O,L,ρ,_,_,r,e1,fun vs H1 r1 l1=>?_⟩;obtain⟨v,rs,rfl,h1,l1⟩:=l1;have l1:rs=[]:=l1;have h1:Den X.K (AvO O ρ' σ) H1 (.int n) v:=h1;subst l1;exact⟨n,by rw[q8.mp h1],hn.1,hn.2,q _ H1 P r1 (fun p hp=>hp) (a0S 0 _)⟩
  ·cases e
 ·cases e⟩
def fiR2 (fa:FA):FI:=fun ρ=>(fa ρ).bind fun p=>match p.1 with
 | [.v (.int m),.v (.int n)]=>if(-(2^62)<=m/\m<2^62)/\-(2^62)<=n/\n<2^62 then some (rngD m (n-m).toNat,p.2) else none
 | _=>none
theorem a8B {tg:Expr}{p:Pos}(hm:X.mg "range"=none)(ha:QA X [a,b] fa)(hg:Gl X "range":=by rfl)(hs:starEach [a,b] X.env=[(false,eval a X.env),(false,eval b X.env)]:=by rfl)(hs2:starEach [b] X.env=[(false,eval b X.env)]:=by rfl):QI X tg (.Call (.Name "range" p) [a,b] [] pos) (fiR2 fa):=⟨PI.weak (a4E hg hm ha.to hs hs2) fun σ H R h0=>tIe h0 fun P O L ρ xs ρ' r e q=>by
 unfold fiR2 at e;obtain⟨⟨ws,ρ1⟩,e1,e⟩:=obs e;dsimp only at e;split at e
 ·rename_i m n;split at e
  ·rename_i hn;cases e;refine⟨P,O,L,ρ,_,_,r,e1,fun vs H1 r1 l1=>?_⟩;obtain⟨v,rs,rfl,h1,u,rs',rfl,h2,l1⟩:=l1;have l1:rs'=[]:=l1;have h1:Den X.K (AvO O ρ' σ) H1 (.int m) v:=h1;have h2:Den X.K (AvO O ρ' σ) H1 (.int n) u:=h2;subst l1;exact⟨m,n,by rw[q8.mp h1,q8.mp h2],⟨hn.1.1,hn.1.2,hn.2.1,hn.2.2⟩,q _ H1 P r1 (fun p hp=>hp) (a0S m _)⟩
  ·cases e
 ·cases e⟩
def loopF (b:D->FS):List D->Ev->Option R
 | [],ρ=>some (.nx ρ)
 | x::xs,ρ=>(b x ρ).bind fun r=>match r with
  | .nx ρ'=>loopF b xs ρ'
  | .ct ρ'=>loopF b xs ρ'
  | .bk ρ'=>some (.nx ρ')
  | .rt d ρ'=>some (.rt d ρ')
def turnF (gf:FG) (b:FS):D->FS:=fun x ρ=>(gf x ρ).bind b
def fFor (fi:FI) (gf:FG) (b:FS):FS:=fun ρ=>(fi ρ).bind fun p=>loopF (turnF gf b) p.1 p.2
theorem p8 {tg iter:Expr}{fi:FI}{gf:FG}(hp:PassesOwn (model X.prog X.w) X.A X.env X.xe)(hc:X.calm=true)(hi:QI X tg iter fi)(hg:QG X tg gf)(hb:QSs X body F)(hs:∀x,foldedSetIterable iter X.env x=pure x:=by intro _;rfl):
  QS X (.For tg iter body [] pos) (fFor fi gf F):=by
 obtain⟨g,pg,kg⟩:=hg.to;refine⟨PS.weak (a9C hp hc hi.to pg hb.to hs) fun E σ H h0=>tSe h0 fun P O L ρ r rp e q=>?_⟩;unfold fFor at e;obtain⟨⟨xs,ρ1⟩,e1,e⟩:=obs e;dsimp only at e;refine⟨P,O,L,ρ,xs,ρ1,rp,e1,fun J H1 P' r1 hh wk=>?_⟩;refine⟨fun i m σ H=>m=xs.length-i/\i<=xs.length/\∃ρ,Rep X P' O L ρ σ H/\loopF (turnF gf F) (xs.drop i) ρ=some r,⟨xs.length,by simp,jW _,ρ1,r1,by simpa using e⟩,?_⟩
 rintro i m σ H ⟨rfl,hi,ρ,rp,e⟩;obtain⟨wi,ws⟩:=wk X O L ρ σ H rfl rp
 by_cases hlt:i<xs.length
 ·obtain⟨go,yl⟩:=wi i xs[i] (by simp[hlt])
  refine .inr ⟨go,fun σ' H'=>∃ρ,Rep X P' O L ρ σ' H'/\loopF (turnF gf F) (xs.drop (i+1)) ρ=some r,fun σ' H' h=>⟨xs.length-(i+1),by omega,rfl,hlt,h⟩,fun v H' y=>?_⟩
  obtain⟨sm,dv⟩:=yl v H' y;rw[xL hlt,loopF] at e;cases e1:turnF gf F xs[i] ρ with
  | none=>rw[e1] at e;cases e
  | some r1=>
   rw[e1] at e;simp only[bind_some] at e;unfold turnF at e1;obtain⟨ρ1,e2,e1⟩:=obs e1;refine kg P' O L xs[i] v ρ ρ1 σ _ _ (rp.grow sm) dv e2 fun σ' H2 rp'=>⟨P',O,L,ρ1,r1,rp',e1,?_⟩;cases r1 with
   | nx ρ2=>exact fun σ2 H2 rp2=>⟨ρ2,rp2,e⟩
   | ct ρ2=>exact fun σ2 H2 rp2=>⟨ρ2,rp2,e⟩
   | bk ρ2=>cases e;exact fun σ2 H2 rp2=>q σ2 H2 (rp2.holds hh)
   | rt d ρ2=>cases e;exact q
 ·have ei:i=xs.length:=by omega
  subst ei;rw[List.drop_length,loopF] at e;cases e;exact .inl ⟨ws,q σ H (rp.holds hh)⟩
end
def spF (K:PySem.W.Frag) (g:List D->Option W):Sp:=fun vs H Q _=>∃(A:Av) (ds:List D) (w:W),(∀b,A b->∃o,H b=some o)/\DenL K A H ds vs/\g ds=some w/\∀v H',Same H H'->DenW K A [] H H' w v->Q v H'
def spL (K:PySem.W.Frag) (g:D->List D->Option (W×D)):Sp:=fun vs H Q _=>∃(A:Av) (a:Addr) (c:D) (ds:List D) (us:List V) (w:W) (c':D),vs= .ref a::us/\(∀b,A b->∃o,H b=some o)/\¬A a/\Obj K (fun b=>A b\/b=a) H a c/\DenL K (fun b=>A b\/b=a) H ds us/\g c ds=some (w,c')/\
 ∀v H',(∀b o,H b=some o->b≠a->H' b=some o)->Obj K (fun b=>A b\/b=a) H' a c'->DenW K (fun b=>A b\/b=a) [] H H' w v->Q v H'
structure FnS (P:Program) (w:World) (K:PySem.W.Frag) (mg:Str->Option Value) (base:Heap) (x:Str) (k:Nat) (sp:Sp):Prop where
 ex:∃(f:Addr) (fd:FuncData) (ps:List Str),FnOk P w K mg base CX0 k f fd ps sp/\Binds K fd ps []/\PySem.W.keepIn K (.ref f)=true/\mg x=some (.ref f)
abbrev Fn (P:Program) (w:World) (K:PySem.W.Frag) (mg:Str->Option Value) (base:Heap) (x:Str) (k:Nat) (g:List D->Option W):Prop:=FnS P w K mg base x k (spF K g)
abbrev FnL (P:Program) (w:World) (K:PySem.W.Frag) (mg:Str->Option Value) (base:Heap) (x:Str) (k:Nat) (g:D->List D->Option (W×D)):Prop:=FnS P w K mg base x k (spL K g)
section
variable {P:Program}{w:World}{K:PySem.W.Frag}{mg:Str->Option Value}{base:Heap}{x:Str}{j k:Nat}
theorem FnS.mono {sp:Sp}(F:FnS P w K mg base x j sp)(h:j<=k):FnS P w K mg base x k sp:=by
 obtain⟨f,fd,ps,a,b,c,d⟩:=F.ex;exact⟨f,fd,ps,a.mono h,b,c,d⟩
end
def lfC:D->Bool
 | .lst xs=>lfL xs
 | .dT _ xs=>lfL xs
 | .dK _ xs=>lfL xs
 | _=>false
def lfW:W->Bool
 | .v d=>lf d
 | .o d=>lfC d
 | _=>false
def frzL:List W->Ev->Option Ev
 | [],ρ=>some ρ
 | .r i::ws,ρ=>(frzAt ρ i).bind (frzL ws)
 | _::ws,ρ=>frzL ws ρ
def fDef (g:List D->Option W) (fa:FA):FX:=fun ρ=>(fa ρ).bind fun p=>(drs p.2 p.1).bind fun ds=>(g ds).bind fun w=>if lfW w=true then some (w,p.2) else(frzL p.1 p.2).map fun ρ2=>(w,ρ2)
def noR (i:Nat):List W->Bool
 | []=>true
 | .r j::ws=>i != j&&noR i ws
 | _::ws=>noR i ws
def fDefL (g:D->List D->Option (W×D)) (fa:FA):FX:=fun ρ=>(fa ρ).bind fun p=>match p.1 with
 | .r i::ws=>(ownAt p.2 i).bind fun c=>(drs p.2 ws).bind fun ds=>(g c ds).bind fun z=>if noR i ws=true/\lfC z.2=true then(if lfW z.1=true then some (z.1,setOwn p.2 i z.2) else(frzL ws (setOwn p.2 i z.2)).map fun ρ2=>(z.1,ρ2)) else none
 | _=>none
section
variable {K:PySem.W.Frag}{A A':Av}{H H':Hp}
theorem M9 (g:∀b o,H b=some o->¬Mu o->H' b=some o){a:Addr}{d:D}(f:lfC d=true)(hk:H' a=H a)(h:Obj K A H a d):Obj K A' H' a d:=by
 cases d with
 | lst xs=>obtain⟨vs,e,l⟩:=h;exact⟨vs,hk.trans e,R3 g _ _ f l⟩
 | dT ks xs=>obtain⟨vs,e,hl,l⟩:=h;exact⟨vs,hk.trans e,hl,R3 g _ _ f l⟩
 | dK ks xs=>obtain⟨vs,e,hl,l⟩:=h;exact⟨vs,hk.trans e,hl,R3 g _ _ f l⟩
 | _=>exact h.elim
end
section
variable {X:Cx}{P:List (D×V)}{O:Av}{L:List (Option Nat×Addr)}{ρ ρ':Ev}{σ:L2.St}{H:Hp}
theorem E9:∀{ws:List W} {ρ ρ':Ev},Rep X P O L ρ σ H->frzL ws ρ=some ρ'->Rep X P O L ρ' σ H/\∀(j:Nat) (w:W) (d:D),ρ'[j]? =some (some w)->w.own=some d->ρ[j]? =some (some w)/\W.r j∉ws
 | [],ρ,ρ',r,e=>by cases e;exact⟨r,fun j w d e1 _=>⟨e1,by simp⟩⟩
 | .r i::ws,ρ,ρ',r,e=>by
  rw[frzL] at e;obtain⟨ρ1,e1,e⟩:=obs e;obtain⟨r1,k1⟩:=r.frz e1;obtain⟨r2,k2⟩:=E9 r1 e;refine⟨r2,fun j w d e1 e2=>?_⟩;obtain⟨a1,a2⟩:=k2 j w d e1 e2;obtain⟨b1,b2⟩:=k1 j w d a1 e2;exact⟨b1,fun z=>(zO.mp z).elim (fun z=>by cases z;exact b2 rfl) a2⟩
 | .v _::ws,ρ,ρ',r,e=>by
  obtain⟨r2,k2⟩:=E9 (ws:=ws) r e;exact⟨r2,fun j w d e1 e2=>⟨(k2 j w d e1 e2).1,fun z=>(zO.mp z).elim (fun z=>by cases z) (k2 j w d e1 e2).2⟩⟩
 | .o _::ws,ρ,ρ',r,e=>by
  obtain⟨r2,k2⟩:=E9 (ws:=ws) r e;exact⟨r2,fun j w d e1 e2=>⟨(k2 j w d e1 e2).1,fun z=>(zO.mp z).elim (fun z=>by cases z) (k2 j w d e1 e2).2⟩⟩
 | .l _::ws,ρ,ρ',r,e=>by
  obtain⟨r2,k2⟩:=E9 (ws:=ws) r e;exact⟨r2,fun j w d e1 e2=>⟨(k2 j w d e1 e2).1,fun z=>(zO.mp z).elim (fun z=>by cases z) (k2 j w d e1 e2).2⟩⟩
def Handed (ρ:Ev) (σ:L2.St) (ws:List W) (b:Addr):Prop:=∃(i:Nat) (w:W) (d:D),W.r i∈ws/\ρ[i]? =some (some w)/\w.own=some d/\σ[i]? =some (some (V.ref b))
theorem U3 {B:Av}(r:Rep X P O L ρ σ H)(hB:∀b,B b->AvO O ρ σ b):∀{ws:List W} {ds:List D} {vs:List V},(∀b,B b->¬Handed ρ σ ws b)->drs ρ ws=some ds->DenA X.K (AvO O ρ σ) σ H ws vs->DenL X.K B H ds vs
 | [],ds,vs,n,e,h=>by cases e;have h:vs=[]:=h;subst h;exact g8
 | w::ws,ds,vs,n,e,h=>by
  obtain⟨v,rs,rfl,h1,h2⟩:=h;rw[drs] at e;cases e1:dr ρ w with
  | none=>rw[e1] at e;cases e
  | some d=>
   cases e2:drs ρ ws with
   | none=>rw[e1,e2] at e;cases e
   | some dd=>
    rw[e1,e2] at e;cases e;refine e8 ?_ (U3 r hB (fun b z y=>n b z (let ⟨i,w,d,m,q⟩:=y;⟨i,w,d,zN _ m,q⟩)) e2 h2);cases w with
    | v c=>cases e1;exact l5 (n9 hB) _ _ h1
    | r i=>
     have h1:σ[i]? =some (some v):=h1;rw[dr] at e1;cases q:ρ[i]? with
     | none=>rw[q] at e1;cases e1
     | some o=>
      rw[q] at e1;cases o with
      | none=>cases e1
      | some w'=>
       cases w' with
       | v c=>
        cases e1;obtain⟨u,q1,q2⟩:=r.slot i _ q;rw[h1] at q1;cases q1;exact l5 (n9 hB) _ _ q2
       | _=>
        obtain⟨a,q1,q2⟩:=r.obj q e1;rw[h1] at q1;cases q1;exact P4 (p7 (n9 hB) rfl q2) fun z=>n a z ⟨i,_,d,zR,q,e1,h1⟩
    | _=>cases e1
theorem N8 {ws:List W}(r:Rep X P O L ρ σ H)(k:∀(j:Nat) (w:W) (d:D),ρ'[j]? =some (some w)->w.own=some d->ρ[j]? =some (some w)/\W.r j∉ws){b:Addr}(z:AvO O ρ' σ b):AvO O ρ σ b/\¬Handed ρ σ ws b:=by
 refine⟨z.imp id fun⟨j,w,d,e1,e2,e3⟩=>⟨j,w,d,(k j w d e1 e2).1,e2,e3⟩,fun⟨i,w,d,m,q1,q2,q3⟩=>?_⟩;rcases z with z|⟨j,w',d',e1,e2,e3⟩
 ·exact r.ambN z ⟨i,w,d,q1,q2,q3⟩
 ·obtain⟨a1,a2⟩:=k j w' d' e1 e2
  have:=r.inj i j w w' d d' b q1 q2 q3 a1 e2 e3
  subst this;exact a2 m
end
section
variable {X:Cx}{e:Expr}{es:List Expr}{pos p:Pos}{fa:FA}{x:Str}{k:Nat}
theorem C0 {g:List D->Option W}(F:Fn X.prog X.w X.K X.mg X.base x k g)(hr:Room k X.A)(ha:QA X (e::es) fa)(hg:Gl X x:=by rfl)(hdb:(x==("__debug__":Str))=false:=by decide)
  (he:starEach (e::es) X.env=(false,eval e X.env)::starEach es X.env:=by rfl) (hpl:(backTo pos (starEach es X.env)).any (·.1)=false:=by rfl):QX X (.Call (.Name x p) (e::es) [] pos) (fDef g fa):=by
 obtain⟨f,fd,ps,F,b,kp,hm⟩:=F.ex;refine⟨PE.weak (a3O F hr hg hm kp b .nil pass0 ha.to hdb he hpl) fun σ H Q h0=>tXe h0 fun P O L ρ w ρ' r e q=>?_⟩;unfold fDef at e;obtain⟨⟨ws,ρ1⟩,e1,e⟩:=obs e;dsimp only at e;cases e2:drs ρ1 ws with
 | none=>rw[e2] at e;cases e
 | some ds=>
  rw[e2] at e;simp only[bind_some] at e;cases e3:g ds with
  | none=>rw[e3] at e;cases e
  | some w1=>
   rw[e3] at e;simp only[bind_some] at e;refine⟨P,O,L,ρ,ws,ρ1,r,e1,fun vs H1 r1 l1=>?_⟩;refine⟨fun b=>AvO O ρ1 σ b/\¬Handed ρ1 σ ws b,ds,w1,fun b z=>r1.there z.1,by rw[append_nil];exact U3 r1 (fun b z=>z.1) (fun b z=>z.2) e2 l1,e3,fun v H2 s2 d2=>?_⟩
   split at e
   ·rename_i hl;cases e;refine q v H1 H2 r1 s2 ?_;cases w with
    | v d=>exact a2D (fun _ _ e _=>e) _ _ hl d2
    | o d=>obtain⟨a,ev,hn,ob⟩:=d2;exact⟨a,ev,hn,M9 (fun _ _ e _=>e) hl rfl ob⟩
    | _=>cases hl
   ·obtain⟨ρ2,e4,e⟩:=oms e;cases e;obtain⟨r2,k2⟩:=E9 r1 e4;refine q v H1 H2 r2 s2 ?_;have sub:=fun b (z:AvO O ρ' σ b)=>N8 r1 k2 z;cases w with
    | v d=>exact l5 (n9 sub) _ _ d2
    | o d=>obtain⟨a,ev,hn,ob⟩:=d2;exact⟨a,ev,hn,p7 (n9 fun b z=>z.imp (sub b) id) rfl ob⟩
    | r i=>exact absurd d2 (by simp[DenW])
    | l d=>exact d2.elim
theorem L5 {i:Nat}:∀{ws:List W},noR i ws=true->W.r i∉ws
 | [],_=>by simp
 | .r j::ws,h=>by
  rw[noR,jV] at h;exact fun z=>(zO.mp z).elim (fun z=>by cases z;simp at h) (L5 h.2)
 | .v _::ws,h=>fun z=>(zO.mp z).elim (fun z=>by cases z) (L5 (ws:=ws) h)
 | .o _::ws,h=>fun z=>(zO.mp z).elim (fun z=>by cases z) (L5 (ws:=ws) h)
 | .l _::ws,h=>fun z=>(zO.mp z).elim (fun z=>by cases z) (L5 (ws:=ws) h)
theorem j3 {g:D->List D->Option (W×D)}(F:FnL X.prog X.w X.K X.mg X.base x k g)(hr:Room k X.A)(ha:QA X (e::es) fa)(hg:Gl X x:=by rfl)(hdb:(x==("__debug__":Str))=false:=by decide)
  (he:starEach (e::es) X.env=(false,eval e X.env)::starEach es X.env:=by rfl) (hpl:(backTo pos (starEach es X.env)).any (·.1)=false:=by rfl):QX X (.Call (.Name x p) (e::es) [] pos) (fDefL g fa):=by
 obtain⟨f,fd,ps,F,b,kp,hm⟩:=F.ex;refine⟨PE.weak (a3O F hr hg hm kp b .nil pass0 ha.to hdb he hpl) fun σ H Q h0=>tXe h0 fun P O L ρ w ρ' r e q=>?_⟩;unfold fDefL at e;obtain⟨⟨ws0,ρ1⟩,e1,e⟩:=obs e;dsimp only at e;split at e
 ·rename_i i ws;cases e0:ownAt ρ1 i with
  | none=>rw[e0] at e;cases e
  | some c=>
   rw[e0] at e;simp only[bind_some] at e;cases e2:drs ρ1 ws with
   | none=>rw[e2] at e;cases e
   | some ds=>
    rw[e2] at e;simp only[bind_some] at e;obtain⟨⟨w1,c'⟩,e3,e⟩:=obs e;dsimp only at e;split at e
    ·rename_i hc;refine⟨P,O,L,ρ,_,ρ1,r,e1,fun vs H1 r1 l1=>?_⟩;obtain⟨v0,us,rfl,h0,l1⟩:=l1;have h0:σ[i]? =some (some v0):=h0;obtain⟨w0,q0,ow⟩:=m3 e0;obtain⟨a,h1,ob⟩:=r1.obj q0 ow;rw[h0] at h1;cases h1;have ia:Ow ρ1 σ a:=⟨i,w0,c,q0,ow,h0⟩;have nh:¬Handed ρ1 σ ws a:=fun⟨j,w',d',m,q1,q2,q3⟩=>by
      have:=r1.inj i j w0 w' c d' a q0 ow h0 q1 q2 q3
      subst this;exact L5 hc.1 m
     have sub:∀b,((AvO O ρ1 σ b/\b≠a/\¬Handed ρ1 σ ws b)\/b=a)->AvO O ρ1 σ b:=fun b z=>z.elim (·.1) fun z=>by rw[z];exact .inr ia
     refine⟨fun b=>AvO O ρ1 σ b/\b≠a/\¬Handed ρ1 σ ws b,a,c,ds,us,w1,c',by rw[append_nil],fun b z=>r1.there z.1,fun z=>z.2.1 rfl,p7 (n9 sub) rfl ob,
      U3 r1 sub (fun b z=>z.elim (·.2.2) fun z=>by rw[z];exact nh) e2 l1,e3,fun v H2 k2 o2 d2=>?_⟩
     have main:∃Hx,Same Hx H2/\Rep X P O L (setOwn ρ1 i c') σ Hx/\∀A':Av,((∀b,A' b->((AvO O ρ1 σ b/\b≠a/\¬Handed ρ1 σ ws b)\/b=a))\/lfW w1=true)->DenW X.K A' σ Hx H2 w1 v:=by
      cases w1 with
      | v d=>
       refine⟨H2,Same.refl _,r1.mut e0 h0 k2 (M9 (fun _ _ e _=>e) hc.2 rfl o2),fun A' h=>?_⟩;rcases h with h|h
       ·exact l5 (n9 h) _ _ d2
       ·exact a2D (fun _ _ e _=>e) _ _ h d2
      | o d=>
       obtain⟨ar,ev,hn,obr⟩:=d2;obtain⟨u0,eu0,_⟩:=A9 ob;obtain⟨ur,eur,mur⟩:=A9 obr;have na:a≠ar:=fun z=>by rw[z,hn] at eu0;cases eu0
       refine⟨fun b=>if b=ar then none else H2 b,fun b o eb=>?_,r1.mut e0 h0 (fun b o eb nb=>?_) (M9 (fun b o eb nm=>?_) hc.2 (if_neg na) o2),fun A' h=>⟨ar,ev,if_pos rfl,?_⟩⟩
       ·dsimp only at eb;split at eb
        ·cases eb
        ·exact eb
       ·have:b≠ar:=fun z=>by rw[z,hn] at eb;cases eb
        show(if b=ar then none else H2 b)=some o;rw[if_neg this];exact k2 b o eb nb
       ·have:b≠ar:=fun z=>by rw[z,eur] at eb;cases eb;exact nm mur
        show(if b=ar then none else H2 b)=some o;rw[if_neg this];exact eb
       ·rcases h with h|h
        ·exact p7 (n9 fun b z=>z.imp (h b) id) rfl obr
        ·exact M9 (fun _ _ e _=>e) h rfl obr
      | r i=>exact absurd d2 (by simp[DenW])
      | l d=>exact d2.elim
     obtain⟨Hx,sx,rx,dx⟩:=main;split at e
     ·rename_i hl;cases e;exact q v Hx H2 rx sx (dx _ (.inr hl))
     ·obtain⟨ρ2,e4,e⟩:=oms e;cases e;obtain⟨r2,k3⟩:=E9 rx e4;refine q v Hx H2 r2 sx (dx _ (.inl fun b z=>?_));obtain⟨z1,z2⟩:=N8 rx k3 z
      by_cases hb:b=a
      ·exact .inr hb
      ·refine .inl ⟨z1.imp id fun z=>(L7 e0 b).mp z,hb,fun⟨j,w',d',m,q1,q2,q3⟩=>z2 ?_⟩;have hj:i≠j:=fun z=>by subst z;exact L5 hc.1 m
       obtain⟨w2,_,es,_⟩:=N1 (d:=c') e0;exact⟨j,w',d',m,by rw[es,zX hj];exact q1,q2,q3⟩
    ·cases e
 ·cases e
end
def start0 (n:Nat) (ds:List D):Ev:=ds.map (fun d=>some (.v d))++List.replicate (n-ds.length) none
def runD (np n:Nat) (G:FS):List D->Option W:=fun ds=>if ds.length=np then match G (start0 n ds) with
 | some (.rt w _)=>some w
 | some (.nx _)=>some (.v .non)
 | _=>none else none
def runL (np n:Nat) (G:FS):D->List D->Option (W×D):=fun c ds=>if ds.length+1=np then match G (some (.l c)::start0 (n-1) ds) with
 | some (.rt w ρ)=>(ownAt ρ 0).map fun c'=>(w,c')
 | some (.nx ρ)=>(ownAt ρ 0).map fun c'=>(.v .non,c')
 | _=>none else none
section
variable {P:Program}{w:World}{K:PySem.W.Frag}{mg:Str->Option Value}{base:Heap}
theorem r6 {n i:Nat}{ds:List D}{w:W}(e:(start0 n ds)[i]? =some (some w)):∃d,ds[i]? =some d/\w= .v d:=by
 unfold start0 at e
 by_cases hi:i<ds.length
 ·rw[zQ (by simpa using hi),zW] at e
  cases q:ds[i]? with
  | none=>rw[q] at e;cases e
  | some d0=>rw[q] at e;cases e;exact⟨d0,rfl,rfl⟩
 ·rw[zT (by simpa using hi),List.getElem?_replicate] at e
  split at e<;>cases e
theorem a04 {X:Cx}{ds:List D}{vs:List V}{n:Nat}{N:List Str}{H:Hp}{A:Av}(hH:X.H₀=H)(hN:N.length=n)(hA:∀b,A b->∃o,H b=some o)(l:DenL X.K A H ds vs):Rep X [] A [] (start0 n ds) (start N vs) H where
 same:=fun b o e _=>by rw[<-hH];exact e
 amb:=fun b z=>by rw[hH];exact⟨hA b z,fun i=>by simp⟩
 len:=by unfold start0 L2.start;simp[b4 l,hN]
 slot:=fun i w e=>by
  obtain⟨d,q,rfl⟩:=r6 e;obtain⟨v,h1,h2⟩:=t5 l q;refine⟨v,?_,l5 (n9 fun b z=>?_) _ _ h2⟩
  ·unfold L2.start;rw[zQ (by have:=(zK.mp h1).1;simpa using this),zW,h1];rfl
  ·rcases z with z|⟨j,w,c,e1,e2,e3⟩
   ·exact z
   ·obtain⟨d',q',rfl⟩:=r6 e1;cases e2
 inj:=fun i j w w' d d' b e1 e2=>by obtain⟨_,_,rfl⟩:=r6 e1;cases e2
 new:=fun i d b e=>by obtain⟨_,_,z⟩:=r6 e;cases z
 lnt:=fun i d e=>by obtain⟨_,_,z⟩:=r6 e;cases z
 lnd:=fun i b e=>by simp at e
 prot:=fun p hp=>by cases hp
 gvl:=fun b e=>by simp at e
theorem a2S {X:Cx}{c:D}{a:Addr}{ds:List D}{vs:List V}{n:Nat}{N:List Str}{H:Hp}{A:Av}(hH:X.H₀=H)(hN:N.length=n+1)(hA:∀b,A b->∃o,H b=some o)(hn:¬A a)(ob:Obj X.K (fun b=>A b\/b=a) H a c)(l:DenL X.K (fun b=>A b\/b=a) H ds vs):
  Rep X [] A [(some 0,a)] (some (.l c)::start0 n ds) (start N (.ref a::vs)) H:=by
 have es:start N (.ref a::vs)=some (.ref a)::(vs.map some++List.replicate (n-vs.length) none):=by unfold L2.start;simp[hN]
 have own:∀{i:Nat} {w:W} {d:D},(some (.l c)::start0 n ds)[i]? =some (some w)->w.own=some d->i=0:=fun{i w d} e1 e2=>by
  cases i with
  | zero=>rfl
  | succ i=>rw[qX] at e1;obtain⟨_,_,rfl⟩:=r6 e1;cases e2
 have av:∀b,AvO A (some (.l c)::start0 n ds) (start N (.ref a::vs)) b->A b\/b=a:=fun b z=>z.imp id fun⟨i,w,d,e1,e2,e3⟩=>by
  have:=own e1 e2
  subst this;rw[es] at e3;cases e3;rfl
 refine⟨fun b o e _=>by rw[<-hH];exact e,fun b z=>⟨by rw[hH];exact hA b z,fun i m=>?_⟩,by rw[es];unfold start0;simp[b4 l],fun i w e=>?_,fun i j w w' d d' b e1 e2 _ e3 e4 _=>(own e1 e2).trans (own e3 e4).symm,fun i d b e=>?_,fun i d e=>?_,fun i b e=>?_,(fun p hp=>by cases hp),fun b _=>⟨0,a,qA.mpr rfl⟩⟩
 ·rw[qA] at m;cases m;exact hn z
 ·cases i with
  | zero=>cases e;exact⟨.ref a,by rw[es];rfl,a,rfl,p7 (n9 av) rfl ob⟩
  | succ i=>
   rw[qX] at e;obtain⟨d,q,rfl⟩:=r6 e;obtain⟨v,h1,h2⟩:=t5 l q;refine⟨v,?_,l5 (n9 av) _ _ h2⟩;rw[es,qX,zQ (by have:=(zK.mp h1).1;simpa using this),zW,h1];rfl
 ·cases i with
  | zero=>cases e
  | succ i=>rw[qX] at e;obtain⟨_,_,z⟩:=r6 e;cases z
 ·have:=own e rfl
  subst this;exact⟨a,by rw[es];rfl,by simp⟩
 ·rw[qA] at e;cases e;exact⟨c,rfl,by rw[es];rfl⟩
theorem Q3 {x:Str}{st:Stmt}{f:Addr}{fd:FuncData}{N ps:List Str}{k np n:Nat}{G:FS}(F:Fun K x x st f fd)(S:FnScope N ps (defScope st))(B:Binds K fd ps [])(hm:mg x=some (.ref f))(hp:ps.length=np)(hn:N.length=n)
  (body:∀(cdv:Value) (A:Around) (outer:List Env) (s:Shared) (H:Hp) (E:XK),Room k (A.deeper (envOfC x (defScope st) s.heap.objs.size f cdv))->
   QSs (cxOf CX0 P w K mg base N x (defScope st) f cdv A outer s H E).nox (defBody st) G):Fn P w K mg base x (k+1) (runD np n G):=by
 refine⟨f,fd,ps,F.ok S (fun vs H Q E h0=>?_) (fun cdv A outer s H vs Q E hr h0=>⟨_,(body cdv A outer s H E hr).to,?_⟩),B,F.kp,hm⟩
 ·obtain⟨A,ds,d,hA,l,e,q⟩:=h0;unfold runD at e;split at e
  ·rename_i hl;rw[<-b4 l,hl,hp]
  ·cases e
 ·obtain⟨A',ds,d,hA,l,e,q⟩:=h0;unfold runD at e;split at e
  ·rename_i hl;cases e1:G (start0 n ds) with
   | none=>rw[e1] at e;cases e
   | some r=>
    rw[e1] at e;refine⟨[],A',[],_,r,a04 rfl hn hA l,e1,?_⟩;have hz:∀{w:W} {v:V} {H':Hp},DenW K (A0 A' []) [] H H' w v->DenW K A' [] H H' w v:=fun{w v H'} h=>by
     have e0:A0 A' []=A':=funext fun b=>propext ⟨fun z=>z.elim id fun⟨i,z⟩=>by simp at z,.inl⟩
     rw[e0] at h;exact h
    cases r with
    | rt w ρ'=>cases e;exact fun v H' s' _ d1=>q v H' (fun b o eb=>s' b o eb fun i=>by simp) (hz d1)
    | nx ρ'=>cases e;exact fun σ' H' rp'=>q .non H' (fun b o eb=>rp'.same b o eb fun i=>by simp) O5
    | bk ρ'=>cases e
    | ct ρ'=>cases e
  ·cases e
theorem V4 {x:Str}{st:Stmt}{f:Addr}{fd:FuncData}{N ps:List Str}{k np n:Nat}{G:FS}(F:Fun K x x st f fd)(S:FnScope N ps (defScope st))(B:Binds K fd ps [])(hm:mg x=some (.ref f))(hp:ps.length=np)(hn:N.length=n+1)
  (body:∀(cdv:Value) (A:Around) (outer:List Env) (s:Shared) (H:Hp) (E:XK),Room k (A.deeper (envOfC x (defScope st) s.heap.objs.size f cdv))->
   QSs (cxOf CX0 P w K mg base N x (defScope st) f cdv A outer s H E).nox (defBody st) G):FnL P w K mg base x (k+1) (runL np (n+1) G):=by
 refine⟨f,fd,ps,F.ok S (fun vs H Q E h0=>?_) (fun cdv A outer s H vs Q E hr h0=>⟨_,(body cdv A outer s H E hr).to,?_⟩),B,F.kp,hm⟩
 ·obtain⟨A,a,c,ds,us,w,c',e0,hA,hna,ob,l,e,q⟩:=h0;unfold runL at e;split at e
  ·rename_i hl;rw[e0,qL,<-b4 l,hl,hp]
  ·cases e
 ·obtain⟨A',a,c,ds,us,w,c',e0,hA,hna,ob,l,e,q⟩:=h0;subst e0;unfold runL at e;split at e
  ·rename_i hl;rw[Nat.add_sub_cancel] at e;cases e1:G (some (.l c)::start0 n ds) with
   | none=>rw[e1] at e;cases e
   | some r=>
    rw[e1] at e;refine⟨[],A',[(some 0,a)],_,r,a2S rfl hn hA hna ob l,e1,?_⟩;have ea:A0 A' [(some 0,a)]=fun b=>A' b\/b=a:=funext fun b=>propext (or_congr Iff.rfl ⟨fun⟨i,z⟩=>by rw[qA] at z;cases z;rfl,fun z=>⟨0,by rw[z];exact qA.mpr rfl⟩⟩)
    have nl:∀{b:Addr},b≠a->∀i,(i,b)∉[(some 0,a)]:=fun n i z=>by rw[qA] at z;cases z;exact n rfl
    cases r with
    | rt w0 ρ'=>
     refine fun v H' s' ln d1=>?_;obtain⟨c0,h1,h2⟩:=ln 0 a (qA.mpr rfl);simp only[h1,jJ] at e;cases e;rw[ea] at h2 d1;exact q v H' (fun b o eb n=>s' b o eb (nl n)) h2 d1
    | nx ρ'=>
     refine fun σ' H' rp'=>?_;obtain⟨c0,h1,h2⟩:=rp'.lents 0 a (qA.mpr rfl);simp only[h1,jJ] at e;cases e;rw[ea] at h2;exact q .non H' (fun b o eb n=>rp'.same b o eb (nl n)) h2 O5
    | bk ρ'=>cases e
    | ct ρ'=>cases e
  ·cases e
end
@[elab_as_elim] theorem us1 {α:Type} {C:List α->Prop} {us:List α} (h:us.length=1) (k:∀a,C [a]):C us:=by
 match us,h with
 | [a],_=>exact k a
@[elab_as_elim] theorem us2 {α:Type} {C:List α->Prop} {us:List α} (h:us.length=2) (k:∀a b,C [a,b]):C us:=by
 match us,h with
 | [a,b],_=>exact k a b
@[elab_as_elim] theorem us3 {α:Type} {C:List α->Prop} {us:List α} (h:us.length=3) (k:∀a b c,C [a,b,c]):C us:=by
 match us,h with
 | [a,b,c],_=>exact k a b c
@[elab_as_elim] theorem us4 {α:Type} {C:List α->Prop} {us:List α} (h:us.length=4) (k:∀a b c d,C [a,b,c,d]):C us:=by
 match us,h with
 | [a,b,c,d],_=>exact k a b c d
section
variable {X:Cx}{a b e:Expr}{es:List Expr}{pos:Pos}{f g h:FX}{t u:FT}
theorem W9 {K:PySem.W.Frag}{A:Av}{H:Hp}{i:Bool}{v:V}(h:DenR K A H (.bl i) v):v= .bl i:=by
 have h:Den K A H (.bl i) v:=h;exact a0a.mp h
theorem a0f {K:PySem.W.Frag}{A:Av}{H:Hp}{i:Str}{v:V}(h:DenR K A H (.str i) v):v= .str i:=by
 have h:Den K A H (.str i) v:=h;exact W8.mp h
theorem X9 {K:PySem.W.Frag}{A:Av}{H:Hp}{v:V}(h:DenR K A H .non v):v= .non:=by
 have h:Den K A H .non v:=h;exact a3i.mp h
def tyD:D->String
 | .non=>"NoneType"
 | .bl _=>"bool"
 | .int _=>"int"
 | .str _=>"str"
 | .tup _=>"tuple"
 | .dT _ _=>"dict"
 | .dK _ _=>"dict"
 | _=>"list"
def isX:D->Bool
 | .exn _=>true
 | _=>false
def isiB (T:String) (d:D):Bool:=tyD d==T||(tyD d == "bool" && T == "int")
def Kit (K:PySem.W.Frag) (T:String):Prop:=∀d:D,PySem.W.kitOne K (.type (tyD d)) (.type T)=some (isiB T d)
theorem M6 {K:PySem.W.Frag}{T:String}(h:T="int"\/T="bool"\/T="str"\/T="tuple"\/T="list"):Kit K T:=by
 rcases h with h|h|h|h|h<;>subst h<;>intro d<;>cases d<;>rfl
theorem a6D {T:String}(hk:Kit X.K T):CallR X (.builtin "isinstance") (fun xs H Q=>∃x A d,xs=[x,.ty T]/\isX d=false/\DenR X.K A H d x/\Q (.bl (isiB T d)) H):=by
 intro pins s σ H xs us Q I r h;obtain⟨x,A,d,rfl,nx,hd,q⟩:=h;obtain⟨u,w,rfl,ru,rw'⟩:=vals2 r;cases(show w=Value.type T from rw');have e:=hk d;have fin:∀tk,EP X pins σ Q (.bool (isiB T d)) {s with toks:=tk}:=fun tk=>⟨.bl _,H,I.tok _,rfl,q⟩
 cases d with
 | non=>have hd:=X9 hd;subst hd;cases(show u=Value.none from ru);exact jZ PySem.W.kitx_none I.kIn True.intro e (fun z=>nomatch z) fin
 | bl y=>have hd:=W9 hd;subst hd;cases(show u=Value.bool y from ru);exact jZ PySem.W.kitx_bool I.kIn True.intro e (fun z=>nomatch z) fin
 | int i=>have hd:=g5 hd;subst hd;obtain⟨t,z⟩:=(show ∃t,u=Value.int i t from ru);cases z;exact jZ PySem.W.kitx_int I.kIn True.intro e (fun z=>nomatch z) fin
 | str y=>have hd:=a0f hd;subst hd;obtain⟨t,z⟩:=(show ∃t,u=Value.str y t from ru);cases z;exact jZ PySem.W.kitx_str I.kIn True.intro e (fun z=>nomatch z) fin
 | tup ys=>
  have hd:Den X.K A H (.tup ys) x:=hd;rw[Den] at hd;obtain⟨a,vs,rfl,hq,_⟩:=hd;cases(show u=Value.ref a from ru);obtain⟨its,_,p,_⟩:=I.tuple hq;obtain⟨o,h1,h2,_⟩:=p;exact jZ PySem.W.kitx_tuple I.kIn ⟨o,h1,h2⟩ e (fun z=>nomatch z) fin
 | lst ys=>
  obtain⟨a,vs,rfl,hq,_⟩:=hd;cases(show u=Value.ref a from ru);obtain⟨its,_,p,_⟩:=I.list hq;obtain⟨o,n,h1,h2,_⟩:=p;exact jZ PySem.W.kitx_list I.kIn ⟨o,h1,h2⟩ e (fun z=>nomatch z) fin
 | dK ks ys=>
  obtain⟨a,vs,rfl,hq,_⟩:=hd;cases(show u=Value.ref a from ru);obtain⟨_,_,vs,_,p⟩:=(show ObjOk X.prog X.w H s.heap a (.dK _) from I.hok a _ hq);obtain⟨o,es,h1,h2,_⟩:=p;exact jZ PySem.W.kitx_dict I.kIn ⟨o,h1,h2.1⟩ e (fun z=>nomatch z) fin
 | dT ks ys=>
  obtain⟨a,vs,rfl,hq,_⟩:=hd;cases(show u=Value.ref a from ru);obtain⟨_,_,xs,_,o,es,h1,h2,_⟩:=(show ObjOk X.prog X.w H s.heap a (.dT _) from I.hok a _ hq);exact jZ PySem.W.kitx_dict I.kIn ⟨o,h1,h2.1⟩ e (fun z=>nomatch z) fin
 | exn C=>cases nx
def oIsi (T:String) (d:D):Option W:=if isX d=true then none else some (.v (.bl (isiB T d)))
theorem N9 {T:String}{x:Str}{p p2:Pos}(hk:Kit X.K T)(hm:X.mg "isinstance"=none)(hmT:X.mg x=none)(ha:QX X e f)(hT:bootBuiltins x=some (.type T):=by rfl)(hb:bootBuiltins "isinstance"=some (.builtin "isinstance"):=by rfl)(hg:Gl X "isinstance":=by rfl)(hgT:Gl X x:=by rfl)(hn:x≠"__name__":=by decide)(hdb:(x==("__debug__":Str))=false:=by decide)
  (he:starEach [e,.Name x p2] X.env=(false,eval e X.env)::starEach [.Name x p2] X.env:=by rfl) (hpl:(backTo pos (starEach [.Name x p2] X.env)).any (·.1)=false:=by rfl) (hs:starEach [.Name x p2] X.env=(false,eval (.Name x p2) X.env)::starEach [] X.env:=by rfl):QX X (.Call (.Name "isinstance" p) [e,.Name x p2] [] pos) (fUn (oIsi T) f):=
 ⟨PE.weak (P5 (a6D hk) hg hm hb (O4 ha.to (O4 (a7H (v:=.ty T) hgT hmT hT rfl hn hdb) a1J hs) he) (by decide) (by decide) he hpl) fun σ H Q h=>
  a25 (r:=fun v H Q=>∃x A d,[v,V.ty T]=[x,.ty T]/\isX d=false/\DenR X.K A H d x/\Q (.bl (isiB T d)) H) (fun A x w v H Q _ e hx q=>by
   unfold oIsi at e;split at e
   ·cases e
   ·rename_i nx;cases e;exact⟨v,A,x,rfl,by simpa using nx,hx,q _ H (Same.refl H) t8⟩) σ H Q h⟩
def isD:D->D->Option Bool
 | .non,.non=>some true
 | d,.non=>some false
 | .bl a,.bl b=>some (a==b)
 | _,.bl _=>some false
 | _,_=>none
theorem is_of {M:Model}{A:Around}{E:Value->Shared->Prop}{s:Shared}{x y:Value}{k:Bool}{Q:Value->Shared->Prop}(h:isSame x y=pure k)(q:Q (.bool k) s):wpAny M A (compareOp .Is x y) Q E s:=by
 show wpAny M A (isSame x y >>=fun b=>pure (Value.bool b)) Q E s;rw[h];exact zB q
theorem a6U {M:Model}{A:Around}{E:Value->Shared->Prop}{s:Shared}{x y:Value}{k:Bool}{Q:Value->Shared->Prop}(h:isSame x y=pure k)(q:Q (.bool (!k)) s):wpAny M A (compareOp .IsNot x y) Q E s:=by
 show wpAny M A (isSame x y >>=fun b=>pure (Value.bool (!b))) Q E s;rw[h];exact zB q
theorem a52 {K:PySem.W.Frag}{A:Av}{H:Hp}{x:D}{v:V}{vv:Value}(hx:DenR K A H x v)(rx:RelV v vv):(x= .non/\vv= .none)\/(∃b,x= .bl b/\vv= .bool b)\/(∃i t,x= .int i/\vv= .int i t)\/(∃y t,x= .str y/\vv= .str y t)\/((∀b,x≠.bl b)/\x≠.non/\∃a,v= .ref a/\vv= .ref a):=by
 cases x with
 | non=>have h:=X9 hx;subst h;exact .inl ⟨rfl,rx⟩
 | bl b=>have h:=W9 hx;subst h;exact .inr (.inl ⟨b,rfl,rx⟩)
 | int i=>have h:=g5 hx;subst h;obtain⟨t,e⟩:=(show ∃t,vv=Value.int i t from rx);exact .inr (.inr (.inl ⟨i,t,rfl,e⟩))
 | str i=>have h:=a0f hx;subst h;obtain⟨t,e⟩:=(show ∃t,vv=Value.str i t from rx);exact .inr (.inr (.inr (.inl ⟨i,t,rfl,e⟩)))
 | tup xs=>
  have hx:Den K A H (.tup xs) v:=hx;rw[Den] at hx;obtain⟨a,vs,rfl,_⟩:=hx;exact .inr (.inr (.inr (.inr ⟨nofun,nofun,a,rfl,rx⟩)))
 | lst xs=>obtain⟨a,vs,rfl,_⟩:=hx;exact .inr (.inr (.inr (.inr ⟨nofun,nofun,a,rfl,rx⟩)))
 | dT ks xs=>obtain⟨a,vs,rfl,_⟩:=hx;exact .inr (.inr (.inr (.inr ⟨nofun,nofun,a,rfl,rx⟩)))
 | dK ks xs=>obtain⟨a,vs,rfl,_⟩:=hx;exact .inr (.inr (.inr (.inr ⟨nofun,nofun,a,rfl,rx⟩)))
 | exn C=>
  have hx:Den K A H (.exn C) v:=hx;rw[Den] at hx;obtain⟨a,rfl,_⟩:=hx;exact .inr (.inr (.inr (.inr ⟨nofun,nofun,a,rfl,rx⟩)))
theorem a4b {K:PySem.W.Frag}{A:Av}{H:Hp}{x y:D}{v u:V}{vv uu:Value}{k:Bool}(e:isD x y=some k)(hx:DenR K A H x v)(hy:DenR K A H y u)(rx:RelV v vv)(ry:RelV u uu):isSame vv uu=pure k:=by
 cases y with
 | non=>
  have hy:=X9 hy;subst hy;cases(show uu=Value.none from ry);rw[PySem.isSame_none];rcases a52 hx rx with ⟨rfl,rfl⟩|⟨b,rfl,rfl⟩|⟨i,t,rfl,rfl⟩|⟨i,t,rfl,rfl⟩|⟨n1,n2,a,rfl,rfl⟩
  ·cases e;rfl
  ·cases e;rfl
  ·cases e;rfl
  ·cases e;rfl
  ·cases x<;>simp only[isD] at e<;>first|(cases e;rfl)|exact absurd rfl n2
 | bl q=>
  have hy:=W9 hy;subst hy;cases(show uu=Value.bool q from ry);rcases a52 hx rx with ⟨rfl,rfl⟩|⟨b,rfl,rfl⟩|⟨i,t,rfl,rfl⟩|⟨i,t,rfl,rfl⟩|⟨n1,n2,a,rfl,rfl⟩
  ·cases e;rfl
  ·cases e;cases b<;>cases q<;>rfl
  ·cases e;rfl
  ·cases e;rfl
  ·cases x<;>simp only[isD] at e<;>first|(cases e;rfl)|exact absurd rfl (n1 _)
 | _=>cases x<;>simp only[isD] at e<;>cases e
def rD2 (K:PySem.W.Frag) (t:D->D->Option Bool) (neg:Bool):R2:=fun v u H Q=>∃A x y k,t x y=some k/\DenR K A H x v/\DenR K A H y u/\Q (.bl (if neg then !k else k)) H
def oD2 (t:D->D->Option Bool) (neg:Bool) (x y:D):Option W:=(t x y).map fun k=>.v (.bl (if neg then !k else k))
theorem kD2 {t:D->D->Option Bool}{neg:Bool}:Pr2 X (oD2 t neg) (rD2 X.K t neg):=by
 intro A x y w v u H Q _ e hx hy q;unfold oD2 at e;cases e1:t x y with
 | none=>rw[e1] at e;cases e
 | some k=>rw[e1] at e;cases e;exact⟨A,x,y,k,e1,hx,hy,q _ H (Same.refl H) t8⟩
theorem a9s:OpR X (compareOp .Is) (rD2 X.K isD false):=by
 intro pins s σ H x y v u Q I rx ry ⟨A,dx,dy,k,e,hx,hy,q⟩;exact is_of (a4b e hx hy rx ry) ⟨.bl k,H,I,rfl,q⟩
theorem a4D:OpR X (compareOp .IsNot) (rD2 X.K isD true):=by
 intro pins s σ H x y v u Q I rx ry ⟨A,dx,dy,k,e,hx,hy,q⟩;exact a6U (a4b e hx hy rx ry) ⟨.bl (!k),H,I,rfl,q⟩
theorem qt_is (ha:QX X a f)(hb:QX X b g):QT X (.Compare a [.Is] [b] pos) (fTest (fBin (oD2 isD false) f g)):=J8 a9s kD2 ha hb
theorem a5y (ha:QX X a f)(hb:QX X b g):QT X (.Compare a [.IsNot] [b] pos) (fTest (fBin (oD2 isD true) f g)):=J8 a4D kD2 ha hb
def flatE:D->D->Option Bool
 | .non,.non=>some true
 | .non,.int _=>some false
 | .int _,.non=>some false
 | .bl a,.bl b=>some (a==b)
 | .bl a,.int b=>some ((if a then 1 else 0)==b)
 | .int a,.bl b=>some (a==(if b then 1 else 0))
 | .int a,.int b=>some (a==b)
 | .str a,.str b=>some (a==b)
 | _,_=>none
def deqL (eq:D->D->Option Bool):List D->List D->Option Bool
 | [],[]=>some true
 | [],_::_=>some false
 | _::_,[]=>some false
 | x::xs,y::ys=>(eq x y).bind fun p=>(deqL eq xs ys).map fun q=>p&&q
def deq:Nat->D->D->Option Bool
 | 0,x,y=>flatE x y
 | n+1,.tup xs,.tup ys=>deqL (deq n) xs ys
 | n+1,.lst xs,.lst ys=>deqL (deq n) xs ys
 | _+1,x,y=>flatE x y
theorem a3W {K:PySem.W.Frag}{A:Av}{H:Hp}{x y:D}{v u:V}{k:Bool}(e:flatE x y=some k)(hx:DenR K A H x v)(hy:DenR K A H y u):Den K A H x v/\Den K A H y u:=by
 cases x<;>cases y<;>simp only[flatE] at e<;>cases e<;>exact⟨hx,hy⟩
theorem a06 {K:PySem.W.Frag}{O:Av}{H:Hp}{A:Around}{s:Shared}{x y:D}{v u:V}{vv uu:Value}{k:Bool}(e:flatE x y=some k)(hx:DenR K O H x v)(hy:DenR K O H y u)(rx:RelV v vv)(ry:RelV u uu):SeqAt.EqAt A s vv uu k/\SeqAt.RcAt A s vv uu k/\SeqAt.RcNeAt A s vv uu (!k):=by
 obtain⟨hx,hy⟩:=a3W e hx hy;cases x<;>cases y<;>simp only[flatE] at e<;>cases e<;>rw[Den] at hx<;>rw[Den] at hy<;>subst hx<;>subst hy
 ·cases(show vv=Value.none from rx);cases(show uu=Value.none from ry);exact⟨.same _,.none_none,.none_none⟩
 ·cases(show vv=Value.none from rx);obtain⟨t,z⟩:=(show ∃t,uu=Value.int _ t from ry);cases z;exact⟨.none_int _ _,.none_int _ _,.none_int _ _⟩
 ·cases(show vv=Value.bool _ from rx);cases(show uu=Value.bool _ from ry);exact⟨.bool_bool _ _,.bool_bool _ _,.bool_bool _ _⟩
 ·cases(show vv=Value.bool _ from rx);obtain⟨t,z⟩:=(show ∃t,uu=Value.int _ t from ry);cases z;exact⟨.bool_int _ _ _,.bool_int _ _ _,.bool_int _ _ _⟩
 ·cases(show uu=Value.none from ry);obtain⟨t,z⟩:=(show ∃t,vv=Value.int _ t from rx);cases z;exact⟨.int_none _ _,.int_none _ _,.int_none _ _⟩
 ·cases(show uu=Value.bool _ from ry);obtain⟨t,z⟩:=(show ∃t,vv=Value.int _ t from rx);cases z;exact⟨.int_bool _ _ _,.int_bool _ _ _,.int_bool _ _ _⟩
 ·obtain⟨t,z⟩:=(show ∃t,vv=Value.int _ t from rx);cases z;obtain⟨t,z⟩:=(show ∃t,uu=Value.int _ t from ry);cases z;exact⟨.int_int _ _ _ _,.int_int _ _ _ _,.int_int _ _ _ _⟩
 ·obtain⟨t,z⟩:=(show ∃t,vv=Value.str _ t from rx);cases z;obtain⟨t,z⟩:=(show ∃t,uu=Value.str _ t from ry);cases z;exact⟨.str_str _ _ _ _,.str_str _ _ _ _,.str_str _ _ _ _⟩
theorem a0R {K:PySem.W.Frag}{O:Av}{H:Hp}{x y:D}{v:V}{k:Bool}(e:flatE x y=some k)(hx:DenR K O H x v)(hy:DenR K O H y v):k=true:=by
 obtain⟨hx,hy⟩:=a3W e hx hy;cases x<;>cases y<;>simp only[flatE] at e<;>cases e<;>rw[Den] at hx<;>rw[Den] at hy
 all_goals first
  | rfl
  | (rw[hx] at hy;cases hy;simp)
  | (rw[hx] at hy;cases hy)
theorem a1p {K:PySem.W.Frag}{O:Av}{H:Hp}{A:Around}{s:Shared}{eq:D->D->Option Bool}(hq:∀x y v u vv uu k,eq x y=some k->Den K O H x v->Den K O H y u->RelV v vv->RelV u uu->SeqAt.EqAt A s vv uu k):
  ∀{xs ys:List D} {vs us:List V} {its jts:List Value} {k:Bool},deqL eq xs ys=some k->DenL K O H xs vs->DenL K O H ys us->Vals vs its->Vals us jts->
   ∃e:Nat->Bool,(∀j (h1:j<its.toArray.size) (h2:j<jts.toArray.size),SeqAt.EqAt A s its.toArray[j] jts.toArray[j] (e j))/\k=((List.range (min its.toArray.size jts.toArray.size)).all e&&its.toArray.size==jts.toArray.size)
 | [],[],vs,us,its,jts,k,e,hx,hy,rx,ry=>by
  rw[DenL] at hx hy;subst hx;subst hy;cases rx;cases ry;cases e;exact⟨fun _=>true,fun j h1 h2=>absurd h1 (by simp),rfl⟩
 | [],y::ys,vs,us,its,jts,k,e,hx,hy,rx,ry=>by
  rw[DenL] at hx;rw[DenL] at hy;subst hx;obtain⟨u,r,rfl,_,_⟩:=hy;cases rx;cases ry;cases e;exact⟨fun _=>true,fun j h1 h2=>absurd h1 (by simp),by simp⟩
 | x::xs,[],vs,us,its,jts,k,e,hx,hy,rx,ry=>by
  rw[DenL] at hx;rw[DenL] at hy;subst hy;obtain⟨u,r,rfl,_,_⟩:=hx;cases rx;cases ry;cases e;exact⟨fun _=>true,fun j h1 h2=>absurd h2 (by simp),by simp⟩
 | x::xs,y::ys,vs,us,its,jts,k,e,hx,hy,rx,ry=>by
  rw[DenL] at hx hy;obtain⟨v,r,rfl,dx,lx⟩:=hx;obtain⟨u,q,rfl,dy,ly⟩:=hy;cases rx with
  | cons r1 rs1=>
   cases ry with
   | cons r2 rs2=>
    rw[deqL] at e;cases e1:eq x y with
    | none=>rw[e1] at e;cases e
    | some p=>
     cases e2:deqL eq xs ys with
     | none=>rw[e1,e2] at e;cases e
     | some q2=>
      rw[e1,e2] at e;cases e;obtain⟨w,h1,h2⟩:=a1p hq e2 lx ly rs1 rs2;refine⟨fun j=>if j=0 then p else w (j-1),fun j g1 g2=>?_,?_⟩
      ·cases j with
       | zero=>simpa using hq x y v u _ _ p e1 dx dy r1 r2
       | succ j=>
        have z:=h1 j (by simpa using g1) (by simpa using g2)
        simp only[List.getElem_toArray] at z ⊢;simpa using z
      ·rw[h2];simp only[zV,qL];rw[show min (_+1) (_+1)=min _ _+1 from Nat.succ_min_succ _ _,List.range_succ_eq_map,all_cons,List.all_map];simp[Function.comp_def,Bool.and_assoc]
theorem V1 {K:PySem.W.Frag}{O:Av}{H:Hp}{eq:D->D->Option Bool}(hq:∀x y v k,eq x y=some k->Den K O H x v->Den K O H y v->k=true):
  ∀{xs ys:List D} {vs:List V} {k:Bool},deqL eq xs ys=some k->DenL K O H xs vs->DenL K O H ys vs->k=true
 | [],[],vs,k,e,hx,hy=>by cases e;rfl
 | [],y::ys,vs,k,e,hx,hy=>by have:=b4 hx;have:=b4 hy;simp at *;walk_at "o"
 | x::xs,[],vs,k,e,hx,hy=>by have:=b4 hx;have:=b4 hy;simp at *;walk_at "o"
 | x::xs,y::ys,vs,k,e,hx,hy=>by
  rw[DenL] at hx hy;obtain⟨v,r,rfl,dx,lx⟩:=hx;obtain⟨u,q,e0,dy,ly⟩:=hy;cases e0;rw[deqL] at e;cases e1:eq x y with
  | none=>rw[e1] at e;cases e
  | some p=>
   cases e2:deqL eq xs ys with
   | none=>rw[e1,e2] at e;cases e
   | some q2=>
    rw[e1,e2] at e;cases e;rw[hq x y v p e1 dx dy,V1 hq e2 lx ly];rfl
theorem a02 {n:Nat}{x y:D}{k:Bool}(e:deq (n+1) x y=some k):flatE x y=some k\/(∃xs ys,x= .tup xs/\y= .tup ys/\deqL (deq n) xs ys=some k)\/∃xs ys,x= .lst xs/\y= .lst ys/\deqL (deq n) xs ys=some k:=by
 cases x<;>cases y<;>first
  | exact .inl e
  | exact .inr (.inl ⟨_,_,rfl,rfl,e⟩)
  | exact .inr (.inr ⟨_,_,rfl,rfl,e⟩)
theorem t3 {K:PySem.W.Frag}{O:Av}{H:Hp}{xs:List D}{v:V}(h:DenR K O H (.tup xs) v):∃a vs,v= .ref a/\SqT K H a vs/\DenL K O H xs vs:=by
 have h:Den K O H (.tup xs) v:=h;rw[Den] at h;exact h
theorem a2c {O:Av}{pins:List (Addr×PySem.Obj)}{σ:L2.St}{H:Hp}{s:Shared}(I:Inv X pins σ H s):∀(n:Nat) (x y:D) (v:V) (k:Bool),deq n x y=some k->DenR X.K O H x v->DenR X.K O H y v->k=true
 | 0,x,y,v,k,e,hx,hy=>a0R e hx hy
 | n+1,x,y,v,k,e,hx,hy=>by
  have hs:∀x y v k,deq n x y=some k->Den X.K O H x v->Den X.K O H y v->k=true:=fun x y v k e hx hy=>a2c I n x y v k e (B6 hx) (B6 hy);rcases a02 e with e|⟨xs,ys,rfl,rfl,e⟩|⟨xs,ys,rfl,rfl,e⟩
  ·exact a0R e hx hy
  ·obtain⟨a,vs,rfl,q1,l1⟩:=t3 hx;obtain⟨b,us,z,q2,l2⟩:=t3 hy;cases z;rw[I.tuple_inj q2 q1] at l2;exact V1 hs e l1 l2
  ·obtain⟨a,vs,rfl,q1,l1⟩:=hx;obtain⟨b,us,z,q2,l2⟩:=hy;cases z;rw[I.list_inj q2 q1] at l2;exact V1 hs e l1 l2
theorem a1G {O:Av}{pins:List (Addr×PySem.Obj)}{σ:L2.St}{H:Hp}{s:Shared}(I:Inv X pins σ H s):∀(n:Nat) (A:Around),A.units+n+1<cLine->∀(x y:D) (v u:V) (vv uu:Value) (k:Bool),deq n x y=some k->DenR X.K O H x v->DenR X.K O H y u->RelV v vv->RelV u uu->
  SeqAt.EqAt A s vv uu k/\SeqAt.RcAt A s vv uu k/\SeqAt.RcNeAt A s vv uu (!k)
 | 0,A,hA,x,y,v,u,vv,uu,k,e,hx,hy,rx,ry=>a06 e hx hy rx ry
 | n+1,A,hA,x,y,v,u,vv,uu,k,e,hx,hy,rx,ry=>by
  have hin:∀x y v u vv uu k,deq n x y=some k->Den X.K O H x v->Den X.K O H y u->RelV v vv->RelV u uu->SeqAt.EqAt A.in1 s vv uu k:=fun x y v u vv uu k e hx hy rx ry=>(a1G I n A.in1 (by show A.units+1+n+1<_;walk_at "o") x y v u vv uu k e (B6 hx) (B6 hy) rx ry).1
  have hu:A.units<cLine:=by walk_at "o"
  have done:∀(p q:Addr),v= .ref p->u= .ref q->SeqAt.RcAt A s (.ref p) (.ref q) k->SeqAt.RcNeAt A s (.ref p) (.ref q) (!k)->SeqAt.EqAt A s vv uu k/\SeqAt.RcAt A s vv uu k/\SeqAt.RcNeAt A s vv uu (!k):=fun p q ev eu rc rn=>by
   subst ev;subst eu;cases(show vv=Value.ref p from rx);cases(show uu=Value.ref q from ry);refine⟨?_,rc,rn⟩
   by_cases pq:p=q
   ·subst pq;rw[a2c I (n+1) x y _ k e hx hy];exact .same _
   ·exact .of_refs pq rc
  rcases a02 e with e|⟨xs,ys,rfl,rfl,e⟩|⟨xs,ys,rfl,rfl,e⟩
  ·exact a06 e hx hy rx ry
  ·obtain⟨p,vs,ev,q1,l1⟩:=t3 hx;obtain⟨q,us,eu,q2,l2⟩:=t3 hy;obtain⟨its,r1,t1,_⟩:=I.tuple q1;obtain⟨jts,r2,t2,_⟩:=I.tuple q2;obtain⟨w,h1,h2⟩:=a1p hin e l1 l2 r1 r2;refine done p q ev eu ?_ ?_
   ·rw[h2];exact SeqAt.RcAt.tuples t1 t2 hu h1
   ·rw[h2];exact SeqAt.RcNeAt.tuples t1 t2 hu h1
  ·obtain⟨p,vs,ev,q1,l1⟩:=id hx;obtain⟨q,us,eu,q2,l2⟩:=id hy;obtain⟨its,r1,t1,_⟩:=I.list q1;obtain⟨jts,r2,t2,_⟩:=I.list q2;obtain⟨w,h1,h2⟩:=a1p hin e l1 l2 r1 r2
   by_cases sz:its.toArray.size=jts.toArray.size
   ·have r1:=SeqAt.RcAt.lists t1.isList t2.isList sz hu h1;have r2:=SeqAt.RcNeAt.lists t1.isList t2.isList sz hu h1;rw[sz,Nat.min_self,show(jts.toArray.size==jts.toArray.size)=true by simp,Bool.and_true] at h2
    rw[sz,<-h2] at r1 r2;exact done p q ev eu r1 r2
   ·have r1:=SeqAt.RcAt.lists_lengths (A:=A) t1.isList t2.isList (by simpa using sz) hu
    have r2:=SeqAt.RcNeAt.lists_lengths (A:=A) t1.isList t2.isList (by simpa using sz) hu
    rw[show(its.toArray.size==jts.toArray.size)=false by simpa using sz,Bool.and_false] at h2
    subst h2;exact done p q ev eu r1 r2
theorem a63 {k:Nat}(hr:Room k X.A):OpR X (compareOp .Eq) (rD2 X.K (deq 20) false):=by
 intro pins s σ H x y v u Q I rx ry ⟨A,dx,dy,k,e,hx,hy,q⟩
 have:=(a1G I 20 X.A (by have:=hr.units;walk_at "o") dx dy x y v u k e hx hy rx ry).2.1
 exact this X.prog X.w X.xe _ ⟨.bl k,H,I,rfl,q⟩
theorem a9M {k:Nat}(hr:Room k X.A):OpR X (compareOp .NotEq) (rD2 X.K (deq 20) true):=by
 intro pins s σ H x y v u Q I rx ry ⟨A,dx,dy,k,e,hx,hy,q⟩
 have:=(a1G I 20 X.A (by have:=hr.units;walk_at "o") dx dy x y v u k e hx hy rx ry).2.2
 exact this X.prog X.w X.xe _ ⟨.bl (!k),H,I,rfl,q⟩
theorem a9d {k:Nat}(hr:Room k X.A)(ha:QX X a f)(hb:QX X b g):QX X (.Compare a [.Eq] [b] pos) (fBin (oD2 (deq 20) false) f g):=a2F (a63 hr) kD2 ha hb
theorem M1 {k:Nat}(hr:Room k X.A)(ha:QX X a f)(hb:QX X b g):QT X (.Compare a [.Eq] [b] pos) (fTest (fBin (oD2 (deq 20) false) f g)):=J8 (a63 hr) kD2 ha hb
theorem a0T {k:Nat}(hr:Room k X.A)(ha:QX X a f)(hb:QX X b g):QT X (.Compare a [.NotEq] [b] pos) (fTest (fBin (oD2 (deq 20) true) f g)):=J8 (a9M hr) kD2 ha hb
end
section
variable {prog:Program}{w:World}{A:Around}{R:Result->Shared->Prop}{s:Shared}
abbrev Fa:Value->Shared->Prop:=fun _ _=>False
theorem a0N {elt tg iter:Expr}{ifs:List Expr}{scope:Scope}{pos:Pos}{it acc:Value}{env:Env}(I:Nat->Shared->Prop)
  (turn:∀n s,I n s->wpAny (model prog w) A (pyNext it) (fun r s1=>match r with
   | none=>R (.ok .next) s1
   | some v=>wpAny (model prog w) A (letOwnedTupleGo tg it v) (fun _ s2=>wpAny (model prog w) A (assign tg env v) (fun _ s3=>
     wpAny (model prog w) A (forIn ifs true fun c r=>if r=true then do let ok <-isTrue c env (eval c env);pure (ForInStep.yield ok) else pure (ForInStep.yield r)) (fun ok s4=>
      if ok=true then wpAny (model prog w) A (eval elt env) (fun x s5=>wpAny (model prog w) A (call (.builtin "list.append") [acc,x]) (fun _ s6=>∃m,m<n/\I m s6) Fa s5) Fa s4
      else ∃m,m<n/\I m s4) Fa s3) Fa s2) Fa s1) Fa s)
  (n:Nat) (h:I n s):codeAny (model prog w) A (.compLoop (.ListComp elt [⟨tg,iter,ifs,0⟩] scope pos) 0 it acc env) R s:=by
 refine codeAny_loop rfl I (fun n s hI=>?_) n h;show wpAny _ A ((compTurn (.ListComp elt [⟨tg,iter,ifs,0⟩] scope pos) 0 it acc env).onRaise (fun x=>do noteFrame x env;theTreesLotGoes x)) _ _ s
 refine wpAny_noted ?_;rw[compTurn_list];refine zA (wpAny_standAt (zA (qB (turn n s hI) (fun r s1 h1=>?_) fun _ _ z=>z.elim)));cases r with
 | none=>exact zB h1
 | some v=>
  refine zA (qB h1 (fun _ s2 h2=>zA (qB h2 (fun _ s3 h3=>zA (qB h3 (fun ok s4 h4=>?_) fun _ _ z=>z.elim)) fun _ _ z=>z.elim)) fun _ _ z=>z.elim);cases ok with
  | true=>
   rw[if_pos rfl] at h4 ⊢;exact zA (zA (qB h4 (fun x s5 h5=>zA (qB h5 (fun _ s6 h6=>zB (zB ⟨rfl,h6⟩)) fun _ _ z=>z.elim)) fun _ _ z=>z.elim))
  | false=>
   rw[if_neg zP] at h4 ⊢;exact zA (zB (zB ⟨rfl,h4⟩))
end
def blk (X:Cx) (scope:Scope) (cl:List (Str×Addr)) (s2:Shared) (H2:Hp) (fp:List Addr) (C:Addr) (N:List Str):Cx where
 prog:=X.prog
 w:=X.w
 K:=X.K
 mg:=X.mg
 base:=X.base
 A:=X.A
 N:=N
 s₀:=s2
 H₀:=H2
 env:=compEnvC scope cl C X.env
 outer:=X.stack
 stack:=X.stack
 ex:=fp
 fn:=fun _=>false
 calm:=X.calm
 pn:=[]
 xe:=fun _ _=>False
abbrev accN:Str:=" acc"
inductive Cap (X:Cx) (sc:Scope) (cl:List (Str×Addr)):List Str->List (Option Nat)->Prop where
 | nil:Cap X sc cl [] []
 | own {n:Str} {N:List Str} {js:List (Option Nat)} (t:Cap X sc cl N js):Cap X sc cl (n::N) (none::js)
 | cap {n:Str} {N:List Str} {j:Nat} {js:List (Option Nat)} (hj:X.N[j]? =some n) (hk:X.env.scope.names.lookup n=some .cell) (hl:sc.names.lookup n=some .cell) (hc:cl.lookup n=X.env.cells.lookup n) (t:Cap X sc cl N js):Cap X sc cl (n::N) (some j::js)
theorem Cap.len {X:Cx}{sc:Scope}{cl:List (Str×Addr)}{N:List Str}{js:List (Option Nat)}(h:Cap X sc cl N js):js.length=N.length:=by
 induction h with
 | nil=>rfl
 | own t ih=>simp[ih]
 | cap _ _ _ _ t ih=>simp[ih]
theorem Cap.get {X:Cx}{sc:Scope}{cl:List (Str×Addr)}{N:List Str}{js:List (Option Nat)}(h:Cap X sc cl N js):∀{i j:Nat} {n:Str},N[i]? =some n->js[i]? =some (some j)->X.N[j]? =some n/\X.env.scope.names.lookup n=some .cell/\sc.names.lookup n=some .cell/\cl.lookup n=X.env.cells.lookup n:=by
 induction h with
 | nil=>intro i j n e1 _;simp at e1
 | own t ih=>
  intro i j n e1 e2;cases i with
  | zero=>simp at e2
  | succ i=>exact ih (by simpa using e1) (by simpa using e2)
 | cap hj hk hl hc t ih=>
  intro i j n e1 e2;cases i with
  | zero=>simp at e1 e2;subst e1;subst e2;exact⟨hj,hk,hl,hc⟩
  | succ i=>exact ih (by simpa using e1) (by simpa using e2)
def capS (js:List (Option Nat)) (σ:L2.St):L2.St:=js.map fun o=>o.bind fun j=>(σ[j]?).join
structure Blk (X:Cx) (scope:Scope) (cl:List (Str×Addr)) (N:List Str) (js:List (Option Nat)):Prop where
 clos:closureFor scope X.env=pure cl
 kind:scope.kind= .function
 cell:∀y∈scope.names,y.2≠.cell
 nms:∀y∈scope.names,y.2= .local->scope.names.lookup y.1=some .local
 cap:Cap X (relabel scope X.env) cl N js
 sub:∀y c,cl.lookup y=some c->X.env.cells.lookup y=some c
 has:∀y,((relabel scope X.env).names.lookup y=some .cell\/(relabel scope X.env).names.lookup y=some .free)->∃c,cl.lookup y=some c
 acc:∀k,(relabel scope X.env).names.lookup accN≠some k
section
variable {X:Cx}{pins:List (Addr×PySem.Obj)}{σ:L2.St}{H2:Hp}{s2 s4:Shared}{scope:Scope}{cl:List (Str×Addr)}{N:List Str}{js:List (Option Nat)}{fp:List Addr}{Dd C:Addr}{m:Str->Option Value}
theorem a9t (I:Inv X pins σ H2 s2)(b:Blk X scope cl N js)(f2:∀y∈fp,FpOk X pins H2 y)(fl:∀y∈fp,y<s2.heap.objs.size)(hC:s2.heap.objs.size<=C):(blk X scope cl s2 H2 fp C (N++[accN])).Ok where
 mod:=I.ok.mod
 kind:=b.kind
 glob:=I.ok.glob
 blt:=I.ok.blt
 above:=hC
 inj:=fun x y c e1 e2=>I.ok.inj x y c (b.sub x c e1) (b.sub y c e2)
 has:=fun x h=>b.has x h
 cab:=fun x c h=>nomatch h
 hd:=I.ok.hd
 frames:=I.ok.frames
 stk:=.inl rfl
 exf:=fun y hy=>⟨zG (zF (fl y hy) hC),fun x c e=>(f2 y hy).2.2.2.2.1 x c (b.sub x c e)⟩
 bs:=I.bs
 bsz:=qH I.ok.bsz I.sz
 noex:=fun y o e hy=>by
  rcases(f2 y hy).2.2.2.1 with z|z
  ·exact I.ok.noex y o e z
  ·exact absurd (zF (zS e) (qH I.ok.bsz z)) (jD _)
 exfs:=fun y hy z=>(zO.mp (I.stkSub y z)).elim (f2 y hy).2.1 (f2 y hy).2.2.1
 funs:=I.stack
 frf:=I.stkFree
theorem a7x {o0:HO}(I:Inv X pins σ H2 s2)(b:Blk X scope cl N js)(f2:∀y∈fp,FpOk X pins H2 y)(fl:∀y∈fp,y<s2.heap.objs.size)(hC:s2.heap.objs.size<=C)(hD:s2.heap.objs.size<=Dd)(ne:Dd≠C)
  (ho:s4.os=s2.os) (hg:AllBare s4.gens) (kp:∀y o,s2.heap.get? y=some o->s4.heap.get? y=some o) (hn:s4.heap.Ns C m) (hk:HOk X.prog X.w (upd H2 Dd o0) s4.heap):
  Inv (blk X scope cl s2 H2 fp C (N++[accN])) [] (capS js σ++[some (.ref Dd)]) (upd H2 Dd o0) s4:=by
 have nD:∀y o,s2.heap.get? y=some o->y≠Dd:=fun y o e=>zG (zF (zS e) hD);have nH:∀y u,H2 y=some u->y≠Dd:=fun y u e=>zG (zF (I.hok.lt e) hD);have cD:∀x c,X.env.cells.lookup x=some c->c≠Dd:=fun x c e=>by
  obtain⟨v,o,e1,_⟩:=I.cell x c e;exact nD c o e1
 refine⟨a9t I b f2 fl hC,ho,hg,⟨fun y o e _ _ _=>kp y o e,fun y o e _ _ _=>⟨o.slots,kp y o e⟩,fun y o e n _=>?_,fun y o e _=>⟨o,kp y o e⟩,fun y xs e=>?_,fun y o u e=>?_,fun y ps e=>?_⟩,⟨m,hn,fun i x v e1 e2 e3=>?_⟩,fun x c e=>?_,?_,fun x c e=>?_,fun p hp=>absurd (show p∈([]:List (Addr×PySem.Obj)) from hp) (by simp),hk,?_⟩
 ·rw[c6 (nD y o e)];exact n
 ·rw[c6 (nH _ _ e)];exact e
 ·rw[c6 (nH _ _ e)];exact e
 ·have e':H2 y=some (.tbl ps):=e;exact⟨#[],by rw[c6 (nH _ _ e'),e'];simp⟩
 ·have hl:js.length=N.length:=b.cap.len
  by_cases hi:i<N.length
  ·have e1':N[i]? =some x:=by
    have z:(N++[accN])[i]? =some x:=e1;rw[zQ hi] at z;exact z
   rw[zQ (by unfold capS;simp;walk_at "o")] at e2
   unfold capS at e2;rw[zW] at e2;cases ej:js[i]? with
   | none=>rw[ej] at e2;cases e2
   | some o=>
    rw[ej] at e2;cases o with
    | none=>cases e2
    | some j=>
     obtain⟨c1,c2,c3,c4⟩:=b.cap.get e1' ej;simp only[jJ,bind_some] at e2;have e2':σ[j]? =some (some v):=by
      cases q:σ[j]? with
      | none=>rw[q] at e2;cases e2
      | some o=>rw[q] at e2;simp at e2;rw[e2]
     obtain⟨m2,_,hl2⟩:=I.loc;obtain⟨u,r,lk⟩:=hl2 j x v c1 e2' (.inr (.inl c2));refine⟨u,r,.inr ⟨.inl c3,?_⟩⟩;rcases lk with ⟨k,_⟩|⟨_,c,e,z⟩
     ·have k':X.env.scope.names.lookup x=some .local:=k;rw[c2] at k';cases k'
     ·exact⟨c,c4.trans e,z.keeps kp⟩
  ·have hx:x=accN:=by
    have z:(N++[accN])[i]? =some x:=e1;rw[zT (by walk_at "o")] at z
    cases q:i-N.length with
    | zero=>rw[q] at z;simp at z;exact z.symm
    | succ k=>rw[q] at z;simp at z
   subst hx;rcases e3 with z|z|z
   ·exact absurd z (b.acc _)
   ·exact absurd z (b.acc _)
   ·exact absurd z (b.acc _)
 ·obtain⟨v,z⟩:=I.cell x c (b.sub x c e);exact⟨v,z.keeps kp⟩
 ·show upd H2 Dd o0 C=none;rw[c6 (jA ne)];exact I.hok.fresh hC
 ·rw[c6 (cD x c (b.sub x c e))];exact I.freeC x c (b.sub x c e)
 ·show(capS js σ++[some (V.ref Dd)]).length=(N++[accN]).length;unfold capS;simp[b.cap.len]
end
def AllC (X:Cx):List (Str×Addr)->Prop
 | []=>True
 | p::r=>X.env.cells.lookup p.1=some p.2/\AllC X r
theorem AllC.sub {X:Cx}:∀{cl:List (Str×Addr)},AllC X cl->∀y c,cl.lookup y=some c->X.env.cells.lookup y=some c
 | [],_,y,c,e=>by simp at e
 | (n,c0)::r,h,y,c,e=>by
  rw[yF] at e;cases q:y==n with
  | true=>
   rw[q] at e;cases e
   have:y=n:=by simpa using q
   rw[this];exact h.1
  | false=>rw[q] at e;exact AllC.sub h.2 y c e
theorem D9 {α:Type}:∀{l:List (Str×α)} {y:Str} {k:α},l.lookup y=some k->(y,k)∈l
 | [],y,k,e=>by simp at e
 | (n,a)::r,y,k,e=>by
  rw[yF] at e;cases q:y==n with
  | true=>
   rw[q] at e;cases e
   have:y=n:=by simpa using q
   rw[this];exact zR
  | false=>rw[q] at e;exact zN _ (D9 e)
section
variable {X:Cx}{scope:Scope}{cl:List (Str×Addr)}{N:List Str}{js:List (Option Nat)}
theorem v3 (cap:Cap X (relabel scope X.env) cl N js)(clos:closureFor scope X.env=pure cl)(sub:AllC X cl)(has:(relabel scope X.env).names.all (fun p=>(p.2 != .cell&&p.2 != .free)||(cl.lookup p.1).isSome)=true)(kind:scope.kind= .function:=by rfl)(cell:scope.names.all (fun y=>y.2 != .cell)=true:=by decide +kernel)
  (nms:scope.names.all (fun y=>y.2 != .local||scope.names.lookup y.1==some .local)=true:=by decide +kernel) (acc:(relabel scope X.env).names.lookup accN=none:=by rfl):Blk X scope cl N js where
 clos:=clos
 kind:=kind
 cell:=fun y hy=>by have:=jY.mp cell y hy;simpa using this
 nms:=fun y hy hl=>by have:=jY.mp nms y hy;rw[hl] at this;simpa using this
 cap:=cap
 sub:=sub.sub
 has:=fun y h=>by
  have key:∀k,(relabel scope X.env).names.lookup y=some k->k= .cell\/k= .free->∃c,cl.lookup y=some c:=fun k e hk=>by
   have:=jY.mp has (y,k) (D9 e)
   rcases hk with rfl|rfl<;>simpa [jP] using this
  rcases h with h|h
  ·exact key _ h (.inl rfl)
  ·exact key _ h (.inr rfl)
 acc:=fun k e=>by rw[acc] at e;cases e
end
def capW (k:Bool):W->Option W
 | .v d=>some (.v d)
 | .o d=>some (if k then .l d else .v d)
 | .l d=>some (if k then .l d else .v d)
 | .r _=>none
def capE (lj:Option Nat) (js:List (Option Nat)) (ρ:Ev):Ev:=js.map fun o=>o.bind fun j=>((ρ[j]?).join).bind (capW (lj==some j))
def Capd (ρ:Ev) (σ:L2.St) (js:List (Option Nat)) (b:Addr):Prop:=∃(j:Nat) (w:W) (d:D),some j∈js/\ρ[j]? =some (some w)/\w.own=some d/\σ[j]? =some (some (V.ref b))
def lentL (li:Option (Nat×Nat)) (σ:L2.St):List (Option Nat×Addr):=match li with
 | some (i,j)=>match σ[j]? with
  | some (some (.ref a))=>[(some i,a)]
  | _=>[]
 | none=>[]
structure LiOk (li:Option (Nat×Nat)) (js:List (Option Nat)) (ρ:Ev):Prop where
 own:∀i j,li=some (i,j)->∃c,ownAt ρ j=some c
 at':∀i j,li=some (i,j)->js[i]? =some (some j)
 one:∀i j k,li=some (i,j)->js[k]? =some (some j)->k=i
section
variable {X:Cx}{P:List (D×V)}{O:Av}{L:List (Option Nat×Addr)}{ρ:Ev}{σ:L2.St}{H2:Hp}{s2:Shared}{scope:Scope}{cl:List (Str×Addr)}{N:List Str}{js:List (Option Nat)}{fp:List Addr}{Dd C:Addr}{li:Option (Nat×Nat)}
theorem P8 {lj:Option Nat}{i:Nat}{w:W}(e:(capE lj js ρ)[i]? =some (some w)):∃j w0,js[i]? =some (some j)/\ρ[j]? =some (some w0)/\capW (lj==some j) w0=some w:=by
 unfold capE at e;rw[zW] at e;cases ej:js[i]? with
 | none=>rw[ej] at e;cases e
 | some o=>
  rw[ej] at e;cases o with
  | none=>cases e
  | some j=>
   simp only[jJ,bind_some] at e;cases q:ρ[j]? with
   | none=>rw[q] at e;cases e
   | some o=>
    rw[q] at e;cases o with
    | none=>cases e
    | some w0=>exact⟨j,w0,rfl,q,qC e⟩
theorem Q0 {i j:Nat}{v:V}(ej:js[i]? =some (some j))(e:σ[j]? =some (some v)):(capS js σ)[i]? =some (some v):=by
 unfold capS;rw[zW,ej];simp only[jJ,bind_some];rw[e];rfl
theorem a0h {b:Addr}:(none,b)∉lentL li σ:=by
 unfold lentL
 split
 ·split
  ·simp
  ·simp
 ·simp
theorem D4 {i:Nat}{b:Addr}:(some i,b)∈lentL li σ↔∃j,li=some (i,j)/\σ[j]? =some (some (.ref b)):=by
 unfold lentL;cases li with
 | none=>simp
 | some p=>
  obtain⟨i',j'⟩:=p;dsimp only;constructor
  ·intro h;split at h
   ·rename_i a q;rw[qA] at h;cases h;exact⟨j',rfl,q⟩
   ·cases h
  ·rintro⟨j,e,q⟩;cases e;rw[q];exact qA.mpr rfl
theorem F6 {d0:D}(r:Rep X P O L ρ σ H2)(hl:LiOk li js ρ){i:Nat}{w:W}{d:D}{v:V}(e1:(capE (li.map (·.2)) js ρ++[some (.l d0)])[i]? =some (some w))(e2:w.own=some d)(e3:(capS js σ++[some (.ref Dd)])[i]? =some (some v)):
  (i=js.length/\w= .l d0/\v= .ref Dd)\/∃j a w0,li=some (i,j)/\i<js.length/\w= .l d/\js[i]? =some (some j)/\ρ[j]? =some (some w0)/\w0.own=some d/\σ[j]? =some (some (.ref a))/\v= .ref a:=by
 have hcl:(capE (li.map (·.2)) js ρ).length=js.length:=by unfold capE;simp
 have hsl:(capS js σ).length=js.length:=by unfold capS;simp
 by_cases hi:i<js.length
 ·rw[zQ (by walk_at "o")] at e1 e3
  obtain⟨j,w0,ej,q,ew⟩:=P8 e1;have own0:w0.own≠none/\li.map (·.2)=some j/\w= .l d/\w0.own=some d:=by
   cases w0 with
   | v c=>cases ew;cases e2
   | r c=>cases ew
   | o c=>
    simp only[capW] at ew;split at ew
    ·rename_i hk;cases ew;cases e2;exact⟨nofun,by simpa using hk,rfl,rfl⟩
    ·cases ew;cases e2
   | l c=>
    simp only[capW] at ew;split at ew
    ·rename_i hk;cases ew;cases e2;exact⟨nofun,by simpa using hk,rfl,rfl⟩
    ·cases ew;cases e2
  obtain⟨_,hlj,rfl,ow⟩:=own0;obtain⟨a,h1,h2⟩:=r.obj q ow;rw[Q0 ej h1] at e3;cases e3;cases li with
  | none=>cases hlj
  | some p=>
   obtain⟨i',j'⟩:=p;cases hlj
   have:=hl.one i' _ i rfl ej
   subst this;exact .inr ⟨_,a,w0,rfl,hi,rfl,ej,q,ow,h1,rfl⟩
 ·have hi':i=js.length:=by
   have:=(zK.mp e1).1
   rw[zZ,hcl] at this;simp at this;walk_at "o"
  subst hi';rw[zT (by walk_at "o"),hcl,jE] at e1
  rw[zT (by walk_at "o"),hsl,jE] at e3
  simp only[xV,Option.some.injEq] at e1 e3;exact .inl ⟨rfl,e1.symm,e3.symm⟩
theorem a3G {d0:D}{o0:HO}(hob:∀A H,H Dd=some o0->Obj X.K A H Dd d0)(r:Rep X P O L ρ σ H2)(hl:LiOk li js ρ)(hn:H2 Dd=none):
  Rep (blk X scope cl s2 H2 fp C (N++[accN])) P (fun b=>AvO O ρ σ b/\¬Capd ρ σ js b) ((some js.length,Dd)::lentL li σ) (capE (li.map (·.2)) js ρ++[some (.l d0)]) (capS js σ++[some (.ref Dd)]) (upd H2 Dd o0):=by
 have hcl:(capE (li.map (·.2)) js ρ).length=js.length:=by unfold capE;simp
 have hsl:(capS js σ).length=js.length:=by unfold capS;simp
 have acc1:(capE (li.map (·.2)) js ρ++[some (.l d0)])[js.length]? =some (some (.l d0)):=by rw[zT (by walk_at "o"),hcl,jE];rfl
 have acc2:(capS js σ++[some (V.ref Dd)])[js.length]? =some (some (.ref Dd)):=by rw[zT (by walk_at "o"),hsl,jE];rfl
 have lnt2:∀{i j:Nat} {a:Addr},li=some (i,j)->σ[j]? =some (some (.ref a))->∃w0 d,ρ[j]? =some (some w0)/\w0.own=some d/\(capE (li.map (·.2)) js ρ++[some (.l d0)])[i]? =some (some (.l d))/\(capS js σ++[some (V.ref Dd)])[i]? =some (some (.ref a)):=fun{i j a} e1 e2=>by
  obtain⟨c,ec⟩:=hl.own i j e1;obtain⟨w0,q,ow⟩:=m3 ec;have ej:=hl.at' i j e1;have hi:i<js.length:=(zK.mp ej).1;refine⟨w0,c,q,ow,?_,by rw[zQ (by walk_at "o")];exact Q0 ej e2⟩
  rw[zQ (by walk_at "o")]
  unfold capE;rw[zW,ej];simp only[jJ,bind_some,q,Option.join_some,e1,beq_self_eq_true];cases w0 with
  | o x=>cases ow;rfl
  | l x=>cases ow;rfl
  | _=>cases ow
 have av:∀b,AvO (fun b=>AvO O ρ σ b/\¬Capd ρ σ js b) (capE (li.map (·.2)) js ρ++[some (.l d0)]) (capS js σ++[some (V.ref Dd)]) b->AvO O ρ σ b\/H2 b=none:=fun b z=>by
  rcases z with z|⟨i,w,d,e1,e2,e3⟩
  ·exact .inl z.1
  ·rcases F6 r hl e1 e2 e3 with ⟨_,_,e⟩|⟨j,a,w0,_,_,_,_,q,ow,qs,e⟩
   ·cases e;exact .inr hn
   ·cases e;exact .inl (.inr ⟨j,w0,d,q,ow,qs⟩)
 have g:Go (AvO O ρ σ) (AvO (fun b=>AvO O ρ σ b/\¬Capd ρ σ js b) (capE (li.map (·.2)) js ρ++[some (.l d0)]) (capS js σ++[some (V.ref Dd)])) (fun _=>False) H2 (upd H2 Dd o0):=⟨fun b o e _=>g7 hn _ b o e,fun _ z=>z.elim,av⟩;refine⟨fun b o e _=>g7 hn _ b o e,fun b z=>⟨r.there z.1,fun i m=>?_⟩,by simp[hcl,hsl],fun i w e=>?_,fun i i' w w' d d' b e1 e2 e3 e4 e5 e6=>?_,fun i d b e=>?_,fun i d e=>?_,fun i b e=>?_,fun p hp=>l5 g _ _ (r.prot p hp),fun b m=>⟨js.length,Dd,zR⟩⟩
 ·rcases zO.mp m with m|m
  ·cases m;exact r.fresh hn z.1
  ·cases i with
   | none=>exact a0h m
   | some i=>
    obtain⟨j,e1,e2⟩:=D4.mp m;obtain⟨w0,d,q,ow,_⟩:=lnt2 e1 e2;exact z.2 ⟨j,w0,d,qR (hl.at' i j e1),q,ow,e2⟩
 ·by_cases hi:i<js.length
  ·have e':=e;rw[zQ (by walk_at "o")] at e'
   obtain⟨j,w0,ej,q,ew⟩:=P8 e';obtain⟨v,h1,h2⟩:=r.slot j w0 q;refine⟨v,by rw[zQ (by walk_at "o")];exact Q0 ej h1,?_⟩
   cases w0 with
   | v c=>cases ew;exact l5 g _ _ h2
   | r c=>cases ew
   | o c=>
    simp only[capW] at ew;obtain⟨a,rfl,ob⟩:=h2;have hk:upd H2 Dd o0 a=H2 a:=c6 fun z=>by obtain⟨u,eu,_⟩:=A9 ob;rw[z,hn] at eu;cases eu
    split at ew
    ·cases ew;exact⟨a,rfl,p7 g hk ob⟩
    ·rename_i nk;cases ew;refine P4 (p7 g hk ob) fun z=>?_;rcases z with z|⟨i2,w2,d2,e1,e2,e3⟩
     ·exact z.2 ⟨j,_,c,qR ej,q,rfl,h1⟩
     ·rcases F6 r hl e1 e2 e3 with ⟨_,_,e⟩|⟨j2,a2,w0,l2,_,_,ej2,q2,ow2,qs2,e⟩
      ·cases e;obtain⟨u,eu,_⟩:=A9 ob;rw[hn] at eu;cases eu
      ·cases e
       have:=r.inj j j2 _ w0 c d2 a q rfl h1 q2 ow2 qs2
       subst this;rw[l2] at nk;simp at nk
   | l c=>
    simp only[capW] at ew;obtain⟨a,rfl,ob⟩:=h2;have hk:upd H2 Dd o0 a=H2 a:=c6 fun z=>by obtain⟨u,eu,_⟩:=A9 ob;rw[z,hn] at eu;cases eu
    split at ew
    ·cases ew;exact⟨a,rfl,p7 g hk ob⟩
    ·rename_i nk;cases ew;refine P4 (p7 g hk ob) fun z=>?_;rcases z with z|⟨i2,w2,d2,e1,e2,e3⟩
     ·exact z.2 ⟨j,_,c,qR ej,q,rfl,h1⟩
     ·rcases F6 r hl e1 e2 e3 with ⟨_,_,e⟩|⟨j2,a2,w0,l2,_,_,ej2,q2,ow2,qs2,e⟩
      ·cases e;obtain⟨u,eu,_⟩:=A9 ob;rw[hn] at eu;cases eu
      ·cases e
       have:=r.inj j j2 _ w0 c d2 a q rfl h1 q2 ow2 qs2
       subst this;rw[l2] at nk;simp at nk
  ·have hi':i=js.length:=by
    have:=(zK.mp e).1
    rw[zZ,hcl] at this;simp at this;walk_at "o"
   subst hi';rw[acc1] at e;cases e;exact⟨.ref Dd,acc2,Dd,rfl,hob _ _ j5⟩
 ·rcases F6 r hl e1 e2 e3 with ⟨rfl,_,e⟩|⟨j,a,w0,l1,_,_,_,q,ow,qs,e⟩
  ·cases e;rcases F6 r hl e4 e5 e6 with ⟨rfl,_,_⟩|⟨j,a,w0,l1,_,_,_,q,ow,qs,e⟩
   ·rfl
   ·cases e;obtain⟨u,eu,_⟩:=r.owMu ⟨j,w0,d',q,ow,qs⟩;rw[hn] at eu;cases eu
  ·cases e;rcases F6 r hl e4 e5 e6 with ⟨rfl,_,e⟩|⟨j',a',w0',l1',_,_,_,q',ow',qs',e⟩
   ·cases e;obtain⟨u,eu,_⟩:=r.owMu ⟨j,w0,d,q,ow,qs⟩;rw[hn] at eu;cases eu
   ·rw[l1] at l1';cases l1';rfl
 ·by_cases hi:i<js.length
  ·rw[zQ (by walk_at "o")] at e
   obtain⟨j,w0,ej,q,ew⟩:=P8 e;cases w0<;>simp only[capW] at ew<;>first|cases ew|(split at ew<;>cases ew)
  ·rw[zT (by walk_at "o")] at e
   cases q:i-(capE (li.map (·.2)) js ρ).length with
   | zero=>rw[q] at e;cases e
   | succ n=>rw[q] at e;simp at e
 ·by_cases hi:i<js.length
  ·have e':=e;rw[zQ (by walk_at "o")] at e'
   obtain⟨j,w0,ej,q,ew⟩:=P8 e';obtain⟨v,h1,h2⟩:=r.slot j w0 q;have e3:(capS js σ++[some (V.ref Dd)])[i]? =some (some v):=by rw[zQ (by walk_at "o")];exact Q0 ej h1
   rcases F6 r hl e rfl e3 with ⟨rfl,_⟩|⟨j,a,w0,l1,_,_,_,q,ow,qs,rfl⟩
   ·walk_at "o"
   ·exact⟨a,e3,zN _ (D4.mpr ⟨j,l1,qs⟩)⟩
  ·have hi':i=js.length:=by
    have:=(zK.mp e).1
    rw[zZ,hcl] at this;simp at this;walk_at "o"
   subst hi';exact⟨Dd,acc2,zR⟩
 ·rcases zO.mp e with e|e
  ·cases e;exact⟨_,acc1,acc2⟩
  ·obtain⟨j,e1,e2⟩:=D4.mp e;obtain⟨w0,d,_,_,q1,q2⟩:=lnt2 e1 e2;exact⟨d,q1,q2⟩
end
structure Tst (Y:Cx) (ifs:List Expr) (t:FT):Prop where
 to:∀(pins:List (Addr×PySem.Obj)) (s:Shared) (σ:L2.St) (H:Hp) (P:List (D×V)) (O:Av) (L:List (Option Nat×Addr)) (ρ ρ':Ev) (k:Bool) (Q:Bool->Hp->Prop),Inv Y pins σ H s->Rep Y P O L ρ σ H->t ρ=some (k,ρ')->(∀H',Rep Y P O L ρ' σ H'->Q k H')->
  wpAny (model Y.prog Y.w) Y.A (forIn ifs true fun c r=>if r=true then do let ok <-isTrue c Y.env (eval c Y.env);pure (ForInStep.yield ok) else pure (ForInStep.yield r)) (TP Y pins σ Q) Fa s
theorem z0 {Y:Cx}:Tst Y [] (fun ρ=>some (true,ρ)):=⟨fun pins s σ H P O L ρ ρ' k Q I r e q=>by cases e;exact wpAny_tests_nil ⟨H,I,q H r⟩⟩
theorem R8 {Y:Cx}{c:Expr}{t:FT}(hx:Y.xe=Fa)(h:QT Y c t):Tst Y [c] t:=⟨fun pins s σ H P O L ρ ρ' k Q I r e q=>by
 have z:=h.to pins s σ H Q I ⟨P,O,L,ρ,k,ρ',r,e,q⟩;rw[hx] at z
 exact wpAny_tests_one z⟩
def WksB (li:Option (Nat×Nat)) (K:PySem.W.Frag) (P:List (D×V)) (O:Av) (ρ:Ev) (σ:L2.St) (H:Hp) (xs:List D) (J:It):Prop:=∀(Y:Cx) (O':Av) (L:List (Option Nat×Addr)) (ρ':Ev) (σ':L2.St) (H':Hp),Y.K=K->Y.H₀=H->Rep Y P O' L ρ' σ' H'->(∀b,O' b->AvO O ρ σ b)->(li=none->∀i b,(i,b)∈L->H b=none)->
 (∀(i:Nat) (x:D),xs[i]? =some x->J.go i H'/\∀v H'',J.yld i H' v H''->Same H' H''/\Den K (AvO O' ρ' σ') H'' x v)/\J.stop xs.length H'
def tIB (X:Cx) (li:Option (Nat×Nat)) (fi:FI):TI:=fun σ H R=>∃P O L ρ xs ρ',Rep X P O L ρ σ H/\fi ρ=some (xs,ρ')/\∀J H1 P',Rep X P' O L ρ' σ H1->Holds P' P->WksB li X.K P' O ρ' σ H1 xs J->R J H1
theorem tIBe {X:Cx}{li:Option (Nat×Nat)}{fi:FI}{σ:L2.St}{H:Hp}{R:It->Hp->Prop}{C:Prop}(h:tIB X li fi σ H R)(k:∀P O L ρ xs ρ',Rep X P O L ρ σ H->fi ρ=some (xs,ρ')->(∀J H1 P',Rep X P' O L ρ' σ H1->Holds P' P->WksB li X.K P' O ρ' σ H1 xs J->R J H1)->C):C:=by
 obtain⟨P,O,L,ρ,w,ρ',r,e,q⟩:=h;exact k P O L ρ w ρ' r e q
structure QIB (X:Cx) (li:Option (Nat×Nat)) (tg iter:Expr) (fi:FI):Prop where
 to:PI X tg iter (tIB X li fi)
theorem Wks.b {li:Option (Nat×Nat)}{K:PySem.W.Frag}{P:List (D×V)}{O:Av}{ρ:Ev}{σ:L2.St}{H:Hp}{xs:List D}{J:It}(w:Wks K P xs J):WksB li K P O ρ σ H xs J:=fun Y O' L ρ' σ' H' hY _ r _ _=>w Y O' L ρ' σ' H' hY r
theorem B0 {X:Cx}{li:Option (Nat×Nat)}{tg iter:Expr}{fi:FI}(h:QI X tg iter fi):QIB X li tg iter fi:=⟨PI.weak h.to fun σ H R h0=>tIBe h0 fun P O L ρ xs ρ' r e q=>⟨P,O,L,ρ,xs,ρ',r,e,fun J H1 P' r1 hh w=>q J H1 P' r1 hh w.b⟩⟩
def fiName (i:Nat):FI:=fun ρ=>match ρ[i]? with
 | some (some (.v d))=>(items d).map fun xs=>(xs,ρ)
 | some (some (.r _))=>none
 | some (some w)=>match w.own with
  | some (.lst xs)=>some (xs,ρ)
  | _=>none
 | _=>none
theorem a9X {Y:Cx}{P:List (D×V)}{O O':Av}{L:List (Option Nat×Addr)}{ρ ρ':Ev}{σ σ':L2.St}{H H':Hp}(hH:Y.H₀=H)(r:Rep Y P O' L ρ' σ' H')(ho:∀b,O' b->AvO O ρ σ b)(hn:∀i b,(i,b)∈L->H b=none):Go (AvO O ρ σ) (AvO O' ρ' σ') (fun _=>False) H H' where
 k:=fun b o e _=>r.same b o (by rw[hH];exact e) fun i m=>by rw[hn i b m] at e;cases e
 m:=fun _ z=>z.elim
 n:=fun b z=>by
  rcases z with z|⟨i,w,d,e1,e2,e3⟩
  ·exact .inl (ho b z)
  ·cases w with
   | o c=>
    have z:=r.new i c b e1 e3;unfold hz at z;split at z
    ·rename_i m;exact .inr (hn none b m)
    ·exact .inr (by rw[<-hH];exact z)
   | l c=>obtain⟨b',q1,q2⟩:=r.lnt i c e1;rw[e3] at q1;cases q1;exact .inr (hn (some i) b q2)
   | _=>cases e2
theorem P0 {X:Cx}{tg:Expr}{pos:Pos}(i:Nat){x:Str}(hN:X.N[i]? =some x:=by rfl)(hv:Vis X.env.scope x:=by first|exact Or.inl rfl|exact Or.inr (Or.inl rfl)|exact Or.inr (Or.inr rfl))(hd:(x==("__debug__":Str))=false:=by decide)(hcd:(x==("__classdict__":Str))=false:=by decide):QIB X none tg (.Name x pos) (fiName i):=⟨PI.weak (a6N (a2R hN hv hd hcd)) fun σ H R h0=>tIBe h0 fun P O L ρ xs ρ' r e q=>by
 unfold fiName at e;split at e
 ·rename_i d0 e0;obtain⟨v,h1,h2⟩:=r.slot i _ e0;have h2:Den X.K (AvO O ρ σ) H d0 v:=h2;obtain⟨ys,e3,e⟩:=oms e;cases e;have r3:=r.more (p:=(d0,v)) h2;have hh:Holds ((d0,v)::P) P:=fun p hp=>zN _ hp;refine⟨v,h1,?_⟩;cases d0 with
  | tup zs=>
   cases e3;have z:=h2;rw[Den] at z;obtain⟨a,vs,rfl,hq,l⟩:=z;refine .inr ⟨a,rfl,⟨vs,hq⟩,q _ H _ r3 hh (Wks.b fun Y O' L' ρ' σ' Hh hY rr=>?_)⟩;have z:=rr.head;rw[hY] at z;rw[Den] at z;obtain⟨a',vs,ea,hq,l⟩:=z;cases ea;refine⟨fun i x ex=>?_,vs,hq,by rw[<-b4 l];exact zE _⟩
   obtain⟨v0,hv,dv⟩:=t5 l ex;exact⟨⟨vs,v0,hq,hv⟩,fun w H' ⟨y1,y2⟩=>by subst y1;have:=y2 vs hq;rw[hv] at this;cases this;exact⟨Same.refl _,dv⟩⟩
  | lst zs=>
   cases e3;obtain⟨a,vs,rfl,hq,l⟩:=B6 h2;refine .inl ⟨a,rfl,⟨vs,hq⟩,q _ H _ r3 hh (Wks.b fun Y O' L' ρ' σ' Hh hY rr=>?_)⟩;have z:=rr.head;rw[hY] at z;obtain⟨a',vs,ea,hq,l⟩:=B6 z;cases ea;refine⟨fun i x ex=>?_,vs,hq,by rw[<-b4 l];exact zE _⟩
   obtain⟨v0,hv,dv⟩:=t5 l ex;exact⟨⟨vs,v0,hq,hv⟩,fun w H' ⟨y1,y2⟩=>by subst y1;have:=y2 vs hq;rw[hv] at this;cases this;exact⟨Same.refl _,dv⟩⟩
  | _=>cases e3
 ·cases e
 ·rename_i w0 _ _ e0;cases ew:w0.own with
  | none=>rw[ew] at e;cases e
  | some c=>
   rw[ew] at e;cases c with
   | lst zs=>
    cases e;obtain⟨a,h1,h2⟩:=r.obj e0 ew;refine⟨.ref a,h1,?_⟩;obtain⟨vs,h4,lz⟩:=h2;refine .inl ⟨a,rfl,⟨vs,.inl (.inl h4)⟩,q _ H P r (fun p hp=>hp) fun Y O' L' ρ2 σ2 Hh hY hH rr ho hn=>?_⟩;have g:=a9X hH rr ho (hn rfl);have l2:=m6 g _ _ lz;have h5:Hh a=some (.lst vs):=g.k a _ h4 id;have hq:SqL X.K Hh a vs:=.inl (.inl h5);refine⟨fun i x ex=>?_,vs,hq,by rw[<-b4 lz];exact zE _⟩
    obtain⟨v0,hv,dv⟩:=t5 l2 ex;exact⟨⟨vs,v0,hq,hv⟩,fun w H' ⟨y1,y2⟩=>by subst y1;have:=y2 vs hq;rw[hv] at this;cases this;exact⟨Same.refl _,dv⟩⟩
   | _=>cases e
 ·cases e⟩
def appTo (k:Nat) (p:W×Ev):Option Ev:=(takeAll p.2 [p.1.fz]).bind fun q=>match q.1,ownAt q.2 k with
 | [d],some (.lst zs)=>if zs.length<lim then some (setOwn q.2 k (.lst (zs++[d]))) else none
 | _,_=>none
def turnC (k:Nat) (gf:FG) (t:FT) (fe:FX):D->Ev->Option Ev:=fun x ρ=>(gf x ρ).bind fun ρ1=>(t ρ1).bind fun p=>if p.1=true then(fe p.2).bind (appTo k) else some p.2
def loopC (st:D->Ev->Option Ev):List D->Ev->Option Ev
 | [],ρ=>some ρ
 | x::xs,ρ=>(st x ρ).bind (loopC st xs)
section
variable {X:Cx}{pins:List (Addr×PySem.Obj)}{σ:L2.St}{H2:Hp}{s2:Shared}{scope:Scope}{cl:List (Str×Addr)}{N:List Str}{js:List (Option Nat)}{fp:List Addr}{it:Addr}{tn:Nat->Heap->Prop}{J:It}{elt tg iter:Expr}{ifs:List Expr}{pos:Pos}{P:List (D×V)}{O:Av}{L:List (Option Nat×Addr)}{ρ ρe:Ev}{xs:List D}{gf:FG}{t:FT}{fe:FX}{Qq:Value->Shared->Prop}{use:Option (Value->Sem Unit)}{li:Option (Nat×Nat)}
def turnG (gf:FG) (t:FT) (stp:Ev->Option Ev):D->Ev->Option Ev:=fun x ρ=>(gf x ρ).bind fun ρ1=>(t ρ1).bind fun p=>if p.1=true then stp p.2 else some p.2
theorem a4S {new:Sem Value}{ce:Expr}{ob0:PySem.Obj}{o0:HO}{d0:D}{stp:Ev->Option Ev}{el:Env->Addr->Shared->(Shared->Prop)->Prop}
  (hnew:∀{Q:Value->Shared->Prop},Q (.ref s2.heap.objs.size) {s2 with heap:=s2.heap.push ob0}->wpAny (model X.prog X.w) X.A new Q X.xe s2) (hob:∀A H a,H a=some o0->Obj X.K A H a d0) (hok:HOk X.prog X.w (upd H2 s2.heap.objs.size o0) (s2.heap.push ob0))
  (hloop:∀{Dd:Addr} {env:Env} {R:Result->Shared->Prop} {s:Shared} (I:Nat->Shared->Prop),(∀n s,I n s->wpAny (model X.prog X.w) X.A (pyNext (.ref it)) (fun r s1=>match r with
   | none=>R (.ok .next) s1
   | some v=>wpAny (model X.prog X.w) X.A (letOwnedTupleGo tg (.ref it) v) (fun _ s2=>wpAny (model X.prog X.w) X.A (assign tg env v) (fun _ s3=>
     wpAny (model X.prog X.w) X.A (forIn ifs true fun c r=>if r=true then do let ok <-isTrue c env (eval c env);pure (ForInStep.yield ok) else pure (ForInStep.yield r)) (fun ok s4=>
      if ok=true then el env Dd s4 (fun s6=>∃m,m<n/\I m s6) else ∃m,m<n/\I m s4) Fa s3) Fa s2) Fa s1) Fa s)->∀n,I n s->codeAny (model X.prog X.w) X.A (.compLoop ce 0 (.ref it) (.ref Dd) env) R s)
  (hstart:∀{acc:Value} {env:Env} {R:Result->Shared->Prop} {s:Shared},codeAny (model X.prog X.w) X.A (.compLoop ce 0 (.ref it) acc env) R s->wpAny (model X.prog X.w) X.A (pyIter (.ref it)) (fun it' s'=>codeAny (model X.prog X.w) X.A (.compLoop ce 0 it' acc env) R s') (notedBy (model X.prog X.w) X.A env fun x s'=>R (.error x) s') s->codeAny (model X.prog X.w) X.A (.compStart ce 0 (.ref it) acc env) R s)
  (hE:∀{C Dd:Addr} {qs:List (Addr×PySem.Obj)} {σ6:L2.St} {H7:Hp} {s7:Shared} {O':Av} {L':List (Option Nat×Addr)} {ρ2 ρt:Ev} {K:Shared->Prop},(some js.length,Dd)∈L'->Inv (blk X scope cl s2 H2 fp C (N++[accN])) qs σ6 H7 s7->Rep (blk X scope cl s2 H2 fp C (N++[accN])) P O' L' ρ2 σ6 H7->stp ρ2=some ρt->(∀{s8 H8},Inv (blk X scope cl s2 H2 fp C (N++[accN])) qs σ6 H8 s8->Rep (blk X scope cl s2 H2 fp C (N++[accN])) P O' L' ρt σ6 H8->K s8)->el (compEnvC scope cl C X.env) Dd s7 K)
  (hcalm:X.calm=true) (I2:Inv X pins σ H2 s2) (T:Turn X.prog X.w X.K tg J fp it tn) (st2:tn 0 s2.heap) (f2:∀y∈fp,FpOk X pins H2 y) (b:Blk X scope cl N js) (r:Rep X P O L ρ σ H2) (hl:LiOk li js ρ) (wk:WksB li X.K P O ρ σ H2 xs J)
  (hg:∀C,QG (blk X scope cl s2 H2 fp C (N++[accN])) tg gf) (ht:∀C,Tst (blk X scope cl s2 H2 fp C (N++[accN])) ifs t)
  (e:loopC (turnG gf t stp) xs (capE (li.map (·.2)) js ρ++[some (.l d0)])=some ρe)
  (fin:∀(Dd C:Addr) (σe:L2.St) (He:Hp) (s1:Shared),H2 Dd=none->s2.heap.objs.size<=C->Inv (blk X scope cl s2 H2 fp C (N++[accN])) [] σe He s1->Rep (blk X scope cl s2 H2 fp C (N++[accN])) P (fun b=>AvO O ρ σ b/\¬Capd ρ σ js b) ((some js.length,Dd)::lentL li σ) ρe σe He->
   compPost (model X.prog X.w) X.A X.xe use Qq (.ref Dd) C (.ok .next) s1):
  wpAny (model X.prog X.w) X.A new (fun acc s3=>wpAny (model X.prog X.w) X.A (newFunctionEnv scope X.env.globals cl [] X.env.qual none .none (some X.env)) (fun cenv s4=>
   codeAny (model X.prog X.w) X.A (.compStart ce 0 (.ref it) acc {cenv with scope:=relabel scope X.env}) (compPost (model X.prog X.w) X.A X.xe use Qq acc cenv.locals) s4) X.xe s3) X.xe s2:=by
 have fl:∀y∈fp,y<s2.heap.objs.size:=fun y hy=>by obtain⟨o,eo,_⟩:=T.obj _ _ st2 y hy;exact zS eo
 refine hnew (wpAny_newFunctionEnv b.cell (by intro y hy;simp at hy) (fun h' hns hsb=>?_) b.kind)
 dsimp only at hns hsb ⊢;generalize hH:s2.heap.push ob0=H3 at hok hns hsb ⊢;have hC:H3.objs.size=s2.heap.objs.size+1:=by rw[<-hH,jR]
 have ne:s2.heap.objs.size≠H3.objs.size:=by rw[hC];exact zG (jU _)
 have leC:s2.heap.objs.size<=H3.objs.size:=by rw[hC];exact Nat.le_succ _
 have kp3:∀y o,s2.heap.get? y=some o->H3.get? y=some o:=fun y o e=>hH▸zC _ e;have kp4:∀y o,H3.get? y=some o->h'.get? y=some o:=fun y o e=>hsb.extBut y o (zG (zS e)) (zC _ e);have hDn:H2 s2.heap.objs.size=none:=I2.hok.fresh (zE _);have I4:=a7x (s4:={s2 with heap:=h',toks:=s2.toks+([]:List (Str×Value)).length}) (Dd:=s2.heap.objs.size) (C:=H3.objs.size) I2 b f2 fl leC (zE _) ne rfl I2.bare (fun y o e=>kp4 y o (kp3 y o e)) hns (hok.kept kp4)
 have R4:=a3G (d0:=d0) (o0:=o0) (fun A H=>hob A H _) (scope:=scope) (cl:=cl) (N:=N) (s2:=s2) (fp:=fp) (C:=H3.objs.size) (Dd:=s2.heap.objs.size) r hl hDn;have hfree:∀{H':Hp},(∀y∈fp,H' y=none)->∀y∈fp,FpOk (blk X scope cl s2 H2 fp H3.objs.size (N++[accN])) [] H' y:=fun hn y hy=>
  ⟨hn y hy,zG (zF (fl y hy) leC),fun z=>(zO.mp (I2.stkSub y z)).elim (f2 y hy).2.1 (f2 y hy).2.2.1,.inl hy,fun x c ec=>(f2 y hy).2.2.2.2.1 x c (b.sub x c ec),fun p hp=>absurd (show p∈([]:List (Addr×PySem.Obj)) from hp) (by simp)⟩
 obtain⟨gg,pg,kg⟩:=(hg H3.objs.size).to;have loop:∀s5:Shared,s5={s2 with heap:=h',toks:=s2.toks+([]:List (Str×Value)).length}->
   codeAny (model X.prog X.w) X.A (.compLoop ce 0 (.ref it) (.ref s2.heap.objs.size) (compEnvC scope cl H3.objs.size X.env))
    (compPost (model X.prog X.w) X.A X.xe use Qq (.ref s2.heap.objs.size) H3.objs.size) s5:=by
  rintro s5 rfl
  let Y:=blk X scope cl s2 H2 fp H3.objs.size (N++[accN])
  let O':Av:=fun b=>AvO O ρ σ b/\¬Capd ρ σ js b
  let L':=(some js.length,s2.heap.objs.size)::lentL li σ
  refine hloop (fun n s=>∃i σ' H' ρ',n=xs.length-i/\i<=xs.length/\Inv Y [] σ' H' s/\tn i s.heap/\(∀y∈fp,H' y=none)/\Rep Y P O' L' ρ' σ' H'/\loopC (turnG gf t stp) (xs.drop i) ρ'=some ρe) ?_ xs.length
   ⟨0,_,_,_,by simp,jW _,I4,T.keep 0 _ _ st2 fun y hy o eo=>kp4 y o (kp3 y o eo),fun y hy=>by rw[c6 (zG (fl y hy))];exact(f2 y hy).1,R4,by simpa using e⟩
  rintro n s ⟨i,σ',H',ρ',rfl,hi,I,st,fr,rp,el⟩;obtain⟨wi,ws⟩:=wk Y O' L' ρ' σ' H' rfl rfl rp (fun b z=>z.1) (fun z i b m=>by subst z;exact(zO.mp m).elim (fun m=>by cases m;exact hDn) (fun m=>by cases m))
  by_cases hlt:i<xs.length
  ·obtain⟨go,yl⟩:=wi i xs[i] (by simp[hlt])
   refine qB (T.item Y rfl rfl rfl hcalm i [] s σ' H' Fa I (hfree fr) st go) (fun r s1 ⟨u,hr,h1⟩=>?_) fun _ _ z=>z;subst hr;refine qB h1 (fun _ s3 ⟨x,H5,I5,r5,y5,st5,fr5⟩=>?_) fun _ _ z=>z;obtain⟨sm5,dx⟩:=yl x H5 y5
   replace rp:=rp.grow sm5
   rw[xL hlt,loopC] at el;cases e1:turnG gf t stp xs[i] ρ' with
   | none=>rw[e1] at el;cases el
   | some ρt=>
    rw[e1] at el;simp only[bind_some] at el;unfold turnG at e1;cases e2:gf xs[i] ρ' with
    | none=>rw[e2] at e1;cases e1
    | some ρ1=>
     rw[e2] at e1;simp only[bind_some] at e1;obtain⟨⟨k,ρ2⟩,e3,e1⟩:=obs e1;dsimp only at e1;have I5':=I5.pinned (hfree fr5) (T.obj _ _ st5);have gq:=kg P O' L' xs[i] x ρ' ρ1 σ' H5 (fun σ2 Hh=>Rep Y P O' L' ρ1 σ2 Hh) rp dx e2 (fun σ2 H2' rp2=>rp2);refine qB (pg _ s3 σ' H5 x u _ I5' r5 gq) (fun _ s6 ⟨σ6,H6,I6,rp6⟩=>?_) fun _ _ z=>z;have back:∀{s7:Shared} {H7:Hp} {ρ7:Ev},Inv Y ([]++pinsAt fp s3.heap) σ6 H7 s7->Rep Y P O' L' ρ7 σ6 H7->loopC (turnG gf t stp) (xs.drop (i+1)) ρ7=some ρe->
       ∃m,m<xs.length-i/\∃i σ' H' ρ',m=xs.length-i/\i<=xs.length/\Inv Y [] σ' H' s7/\tn i s7.heap/\(∀y∈fp,H' y=none)/\Rep Y P O' L' ρ' σ' H'/\loopC (turnG gf t stp) (xs.drop i) ρ'=some ρe:=fun{s7 H7 ρ7} I7 rp7 e7=>by
      refine⟨xs.length-(i+1),by walk_at "o",i+1,σ6,H7,ρ7,rfl,hlt,I7.unpinned,T.keep _ _ _ st5 fun y hy o eo=>(I7.pin (y,o) (qP _ (qP _ (w4 hy eo)))).1,fun y hy=>?_,rp7,e7⟩
      obtain⟨o,eo,_⟩:=T.obj _ _ st5 y hy;exact(I7.pin (y,o) (qP _ (qP _ (w4 hy eo)))).2.1
     refine qB ((ht H3.objs.size).to _ s6 σ6 H6 P O' L' ρ1 ρ2 k (fun k' Hh=>k'=k/\Rep Y P O' L' ρ2 σ6 Hh) I6 rp6 e3 (fun H' rr=>⟨rfl,rr⟩)) (fun ok s7 ⟨H7,I7,hk,rp7⟩=>?_) fun _ _ z=>z;subst hk;cases ok with
     | false=>
      rw[if_neg zP] at e1 ⊢;cases e1;exact back I7 rp7 el
     | true=>
      rw[if_pos rfl] at e1 ⊢;exact hE zR I7 rp7 e1 fun I8 rp8=>back I8 rp8 el
  ·have hie:i=xs.length:=by walk_at "o"
   subst hie;refine qB (T.done Y rfl rfl rfl hcalm _ [] s σ' H' Fa I (hfree fr) st ws) (fun r s1 ⟨hr,I1⟩=>?_) fun _ _ z=>z;subst hr;rw[List.drop_eq_nil_of_le (zE _),loopC] at el;cases el;exact fin _ _ σ' H' s1 hDn leC I1 rp
 exact hstart (loop _ rfl) (T.self _ 0 _ _ _ (T.keep 0 _ _ st2 fun y hy o eo=>kp4 y o (kp3 y o eo)) (loop _ rfl))
theorem a5Q (hcalm:X.calm=true)(I2:Inv X pins σ H2 s2)(T:Turn X.prog X.w X.K tg J fp it tn)(st2:tn 0 s2.heap)(f2:∀y∈fp,FpOk X pins H2 y)(b:Blk X scope cl N js)(r:Rep X P O L ρ σ H2)(hl:LiOk li js ρ)(wk:WksB li X.K P O ρ σ H2 xs J)
  (hg:∀C,QG (blk X scope cl s2 H2 fp C (N++[accN])) tg gf) (ht:∀C,Tst (blk X scope cl s2 H2 fp C (N++[accN])) ifs t) (he:∀C,QX (blk X scope cl s2 H2 fp C (N++[accN])) elt fe)
  (e:loopC (turnC js.length gf t fe) xs (capE (li.map (·.2)) js ρ++[some (.l (.lst []))])=some ρe)
  (fin:∀(Dd C:Addr) (σe:L2.St) (He:Hp) (s1:Shared),H2 Dd=none->s2.heap.objs.size<=C->Inv (blk X scope cl s2 H2 fp C (N++[accN])) [] σe He s1->Rep (blk X scope cl s2 H2 fp C (N++[accN])) P (fun b=>AvO O ρ σ b/\¬Capd ρ σ js b) ((some js.length,Dd)::lentL li σ) ρe σe He->
   compPost (model X.prog X.w) X.A X.xe use Qq (.ref Dd) C (.ok .next) s1):
  wpAny (model X.prog X.w) X.A (newList []) (fun acc s3=>wpAny (model X.prog X.w) X.A (newFunctionEnv scope X.env.globals cl [] X.env.qual none .none (some X.env)) (fun cenv s4=>
   codeAny (model X.prog X.w) X.A (.compStart (.ListComp elt [⟨tg,iter,ifs,0⟩] scope pos) 0 (.ref it) acc {cenv with scope:=relabel scope X.env}) (compPost (model X.prog X.w) X.A X.xe use Qq acc cenv.locals) s4) X.xe s3) X.xe s2:=
 a4S (new:=newList []) (ob0:={cls:=.type "list",dict:=none,data:=.seq ([]:List Value).toArray}) (o0:=.lst []) (d0:=.lst []) (stp:=fun ρ=>(fe ρ).bind (appTo js.length)) (el:=fun env a s K=>wpAny (model X.prog X.w) X.A (eval elt env) (fun x s5=>wpAny (model X.prog X.w) X.A (call (.builtin "list.append") [.ref a,x]) (fun _ s6=>K s6) Fa s5) Fa s)
  (fun h=>qF h) (fun _ _ _ e=>⟨[],e,g8⟩) (I2.hok.laid (fun y o e=>zC _ e) (zE _) ⟨jW _,[],0,.nil,zL _ rfl⟩) (fun I t n h=>a0N I t n h) codeAny_compStart_list
  (fun{C Dd qs σ6 H7 s7 O' L' ρ2 ρt K} hL I7 rp7 e1 back=>by
   obtain⟨⟨w,ρ3⟩,e4,e1⟩:=obs e1;simp only[appTo] at e1;obtain⟨⟨ds,ρ4⟩,e5,e1⟩:=obs e1;dsimp only at e1;split at e1
   ·rename_i d zs e6;split at e1
    ·rename_i hl;cases e1;refine qB ((he C).to _ s7 σ6 H7 (fun v H8=>Rep (blk X scope cl s2 H2 fp C (N++[accN])) P O' L' ρ4 σ6 H8/\Den X.K (AvO O' ρ4 σ6) H8 d v) I7 ⟨P,O',L',ρ2,w,ρ3,rp7,e4,fun v H8 H8' r8 s8 d8=>?_⟩) (fun u8 s8 ⟨v8,H8,I8,r8,rp8,d8⟩=>?_) fun _ _ z=>z
     ·obtain⟨r9,l9,_⟩:=m5 (vs:=[v]) (r8.grow s8) e5 ⟨v,[],rfl,d8.fz r8 s8,rfl⟩;obtain⟨v',ev,h'⟩:=denL1 l9;cases ev;exact⟨r9,h'⟩
     ·obtain⟨d0,q1,q2⟩:=rp8.lnd js.length Dd hL;have e6':=e6;unfold ownAt at e6';rw[q1] at e6';cases e6';obtain⟨a,h1,vs,h4,lz⟩:=rp8.obj q1 rfl;rw[q2] at h1;cases h1;have h9:=V3 _ s8 σ6 H8 (.ref Dd) [v8] (.ref Dd) [u8] (fun v H9=>H9=upd H8 Dd (.lst (vs++[v8]))) I8 rfl (.cons r8 .nil) ⟨_,vs,v8,rfl,rfl,h4,by rw[<-b4 lz];exact zF hl t6,rfl⟩
      refine qB h9 (fun _ s9 ⟨v9,H9,I9,_,e9⟩=>?_) fun _ _ z=>z;subst e9;have g0:Go (AvO O' ρ4 σ6) (AvO O' ρ4 σ6) (fun b=>b=Dd) H8 (upd H8 Dd (.lst (vs++[v8]))):=⟨fun b o eb nb=>by rw[c6 nb];exact eb,fun b z=>by rw[z];exact⟨.inr ⟨js.length,_,_,q1,rfl,q2⟩,_,h4,trivial⟩,fun b z=>.inl z⟩
      exact back I9 (rp8.mut (d:=.lst (zs++[d])) e6 q2 (fun b o eb nb=>by rw[c6 nb];exact eb) ⟨_,j5,m6 g0 _ _ (k6 lz (e8 d8 g8))⟩)
    ·cases e1
   ·cases e1) hcalm I2 T st2 f2 b r hl wk hg ht e fin
theorem a5J {C:Addr}{σe:L2.St}{He:Hp}{s1:Shared}{h9:Heap}(I2:Inv X pins σ H2 s2)(f2:∀y∈fp,FpOk X pins H2 y)(leC:s2.heap.objs.size<=C)(I1:Inv (blk X scope cl s2 H2 fp C (N++[accN])) [] σe He s1)(hs9:∀y,y≠C->h9.get? y=s1.heap.get? y):
  Inv X pins σ He {s1 with heap:=h9}:=by
 have neC:∀y,He y≠none->y≠C:=fun y z w=>z (by rw[w];exact I1.free)
 have inS:∀y o,s2.heap.get? y=some o->y≠C:=fun y o e0=>zG (zF (zS e0) leC);have B:=I1.base
 have un:Un (frs X.stack) fp H2 He s2.heap h9:=⟨fun y o e0 n hb hx=>(hs9 y (inS y o e0)).trans (B.keep y o e0 n hb hx),fun y o e0 n hb hx=>by
   obtain⟨sl',z⟩:=B.slot y o e0 n hb hx;exact⟨sl',(hs9 y (inS y o e0)).trans z⟩,B.free,fun y o e0 hx=>by
   obtain⟨o',z⟩:=B.there y o e0 hx
   exact⟨o',(hs9 y (inS y o e0)).trans z⟩,B.tups,B.frzs,B.tbls⟩
 have hok:HOk X.prog X.w He h9:=fun y u0 q0=>(I1.hok y u0 q0).stay (fun c v hc z=>(hs9 c (neC c (by
   rcases hc with w|w
   ·rw[w,q0];exact fun z=>nomatch z
   ·rw[w];exact fun z=>nomatch z))).trans z) (fun _ z=>z) fun _ _ z=>z
 exact I2.call' (s':={s1 with heap:=h9}) (ch:=fp) I1.os un hok I1.bare (fun y hy=>⟨(f2 y hy).2.2.2.1,(f2 y hy).2.1,(f2 y hy).2.2.2.2.1,(f2 y hy).2.2.2.2.2⟩)
end
def capR (js:List (Option Nat)):List W:=js.filterMap fun o=>o.map W.r
def backG (li:Option (Nat×Nat)) (js:List (Option Nat)) (ρe ρ1:Ev) (d:D):Option (W×Ev):=match li with
 | none=>if lfC d=true then some (.o d,ρ1) else(frzL (capR js) ρ1).map fun ρ2=>(.o d,ρ2)
 | some (i,j)=>if lfC d=true then(ownAt ρe i).bind fun c=>if lfC c=true then some (.o d,setOwn ρ1 j c) else none else none
def liJ (li:Option (Nat×Nat)) (js:List (Option Nat)):Bool:=match li with
 | none=>true
 | some (i,j)=>js[i]? == some (some j)&&(List.range js.length).all fun k=>js[k]? != some (some j)||k==i
def liB (li:Option (Nat×Nat)) (ρ:Ev):Bool:=match li with
 | none=>true
 | some (_,j)=>(ownAt ρ j).isSome
def fComp (fi:FI) (li:Option (Nat×Nat)) (js:List (Option Nat)) (gf:FG) (t:FT) (fe:FX):FX:=fun ρ=>(fi ρ).bind fun p=>if liB li p.2=true then
  (loopC (turnC js.length gf t fe) p.1 (capE (li.map (·.2)) js p.2++[some (.l (.lst []))])).bind fun ρe=>match ownAt ρe js.length with
   | some (.lst ys)=>backG li js ρe p.2 (.lst ys)
   | _=>none
 else none
section
variable {X:Cx}{pins:List (Addr×PySem.Obj)}{σ σe:L2.St}{H2 He:Hp}{s2:Shared}{scope:Scope}{cl:List (Str×Addr)}{N:List Str}{js:List (Option Nat)}{fp:List Addr}{Dd C:Addr}{elt tg iter:Expr}{ifs:List Expr}{pos:Pos}{P:List (D×V)}{O:Av}{L:List (Option Nat×Addr)}{ρ ρ2 ρe:Ev}{w:W}{ys:List D}{fi:FI}{gf:FG}{t:FT}{fe:FX}{li:Option (Nat×Nat)}
theorem a8M (h:liJ li js=true)(hb:liB li ρ=true):LiOk li js ρ:=by
 cases li with
 | none=>exact⟨nofun,nofun,nofun⟩
 | some p=>
  obtain⟨i,j⟩:=p;simp only[liJ,jV,beq_iff_eq,jY,xB,Bool.or_eq_true,bne_iff_ne] at h;simp only[liB,jP] at hb;refine⟨fun i' j' e=>by cases e;exact hb,fun i' j' e=>by cases e;exact h.1,fun i' j' k e ek=>?_⟩
  cases e;rcases h.2 k (zK.mp ek).1 with z|z
  ·exact absurd ek z
  ·exact z
theorem a5H {j:Nat}:W.r j∈capR js↔some j∈js:=by
 unfold capR;rw[mem_filterMap];constructor
 ·rintro⟨o,h1,h2⟩;cases o with
  | none=>cases h2
  | some k=>cases h2;exact h1
 ·exact fun h=>⟨some j,h,rfl⟩
theorem a3j (r:Rep X P O L ρ σ H2)(hl:LiOk li js ρ)(hn:H2 Dd=none)(rp:Rep (blk X scope cl s2 H2 fp C (N++[accN])) P (fun b=>AvO O ρ σ b/\¬Capd ρ σ js b) ((some js.length,Dd)::lentL li σ) ρe σe He)
  {d0:D} (ey:ownAt ρe js.length=some d0) (e:backG li js ρe ρ d0=some (w,ρ2)):∃Hx,Rep X P O L ρ2 σ Hx/\Same Hx He/\DenW X.K (AvO O ρ2 σ) σ Hx He w (.ref Dd):=by
 obtain⟨c0,q0,ob⟩:=rp.lents js.length Dd zR;rw[ey] at q0;cases q0;cases li with
 | none=>
  have sm:Same H2 He:=fun b o eb=>rp.same b o eb fun i m=>by
   rcases zO.mp m with m|m
   ·cases m;rw[hn] at eb;cases eb
   ·cases m
  unfold backG at e;simp only at e;split at e
  ·rename_i hf;cases e;exact⟨H2,r,sm,Dd,rfl,hn,M9 (d:=d0) (fun _ _ e _=>e) hf rfl ob⟩
  ·obtain⟨ρ3,e4,e⟩:=oms e;cases e;obtain⟨r2,k2⟩:=E9 r e4;refine⟨H2,r2,sm,Dd,rfl,hn,p7 (n9 fun b z=>?_) rfl ob⟩;rcases z with z|z
   ·obtain⟨z1,z2⟩:=N8 r k2 z;exact .inl ⟨z1,fun⟨j,w,d,m,q⟩=>z2 ⟨j,w,d,a5H.mpr m,q⟩⟩
   ·exact .inr ⟨js.length,by rw[z];exact zR⟩
 | some p=>
  obtain⟨i,j⟩:=p;unfold backG at e;simp only at e;split at e
  ·rename_i hf;cases e5:ownAt ρe i with
   | none=>rw[e5] at e;cases e
   | some c=>
    rw[e5] at e;simp only[bind_some] at e;split at e
    ·rename_i hc;cases e;obtain⟨c1,ec1⟩:=hl.own i j rfl;obtain⟨w0,q1,ow⟩:=m3 ec1;obtain⟨a,h1,oba⟩:=r.obj q1 ow;obtain⟨u0,eu0,_⟩:=A9 oba;have na:a≠Dd:=fun z=>by rw[z,hn] at eu0;cases eu0
     have mem:(some i,a)∈lentL (some (i,j)) σ:=D4.mpr ⟨j,rfl,h1⟩;obtain⟨c2,ec2,ob2⟩:=rp.lents i a (zN _ mem);rw[e5] at ec2;cases ec2;obtain⟨ur,eur,mur⟩:=A9 ob;have keep:∀b o,H2 b=some o->b≠a->He b=some o:=fun b o eb nb=>rp.same b o eb fun k m=>by
      rcases zO.mp m with m|m
      ·cases m;rw[hn] at eb;cases eb
      ·cases k with
       | none=>exact a0h m
       | some k=>
        obtain⟨j',e1,e2⟩:=D4.mp m;cases e1;rw[h1] at e2;cases e2;exact nb rfl
     refine⟨fun b=>if b=Dd then none else He b,r.mut ec1 h1 (fun b o eb nb=>?_) (M9 (fun b o eb nm=>?_) hc (if_neg na) ob2),fun b o eb=>?_,Dd,rfl,if_pos rfl,M9 (d:=d0) (fun _ _ e _=>e) hf rfl ob⟩
     ·have:b≠Dd:=fun z=>by rw[z,hn] at eb;cases eb
      show(if b=Dd then none else He b)=some o;rw[if_neg this];exact keep b o eb nb
     ·have:b≠Dd:=fun z=>by rw[z,eur] at eb;cases eb;exact nm mur
      show(if b=Dd then none else He b)=some o;rw[if_neg this];exact eb
     ·dsimp only at eb;split at eb
      ·cases eb
      ·exact eb
    ·cases e
  ·cases e
theorem a6i {Q:VK}{Qq:Value->Shared->Prop}{use:Option (Value->Sem Unit)}{H:Hp}{s:Shared}{newPos:Pos}(hc:X.calm=true)(b:Blk X scope cl N js)(hj:liJ li js=true)(hi:QIB X li tg iter fi)
  (hg:∀s2 H2 fp C,QG (blk X scope cl s2 H2 fp C (N++[accN])) tg gf) (ht:∀s2 H2 fp C,Tst (blk X scope cl s2 H2 fp C (N++[accN])) ifs t) (he:∀s2 H2 fp C,QX (blk X scope cl s2 H2 fp C (N++[accN])) elt fe) (hs:∀x,foldedSetIterable iter X.env x=pure x)
  (I:Inv X pins σ H s) (h:tX X (fComp fi li js gf t fe) σ H Q)
  (fin:∀(C:Addr) (v:V) (He:Hp) (s1:Shared),Q v He->(∀h9:Heap,(∀y,y≠C->h9.get? y=s1.heap.get? y)->Inv X pins σ He {s1 with heap:=h9})->FpOk X pins He C->(∃m,s1.heap.Ns C m)->∀vv,RelV v vv->compPost (model X.prog X.w) X.A X.xe use Qq vv C (.ok .next) s1):
  wpAny (model X.prog X.w) X.A (comprehension (.ListComp elt [⟨tg,iter,ifs,0⟩] scope pos) scope X.env newPos (newList []) false (eval iter X.env) use) Qq X.xe s:=by
 obtain⟨P,O,L,ρ,w,ρ',r,e,q⟩:=h;unfold fComp at e;obtain⟨⟨xs,ρ1⟩,e1,e⟩:=obs e;dsimp only at e;split at e
 ·rename_i hb;cases e2:loopC (turnC js.length gf t fe) xs (capE (li.map (·.2)) js ρ1++[some (.l (.lst []))]) with
  | none=>rw[e2] at e;cases e
  | some ρe=>
   rw[e2] at e;simp only[bind_some] at e;split at e
   ·rename_i ys ey;have hl:=a8M hj hb;refine wpAny_comprehension_free rfl hs b.clos b.kind b.nms ?_;refine qB (hi.to pins s σ H _ I ⟨P,O,L,ρ,xs,ρ1,r,e1,fun J H1 P' r1 hh wk=>(⟨P',r1,hh,wk⟩:∃P',Rep X P' O L ρ1 σ H1/\Holds P' P/\WksB li X.K P' O ρ1 σ H1 xs J)⟩) (fun v s1 h1=>qB h1 (fun itv s2 h2=>?_) fun _ _ z=>z) fun _ _ z=>z;obtain⟨it,fp,tn,J,H2,rfl,I2,T,st2,f2,P',r1,hh,wk⟩:=h2;refine a5Q hc I2 T st2 f2 b r1 hl wk (hg s2 H2 fp) (ht s2 H2 fp) (he s2 H2 fp) e2 fun Dd C σe He s3 hn leC I1 rp=>?_;obtain⟨Hx,rx,sx,dx⟩:=a3j r1 hl hn rp ey e;obtain⟨m,hm,_⟩:=id I1.loc;refine fin C (.ref Dd) He s3 (q _ Hx He (rx.holds hh) sx dx) (fun h9 k9=>a5J I2 f2 leC I1 k9) ?_ ⟨m,hm⟩ (.ref Dd) rfl;exact I2.fpOk leC I1.free
   ·cases e
 ·cases e
theorem q5 (hc:X.calm=true)(b:Blk X scope cl N js)(hi:QIB X li tg iter fi)(hg:∀s2 H2 fp C,QG (blk X scope cl s2 H2 fp C (N++[accN])) tg gf)(ht:∀s2 H2 fp C,Tst (blk X scope cl s2 H2 fp C (N++[accN])) ifs t)(he:∀s2 H2 fp C,QX (blk X scope cl s2 H2 fp C (N++[accN])) elt fe)
  (hj:liJ li js=true:=by rfl) (hs:∀x,foldedSetIterable iter X.env x=pure x:=by intro _;rfl):QX X (.ListComp elt [⟨tg,iter,ifs,0⟩] scope pos) (fComp fi li js gf t fe):=⟨fun pins s σ H Q I h=>by
 rw[eval_ListComp];refine a6i (use:=none) hc b hj hi hg ht he hs I h fun C v He s1 hq back fp ⟨m,hm⟩ vv rv=>?_
 exact⟨m,hm,fun h9 k9=>⟨v,He,back h9 fun y ny=>k9.2 y ny,rv,hq⟩⟩⟩
end
theorem a4B {prog:Program}{w:World}{A:Around}(hh:A.handled=none){l I:Addr}{its:Array Value}(ne:l≠I):
  Walks prog w A I [I,l] [I] its.size (fun i v=>its[i]? =some v) (fun i h=>h.IsListIter I l i/\h.IsList l its) where
 sub:=fun b hb=>by rw[qA.mp hb];exact zR
 frame:=fun i h h' ⟨⟨o,e,r⟩,⟨o2,e2,r2⟩⟩ k=>⟨⟨o,k I zR o e,r⟩,⟨o2,k l (zN _ zR) o2 e2,r2⟩⟩
 item:=fun i s Q E hi ⟨h1,h2⟩ q=>wpAny_pyNext_list_item h1 h2 (x:=its[i]) (by simp[hi]) fun h' hit hs=>q its[i] h' s.toks (by simp[hi]) ⟨hit,h2.extBut hs.extBut ne⟩ fun b o hb e=>hs.extBut b o (fun z=>hb (by rw[z];exact qA.mpr rfl)) e
 done:=fun s Q E ⟨h1,h2⟩ q=>wpAny_pyNext_list_end hh h1 h2 (by simp) fun h' hx=>q h' s.toks fun b o hb e=>hx b o (fun z=>hb (by rw[z];exact qA.mpr rfl)) e
 self:=fun i s Q E ⟨h1,_⟩ q=>wpAny_pyIter_listiter h1 q
theorem a6n {bs:List Bool}{its:List Value}(r:Vals (bs.map V.bl) its){i:Nat}{v:Value}(e:its.toArray[i]? =some v):v= .bool (bs.getD i false):=by
 rw[List.getElem?_toArray] at e
 induction bs generalizing its i with
 | nil=>cases r;simp at e
 | cons b bs ih=>
  cases r with
  | cons r1 r2=>
   cases i with
   | zero=>simp at e;subst e;exact r1
   | succ i=>exact ih r2 (by simpa using e)
theorem a4K (bs:List Bool)(n:Nat)(hn:n=bs.length):(List.range n).all (fun i=>bs.getD i false)=bs.all id:=by
 subst hn;apply Bool.eq_iff_iff.mpr;simp only[jY,xB,id];constructor
 ·intro h x hx;obtain⟨i,hi,e⟩:=mem_iff_getElem.mp hx
  have:=h i hi
  rw[zH,zM hi] at this;simpa [e] using this
 ·intro h i hi;rw[zH,zM hi];exact h _ (getElem_mem hi)
section
variable {X:Cx}
theorem L3 (hc:X.calm=true):CallR X (.builtin "all") (fun xs H Q=>∃(p:Addr) (bs:List Bool),xs=[.ref p]/\SqL X.K H p (bs.map V.bl)/\Q (.bl (bs.all id)) H):=by
 intro pins s σ H xs us Q I r h;obtain⟨p,bs,rfl,hq,q⟩:=h;obtain⟨u,rfl,ru⟩:=vals1 r;cases ru;obtain⟨its,rv,⟨o,m,h1,h2,_,h4⟩,hz⟩:=I.list hq;have hl:s.heap.IsList p its.toArray:=⟨o,h1,h2,m,h4⟩;have ne:p≠s.heap.objs.size:=zG (zS h1);refine call_all_walk (wpAny_pyIter_list hl ⟨s.heap.objs.size,_,_,_,_,_,fun i=>bs.getD i false,rfl,a4B (show X.A.in1.handled=none from I.ok.hd hc) ne,⟨⟨_,zL _ rfl,rfl,rfl⟩,hl.push _⟩,fun i v s' Q' E' hv hq'=>?_,fun h' tk hk=>?_⟩)
 ·rw[a6n rv hv];exact wpAny_truthy_bool hq'
 ·have I1:Inv X pins σ H {s with heap:=h',toks:=tk}:=I.kept (t':=tk) fun b ob e=>hk b ob (fun z=>absurd (zS e) (by rw[qA.mp z];exact jD _)) (zC _ e)
  refine⟨.bl _,H,I1,?_,q⟩;show Value.bool _=Value.bool _;rw[a4K bs _ (by rw[zV,<-rv.length,zD])]
end
section
variable {h:FX}
theorem a15 (i:Int):∀ns:List Int,inV (.int i) (ns.map V.int)=decide (i∈ns)
 | []=>rfl
 | n::ns=>by
  have ih:=a15 i ns;unfold inV at ih ⊢;rw[zJ,any_cons,ih];show((n==i)||_)=_
  by_cases h:n=i
  ·simp[h]
  ·have h':¬i=n:=fun z=>h z.symm;simp[h,h']
theorem a07:∀ns:List Int,(ns.map V.int).all flatV=true
 | []=>rfl
 | n::ns=>by rw[zJ,all_cons,a07 ns];rfl
end
def sortI (ns:List Int):List Int:=ns.mergeSort fun a b=>decide (a<=b)
theorem Y5 (ns:List Int):(sortI ns).Perm ns:=List.mergeSort_perm ns _
theorem a1o (ns:List Int):(sortI ns).Pairwise (·<=·):=by
 have z:=List.pairwise_mergeSort (le:=fun a b:Int=>decide (a<=b)) (fun a b c h1 h2=>by
  simp only[xH] at *;walk_at "o") (fun a b=>by
  simp only[Bool.or_eq_true,xH];walk_at "o") ns
 exact z.imp fun h=>by simpa using h
theorem F5:∀{its:List Value} {ns:List Int},IntsAre its ns->Vals (ns.map V.int) its
 | _,_,.nil=>.nil
 | _,_,.cons a t r=>.cons ⟨t,rfl⟩ (F5 r)
section
variable {X:Cx}{e:Expr}{p:Pos}
theorem a1M:CallR X (.builtin "sorted") (fun xs H Q=>∃(p:Addr) (ns:List Int),xs=[.ref p]/\SqL X.K H p (ns.map V.int)/\ns.length<64/\∀l,H l=none->Q (.ref l) (upd H l (.lst ((sortI ns).map V.int)))):=by
 intro pins s σ H xs us Q I r h;obtain⟨p,ns,rfl,hq,h64,q⟩:=h;obtain⟨u,rfl,ru⟩:=vals1 r;cases ru;refine Calls.call_function_entry kind_sorted plain_sorted entry_sorted (args_sorted1 _) ?_;unfold Builtin.«sorted»;refine zA (m:=checkCount "sorted" 1 1 _) (zB ?_);obtain⟨its,rv,⟨o,m,h1,h2,_,h4⟩,hz⟩:=I.list hq;have len:its.length=ns.length:=by rw[<-rv.length,zD]
 have hL:s.heap.IsList p its.toArray:=⟨o,h1,h2,m,h4⟩;have sz:its.length<=sizeLine:=by rw[len,qY];walk_at "o"
 refine zA (collect_list hL ?_ sz);refine zA (wpAny_newList ?_ sz);have I1:Inv X pins σ H {s with heap:=(s.heap.push (seqObj "list" #[] 0)).update s.heap.objs.size (PySem.Obj.mapSeq (· ++ its.toArray))}:=I.kept (t':=s.toks) fun b o e=>by
  rw[xD _ _ _ _ (zG (zS e))];exact zC _ e
 generalize hG:(s.heap.push (seqObj "list" #[] 0)).update s.heap.objs.size (PySem.Obj.mapSeq (· ++ its.toArray))=G at I1 ⊢;have ho:(G.push (seqObj "list" its.toArray 0)).get? G.objs.size=some (seqObj "list" its.toArray 0):=zL _ rfl;refine zA (qM ?_);refine qI PyProof.Rows.slot_list_sort ⟨_,ho,rfl⟩ PyProof.Rows.entry_list_sort (list_sort_tree (n:=0) (vs:=its) ho (F4 rv) (by walk_at "o") fun out ns' hI hp hP=>⟨.none,rfl,?_⟩) (PyProof.Rows.args_list_sort _)
 have es:ns'=sortI ns:=PySem.W.lks_uniq (hp.trans (Y5 ns).symm) hP (a1o ns);subst es;have g1:=yD ho (fun _=> #[]);have g2:=yD (zC (seqObj "list" #[] 0) (zC (seqObj "tuple" its.toArray 0) g1)) (fun _=>out);have kept:∀b o,G.get? b=some o->(sortedHeap (G.push (seqObj "list" its.toArray 0)) G.objs.size its out).get? b=some o:=fun b o e=>by
  have ne:b≠G.objs.size:=zG (zS e);unfold sortedHeap;rw[xD _ _ _ _ ne];refine zC _ (zC _ ?_);rw[xD _ _ _ _ ne];exact zC _ e
 refine zB ⟨_,rfl,.ref G.objs.size,_,I1.laid (t':=s.toks) (o:=.lst ((sortI ns).map V.int)) kept (zE _) ?_,rfl,q _ (I1.hok.fresh (zE _))⟩;obtain⟨ep,g3⟩:∃ep,(sortedHeap (G.push (seqObj "list" its.toArray 0)) G.objs.size its out).get? G.objs.size=some (seqObj "list" out.toList.toArray ep):=⟨_,by rw[Array.toArray_toList];exact g2⟩
 exact⟨by rw[zD,(Y5 ns).length_eq,qY];walk_at "o",out.toList,_,F5 hI,g3⟩
end
section
variable {prog:Program}{w:World}{A:Around}{E:Value->Shared->Prop}{s:Shared}
theorem a2y {t sl:Addr}{items:Array Value}{vl vu:Value}{lo hi:Option Int}{Q:Value->Shared->Prop}(ht:IsTup s.heap t items)(hs:s.heap.IsSliceOf sl vl vu .none)(pl:IsPart vl lo)(pu:IsPart vu hi)
  (hw:HT.sIx items.size 0 lo=0/\HT.sIx items.size items.size hi=items.size) (h:Q (.ref t) s):wpAny (model prog w) A (getItem (.ref t) (.ref sl)) Q E s:=by
 obtain⟨os,hos,hcs,hds⟩:=id hs;have hTs:s.TypeIs (.ref sl) "slice":=⟨os,hos,hcs⟩;unfold getItem
 try with_reducible refine qM ?_
 first|refine zA (zB ?_)|skip
 refine zA (yI ht.typeIs (by decide) ?_)
 refine zA (qK (name:=Str.ofString "__getitem__") ht.typeIs qJ
  (qI qJ ht.typeIs entry_tuple_getitem ?_ (args_tuple_getitem _ _)))
 show wpAny _ _ (Builtin.Tuple.tupleItemsOf (.ref t) >>=_) _ _ s;refine zA (tupleItemsOf_ ht ?_);refine zA (wpAny_typeOf hTs ?_);rw[if_pos (by decide)]
 refine zA (HT.sliceApplied_gen hs pl pu ?_);show wpAny _ _ (if(((HT.sIx items.size 0 lo:Nat):Int)==0&&(1:Int)==1&&(HT.sIx items.size items.size hi-HT.sIx items.size 0 lo)==items.size)=true then _ else _) _ _ s;rw[if_pos (by rw[hw.1,hw.2];simp)]
 unfold Builtin.Tuple.tupleIsExact;refine zA (zA (wpAny_typeOf ht.typeIs (zB ?_)));rw[if_pos (by decide)]
 first
  | exact zA (yC (zB ⟨_,rfl,zB h⟩))
  | exact zA (yC (zA (zB (zB ⟨_,rfl,zB h⟩))))
end
section
variable {X:Cx}{a b e:Expr}{es:List Expr}{pos p:Pos}{f g h:FX}{t u:FT}{fa:FA}{x:Str}
def rSlF (K:PySem.W.Frag):V->Option Int->Option Int->Hp->VK->Prop:=fun x lo hi H Q=>∃a xs,x= .ref a/\SqT K H a xs/\(HT.sIx xs.length 0 lo=0/\HT.sIx xs.length xs.length hi=xs.length)/\Q (.ref a) H
theorem a7K:SlR X (rSlF X.K):=by
 intro pins s σ H x v vl vu lo hi sl Q I rx hs pl pu h;obtain⟨a,xs,rfl,hx,hw,q⟩:=h;cases rx;obtain⟨its,r,ht,hz⟩:=I.tuple hx;have hlen:its.toArray.size=xs.length:=by rw[zV];exact r.length.symm
 refine⟨"tuple",_,PyProof.Rows.slot_tuple_getitem.lookup,ht.typeIs,?_⟩;exact a2y ht hs pl pu (by rw[hlen];exact hw) ⟨.ref a,H,I,rfl,q⟩
theorem qx_b {id:String}{r:List V->Hp->VK->Prop}{k:List D->Option W}(hc:CallR X (.builtin id) r)(hk:PrA X k r)(hm:X.mg x=none)(ha:QA X (e::es) fa)(hv:bootBuiltins x=some (.builtin id):=by rfl)(hg:Gl X x:=by rfl)(hn:x≠"__name__":=by decide)(hdb:(x==("__debug__":Str))=false:=by decide)
  (he:starEach (e::es) X.env=(false,eval e X.env)::starEach es X.env:=by rfl) (hpl:(backTo pos (starEach es X.env)).any (·.1)=false:=by rfl):QX X (.Call (.Name x p) (e::es) [] pos) (fCall k fa):=Y3 hc hk hv hm ha hg hn hdb he hpl
theorem qx_t {T:String}{r:List V->Hp->VK->Prop}{k:List D->Option W}(hc:CallR X (.type T) r)(hk:PrA X k r)(hm:X.mg x=none)(ha:QA X (e::es) fa)(hv:bootBuiltins x=some (.type T):=by rfl)(hg:Gl X x:=by rfl)(hn:x≠"__name__":=by decide)(hdb:(x==("__debug__":Str))=false:=by decide)
  (he:starEach (e::es) X.env=(false,eval e X.env)::starEach es X.env:=by rfl) (hpl:(backTo pos (starEach es X.env)).any (·.1)=false:=by rfl):QX X (.Call (.Name x p) (e::es) [] pos) (fCall k fa):=a2e hc hk hv hm ha hg hn hdb he hpl
def k1 (g:D->Option W):List D->Option W
 | [d]=>g d
 | _=>none
theorem pr1 {g:D->Option W}{r:List V->Hp->VK->Prop}(h:∀(A:Av) (d:D) (w:W) (v:V) (H:Hp) (Q:VK),g d=some w->DenR X.K A H d v->(∀z H',Same H H'->DenW X.K A [] H H' w z->Q z H')->r [v] H Q):PrA X (k1 g) r:=fun A ds w vs H Q _ e l q=>by
 unfold k1 at e;split at e
 ·obtain⟨v,rfl,h1⟩:=denRL1 l;exact h A _ w v H Q e h1 q
 ·cases e
def k2 (g:Int->Int->D):List D->Option W
 | [.int i,.int j]=>some (.v (g i j))
 | _=>none
theorem pr2 {g:Int->Int->Int}{r:List V->Hp->VK->Prop}(h:∀i j (H:Hp) (Q:VK),Q (.int (g i j)) H->r [.int i,.int j] H Q):PrA X (k2 fun i j=>.int (g i j)) r:=fun A ds w vs H Q _ e l q=>by
 unfold k2 at e;split at e
 ·rename_i i j;cases e;obtain⟨v,v',rfl,h1,h2⟩:=denRL2 l;rw[g5 h1,g5 h2];exact h i j H Q (q _ H (Same.refl H) z6)
 ·cases e
def gLen (d:D):Option W:=(items d).map fun xs=>.v (.int xs.length)
theorem C6:PrA X (k1 gLen) (fun xs H Q=>∃p ys,xs=[.ref p]/\(SqL X.K H p ys\/SqT X.K H p ys)/\Q (.int ys.length) H):=pr1 fun A d w v H Q e h q=>by
 unfold gLen at e;obtain⟨xs,e1,e⟩:=oms e;cases e;obtain⟨a,ws,rfl,hq,lw⟩:=A6 e1 h;exact⟨a,ws,rfl,hq,by rw[<-b4 lw];exact q _ H (Same.refl H) z6⟩
def gAbs:D->Option W
 | .int i=>some (.v (.int (if i<0 then -i else i)))
 | _=>none
abbrev gMax:=k2 fun i j=>.int (if j>i then j else i)
abbrev gMin:=k2 fun i j=>.int (if j<i then j else i)
theorem a1A:PrA X gMax (fun xs H Q=>∃i j,xs=[.int i,.int j]/\Q (.int (if j>i then j else i)) H):=pr2 fun i j H Q q=>⟨i,j,rfl,q⟩
theorem Y0:PrA X gMin (fun xs H Q=>∃i j,xs=[.int i,.int j]/\Q (.int (if j<i then j else i)) H):=pr2 fun i j H Q q=>⟨i,j,rfl,q⟩
def gInt:D->Option W
 | .bl b=>some (.v (.int (if b then 1 else 0)))
 | _=>none
def gTuple (d:D):Option W:=(items d).map fun xs=>.v (.tup xs)
theorem z7:PrA X (k1 gTuple) (fun xs H Q=>∃p ys,xs=[.ref p]/\((SqL X.K H p ys/\∀l,H l=none->Q (.ref l) (upd H l (.tup ys)))\/(SqT X.K H p ys/\Q (.ref p) H))):=pr1 fun A d w v H Q e h q=>by
 cases d<;>simp only[gTuple,items,Option.map_none] at e<;>first|cases e|skip
 ·rename_i xs;obtain⟨a,vs,rfl,hq,l⟩:=t3 h;exact⟨a,vs,rfl,.inr ⟨hq,q _ H (Same.refl H) h⟩⟩
 ·rename_i xs;obtain⟨a,vs,rfl,hq,l⟩:=h;exact⟨a,vs,rfl,.inl ⟨hq,fun l' hl=>q _ _ (g7 hl _) (C9 hl l)⟩⟩
def gList (d:D):Option W:=(items d).map fun xs=>.o (.lst xs)
theorem a73:PrA X (k1 gList) (fun xs H Q=>∃p ys,xs=[.ref p]/\(SqL X.K H p ys\/SqT X.K H p ys)/\∀l,H l=none->Q (.ref l) (upd H l (.lst ys))):=pr1 fun A d w v H Q e h q=>by
 unfold gList at e;obtain⟨xs,e1,e⟩:=oms e;cases e;obtain⟨a,ws,rfl,hq,lw⟩:=A6 e1 h;exact⟨a,ws,rfl,hq,fun l hl=>q _ _ (g7 hl _) (v6 hl lw)⟩
def intsOf:List D->Option (List Int)
 | []=>some []
 | .int i::ds=>(intsOf ds).map fun is=>i::is
 | _=>none
theorem p6:∀{ds:List D} {is:List Int},intsOf ds=some is->ds=is.map D.int
 | [],is,e=>by cases e;rfl
 | .int i::ds,is,e=>by
  rw[intsOf] at e;cases e1:intsOf ds with
  | none=>rw[e1] at e;cases e
  | some js=>rw[e1] at e;cases e;rw[zJ,<-p6 e1]
 | .non::ds,is,e=>by cases e
 | .bl _::ds,is,e=>by cases e
 | .str _::ds,is,e=>by cases e
 | .tup _::ds,is,e=>by cases e
 | .lst _::ds,is,e=>by cases e
 | .dT _ _::ds,is,e=>by cases e
 | .dK _ _::ds,is,e=>by cases e
 | .exn _::ds,is,e=>by cases e
theorem D8:∀is:List Int,intsOf (is.map D.int)=some is
 | []=>rfl
 | i::is=>by rw[zJ,intsOf,D8 is];rfl
theorem j9 {K:PySem.W.Frag}{A:Av}{H:Hp}:∀{is:List Int} {vs:List V},DenL K A H (is.map D.int) vs->vs=is.map V.int
 | [],vs,l=>by rw[xY,DenL] at l;exact l
 | i::is,vs,l=>by
  rw[zJ,DenL] at l;obtain⟨v,r,rfl,h,l⟩:=l;rw[q8.mp h,j9 l];rfl
theorem w6 {K:PySem.W.Frag}{A:Av}{H:Hp}:∀ns:List Int,DenL K A H (ns.map D.int) (ns.map V.int)
 | []=>by rw[xY,xY];exact g8
 | n::ns=>by rw[zJ,zJ];exact e8 (by rw[Den]) (w6 ns)
def boolsOf:List D->Option (List Bool)
 | []=>some []
 | .bl i::ds=>(boolsOf ds).map fun is=>i::is
 | _=>none
theorem N2:∀{ds:List D} {is:List Bool},boolsOf ds=some is->ds=is.map D.bl
 | [],is,e=>by cases e;rfl
 | .bl i::ds,is,e=>by
  rw[boolsOf] at e;cases e1:boolsOf ds with
  | none=>rw[e1] at e;cases e
  | some js=>rw[e1] at e;cases e;rw[zJ,<-N2 e1]
 | .non::ds,is,e=>by cases e
 | .int _::ds,is,e=>by cases e
 | .str _::ds,is,e=>by cases e
 | .tup _::ds,is,e=>by cases e
 | .lst _::ds,is,e=>by cases e
 | .dT _ _::ds,is,e=>by cases e
 | .dK _ _::ds,is,e=>by cases e
 | .exn _::ds,is,e=>by cases e
theorem J5:∀is:List Bool,boolsOf (is.map D.bl)=some is
 | []=>rfl
 | i::is=>by rw[zJ,boolsOf,J5 is];rfl
theorem C3 {K:PySem.W.Frag}{A:Av}{H:Hp}:∀{is:List Bool} {vs:List V},DenL K A H (is.map D.bl) vs->vs=is.map V.bl
 | [],vs,l=>by rw[xY,DenL] at l;exact l
 | i::is,vs,l=>by
  rw[zJ,DenL] at l;obtain⟨v,r,rfl,h,l⟩:=l;rw[a0a.mp h,C3 l];rfl
def gBools (r:List Bool->Bool):D->Option W
 | .lst xs=>(boolsOf xs).map fun bs=>.v (.bl (r bs))
 | _=>none
theorem Q5 {r:List Bool->Bool}:PrA X (k1 (gBools r)) (fun xs H Q=>∃(p:Addr) (bs:List Bool),xs=[.ref p]/\SqL X.K H p (bs.map V.bl)/\Q (.bl (r bs)) H):=pr1 fun A d w v H Q e h q=>by
 cases d with
 | lst xs=>
  simp only[gBools] at e;obtain⟨bs,e1,e⟩:=oms e;cases e;obtain⟨a,vs,rfl,hq,l⟩:=h;rw[N2 e1] at l;rw[C3 l] at hq;exact⟨a,bs,rfl,hq,q _ H (Same.refl H) t8⟩
 | _=>cases e
def gSortI:D->Option W
 | .lst xs=>(intsOf xs).bind fun ns=>if ns.length<64 then some (.o (.lst ((sortI ns).map D.int))) else none
 | _=>none
theorem a7a:PrA X (k1 gSortI) (fun xs H Q=>∃(p:Addr) (ns:List Int),xs=[.ref p]/\SqL X.K H p (ns.map V.int)/\ns.length<64/\∀l,H l=none->Q (.ref l) (upd H l (.lst ((sortI ns).map V.int)))):=pr1 fun A d w v H Q e h q=>by
 cases d with
 | lst xs=>
  simp only[gSortI] at e;cases e1:intsOf xs with
  | none=>rw[e1] at e;cases e
  | some bs=>
   rw[e1] at e;simp only[bind_some] at e;split at e
   ·rename_i hl;cases e;obtain⟨a,vs,rfl,hq,l⟩:=h;rw[p6 e1] at l;rw[j9 l] at hq;exact⟨a,bs,rfl,hq,hl,fun l hl=>q _ _ (g7 hl _) (v6 hl (w6 _))⟩
   ·cases e
 | _=>cases e
def oLtT:D->D->Option W
 | .int i,.int j=>some (.v (.bl (decide (i<j))))
 | .tup xs,.tup ys=>(intsOf xs).bind fun ns=>(intsOf ys).map fun ms=>.v (.bl (HT.lexLt ns ms))
 | _,_=>none
theorem kLtT:Pr2 X oLtT (fun v u H Q=>rI0 (fun i j=>.bl (decide (i<j))) v u H Q\/rLtT X.K v u H Q):=by
 intro A x y w v u H Q _ e hx hy q;unfold oLtT at e;split at e
 ·cases e;exact .inl ⟨_,_,g5 hx,g5 hy,q _ H (Same.refl H) t8⟩
 ·rename_i xs ys;cases e1:intsOf xs with
  | none=>rw[e1] at e;cases e
  | some ns=>
   cases e2:intsOf ys with
   | none=>rw[e1,e2] at e;cases e
   | some ms=>
    rw[e1,e2] at e;cases e;obtain⟨a,vs,rfl,h1,l1⟩:=t3 hx;obtain⟨b,us,rfl,h2,l2⟩:=t3 hy;rw[p6 e1] at l1;rw[p6 e2] at l2;rw[j9 l1] at h1;rw[j9 l2] at h2;exact .inr ⟨a,b,ns,ms,rfl,rfl,h1,h2,q _ H (Same.refl H) t8⟩
 ·cases e
theorem a9y {k:Nat}(hr:Room k X.A)(ha:QX X a f)(hb:QX X b g):QT X (.Compare a [.Lt] [b] pos) (fTest (fBin oLtT f g)):=J8 (op_lt.or (a9A (by have:=hr.units;walk_at "o"))) kLtT ha hb
def oInI (neg:Bool) (x y:D):Option W:=match x with
 | .int i=>(items y).bind fun ys=>(intsOf ys).map fun ns=>.v (.bl (if neg then !decide (i∈ns) else decide (i∈ns)))
 | _=>none
theorem kInI {neg:Bool}:Pr2 X (oInI neg) (rIn X.K neg):=by
 intro A x y w v u H Q _ e hx hy q;cases x with
 | int i=>
  simp only[oInI] at e;cases e1:items y with
  | none=>rw[e1] at e;cases e
  | some ys=>
   rw[e1] at e;simp only[bind_some] at e;obtain⟨ns,e2,e⟩:=oms e;cases e;obtain⟨p,vs,rfl,hq,l⟩:=A6 e1 hy;rw[p6 e2] at l;rw[j9 l] at hq;rw[g5 hx];exact⟨p,ns.map V.int,rfl,hq,rfl,a07 ns,by rw[a15];exact q _ H (Same.refl H) t8⟩
 | _=>cases e
def fChain (o o':D->D->Option W) (f g h:FX):FX:=fun ρ=>(f ρ).bind fun p=>(g p.2).bind fun q=>(dr q.2 p.1.fz).bind fun x=>(dr q.2 q.1.fz).bind fun y=>(o x y).bind fun d=>match d with
 | .v (.bl k)=>if k=true then(h q.2).bind fun z=>(dr z.2 q.1.fz).bind fun y=>(dr z.2 z.1.fz).bind fun z'=>(o' y z').map fun w=>(w,z.2) else some (.v (.bl false),q.2)
 | _=>none
abbrev FO:=Ev->Option (Option Int×Ev)
def tO (X:Cx) (f:FO):TO:=fun σ H Q=>∃P O L ρ o ρ',Rep X P O L ρ σ H/\f ρ=some (o,ρ')/\∀H',Rep X P O L ρ' σ H'->Q o H'
theorem tOe {X:Cx}{f:FO}{σ:L2.St}{H:Hp}{Q:Option Int->Hp->Prop}{C:Prop}(h:tO X f σ H Q)(k:∀P O L ρ o ρ',Rep X P O L ρ σ H->f ρ=some (o,ρ')->(∀H',Rep X P O L ρ' σ H'->Q o H')->C):C:=by
 obtain⟨P,O,L,ρ,w,ρ',r,e,q⟩:=h;exact k P O L ρ w ρ' r e q
structure QO (X:Cx) (e:Option Expr) (f:FO):Prop where
 to:PO X e (tO X f)
theorem PO.weak {X:Cx}{e:Option Expr}{t u:TO}(h:PO X e t)(w:∀σ H Q,u σ H Q->t σ H Q):PO X e u:=fun pins s σ H Q I q=>h pins s σ H Q I (w σ H Q q)
def fO0:FO:=fun ρ=>some (none,ρ)
def fO1 (f:FX):FO:=fun ρ=>(f ρ).bind fun p=>match p.1 with|.v (.int i)=>some (some i,p.2)|_=>none
theorem R9:QO X none fO0:=⟨PO.weak a7p fun σ H Q h0=>tOe h0 fun P O L ρ o ρ' r e q=>by cases e;exact q H r⟩
theorem R0 (ha:QX X e f):QO X (some e) (fO1 f):=⟨PO.weak (a7j ha.to) fun σ H Q h0=>tOe h0 fun P O L ρ o ρ' r e q=>by
 unfold fO1 at e;obtain⟨⟨w,ρ1⟩,e1,e⟩:=obs e;dsimp only at e;split at e
 ·rename_i i;cases e;refine⟨P,O,L,ρ,_,_,r,e1,fun v H1 H' r1 s1 d1=>⟨i,?_,q H' (r1.grow s1)⟩⟩;have d1:Den X.K (AvO O ρ' σ) H' (.int i) v:=d1;exact q8.mp d1
 ·cases e⟩
def cutD (xs:List D) (lo hi:Option Int):List D:=(xs.drop (HT.sIx xs.length 0 lo)).take (HT.sIx xs.length xs.length hi-HT.sIx xs.length 0 lo)
theorem a2g {K:PySem.W.Frag}{A:Av}{H:Hp}{xs:List D}{vs:List V}(lo hi:Option Int)(l:DenL K A H xs vs):DenL K A H (cutD xs lo hi) (cutV vs lo hi):=by
 unfold cutD cutV;rw[b4 l];exact U4 _ (T5 _ l)
def slD (x:D) (lo hi:Option Int):Option W:=match x with
 | .tup xs=>some (.v (.tup (cutD xs lo hi)))
 | .lst xs=>some (.o (.lst (cutD xs lo hi)))
 | _=>none
def fSl (f:FX) (lo hi:FO):FX:=fun ρ=>(f ρ).bind fun p=>(lo p.2).bind fun l=>(hi l.2).bind fun u=>(dr u.2 p.1.fz).bind fun x=>(slD x l.1 u.1).map fun w=>(w,u.2)
theorem J2 {lo hi:Option Expr}{fl fu:FO}{p2:Pos}(ha:QX X a f)(hl:QO X lo fl)(hu:QO X hi fu):QX X (.Subscript a (.Slice lo hi none p2) pos) (fSl f fl fu):=⟨PE.weak (a6P ((a7q.or a9o).or a7K) ha.to hl.to hu.to) fun σ H Q h0=>tXe h0 fun P O L ρ w ρ' r e q=>by
 unfold fSl at e;obtain⟨⟨w1,ρ1⟩,e1,e⟩:=obs e;dsimp only at e;obtain⟨⟨l,ρ2⟩,e2,e⟩:=obs e;dsimp only at e;obtain⟨⟨u,ρ3⟩,e3,e⟩:=obs e;dsimp only at e;refine⟨P,O,L,ρ,w1,ρ1,r,e1,fun v H1 H1' r1 s1 d1=>?_⟩;obtain⟨P',r1',k1⟩:=hold (r1.grow s1) (d1.fz r1 s1);refine⟨P',O,L,ρ1,l,ρ2,r1',e2,fun H2 r2=>⟨P',O,L,ρ2,u,ρ3,r2,e3,fun H3 r3=>?_⟩⟩;obtain⟨r4,d4⟩:=k1 ρ3 H3 r3;cases e4:dr ρ3 w1.fz with
 | none=>rw[e4] at e;cases e
 | some x=>
  rw[e4] at e;simp only[bind_some] at e;have dx:=C4 r4 e4 d4;cases x with
  | tup xs=>
   cases e;obtain⟨a,vs,ev,hq,la⟩:=t3 dx
   by_cases hn:HT.sIx xs.length 0 l=0/\HT.sIx xs.length xs.length u=xs.length
   ·refine .inr ⟨a,vs,ev,hq,by rw[<-b4 la];exact hn,q _ H3 H3 r4 (Same.refl _) ?_⟩
    have ec:cutD xs l u=xs:=by
     unfold cutD;rw[hn.1,hn.2,drop_zero,Nat.sub_zero,take_length]
    rw[ec,<-ev];exact dx
   ·exact .inl (.inr ⟨a,vs,ev,hq,by rw[<-b4 la];exact hn,fun p hp=>q _ H3 _ r4 (g7 hp _) (C9 hp (a2g l u la))⟩)
  | lst xs=>
   cases e;obtain⟨a,vs,ev,hq,la⟩:=dx;exact .inl (.inl ⟨a,vs,ev,hq,fun p hp=>q _ H3 _ r4 (g7 hp _) (v6 hp (a2g l u la))⟩)
  | _=>cases e⟩
end
section
variable {X:Cx}{a b e o:Expr}{es:List Expr}{pos p apos:Pos}{f h:FX}{fa:FA}{x:Str}
def isLst:Option D->Bool
 | some (.lst _)=>true
 | _=>false
def fMut (op:List D->List D->Option (W×List D)) (f:FX) (fa:FA):FX:=fun ρ=>(f ρ).bind fun p=>match p.1 with
 | .r i=>if isLst (ownAt p.2 i)=true then(fa p.2).bind fun q=>(takeAll q.2 q.1).bind fun z=>match ownAt z.2 i with
  | some (.lst xs)=>(op xs z.1).map fun y=>(y.1,setOwn z.2 i (.lst y.2))
  | _=>none
  else none
 | _=>none
def PrM (X:Cx) (op:List D->List D->Option (W×List D)) (r:V->List V->Hp->VK->Prop):Prop:=∀(A:Av) (a:Addr) (xs ds:List D) (w:W) (ys:List D) (us vs:List V) (H:Hp) (Q:VK),H a=some (.lst us)->DenL X.K A H xs us->DenL X.K A H ds vs->op xs ds=some (w,ys)->
 (∀z ws,DenL X.K A H ys ws->DenW X.K A [] H H w z->Q z (upd H a (.lst ws)))->(w= .v .non\/∃d,w= .v d)->r (.ref a) vs H Q
theorem a13 {op:List D->List D->Option (W×List D)}{r:V->List V->Hp->VK->Prop}(hk:PrM X op r)(hw:∀xs ds w ys,op xs ds=some (w,ys)->∃d,w= .v d):∀σ H Q,tX X (fMut op f fa) σ H Q->tBM X.K "list" r (tX X f) (tA X fa) σ H Q:=fun σ H Q h0=>tXe h0 fun P O L ρ w ρ' rp e q=>by
 unfold fMut at e;obtain⟨⟨w1,ρ1⟩,e1,e⟩:=obs e;dsimp only at e;split at e
 ·rename_i i;split at e
  ·rename_i hl;refine⟨P,O,L,ρ,_,ρ1,rp,e1,fun v H1 H1' r1 s1 d1=>?_⟩;have d1:σ[i]? =some (some v):=d1;have r1':=r1.grow s1;refine⟨?_,?_⟩
   ·unfold isLst at hl;split at hl
    ·rename_i xs e2;obtain⟨w0,q0,ow⟩:=m3 e2;obtain⟨a,h1,vs,h2,_⟩:=r1'.obj q0 ow;rw[d1] at h1;cases h1;exact .inl ⟨rfl,vs,.inl (.inl h2)⟩
    ·cases hl
   ·obtain⟨⟨ws,ρ2⟩,e3,e⟩:=obs e;dsimp only at e;obtain⟨⟨ds,ρ3⟩,e4,e⟩:=obs e;dsimp only at e;split at e
    ·rename_i xs e5;obtain⟨⟨wy,ys⟩,e6,e⟩:=oms e;cases e;refine⟨P,O,L,ρ1,ws,ρ2,r1',e3,fun vs H2 r2 l2=>?_⟩;obtain⟨r3,l3,_⟩:=m5 r2 e4 l2;obtain⟨w0,q0,ow⟩:=m3 e5;obtain⟨a,h1,us,h2,l⟩:=r3.obj q0 ow;rw[d1] at h1;cases h1;refine hk _ a xs ds _ ys us vs H2 Q h2 l l3 e6 (fun z wz lz dz=>?_) (.inr (hw _ _ _ _ e6));have g0:Go (AvO O ρ3 σ) (AvO O ρ3 σ) (fun b=>b=a) H2 (upd H2 a (.lst wz)):=⟨fun b o eb nb=>by rw[c6 nb];exact eb,fun b z=>by rw[z];exact⟨.inr ⟨i,w0,_,q0,ow,d1⟩,_,h2,trivial⟩,fun b z=>.inl z⟩
     have r4:Rep X P O L (setOwn ρ3 i (.lst ys)) σ (upd H2 a (.lst wz)):=r3.mut (d:=.lst ys) e5 d1 (fun b o eb nb=>by rw[c6 nb];exact eb) ⟨wz,j5,m6 g0 _ _ lz⟩
     refine q z _ _ r4 (Same.refl _) ?_;obtain⟨d,rfl⟩:=hw _ _ _ _ e6;have av:∀b,AvO O (setOwn ρ3 i (.lst ys)) σ b->AvO O ρ3 σ b:=fun b z=>z.imp id fun z=>(L7 e5 b).mp z;exact l5 (n9 av) _ _ (l5 g0 _ _ dz)
    ·cases e
  ·cases e
 ·cases e
def mApp (xs ds:List D):Option (W×List D):=match ds with
 | [d]=>if xs.length<lim then some (.v .non,xs++[d]) else none
 | _=>none
theorem a4V:PrM X mApp rAppend:=fun A a xs ds w ys us vs H Q h l l' e q _=>by
 unfold mApp at e;split at e
 ·split at e
  ·rename_i d hl;cases e;obtain⟨v,rfl,hv⟩:=denL1 l';exact⟨a,us,v,rfl,rfl,h,by rw[<-b4 l];exact zF hl t6,q _ _ (k6 l (e8 hv g8)) O5⟩
  ·cases e
 ·cases e
theorem a99:∀xs ds w ys,mApp xs ds=some (w,ys)->∃d,w= .v d:=fun xs ds w ys e=>by
 unfold mApp at e;split at e
 ·split at e
  ·cases e;exact⟨_,rfl⟩
  ·cases e
 ·cases e
theorem L4 (ho:QX X o f)(ha:QA X (e::es) fa)(hbase:attributeBase o "append" X.env (eval o X.env)=eval o X.env:=by rfl)
  (hfew:((backTo pos (starEach (e::es) X.env)).all (fun x=>!x.1)&&(backToKw pos (keywordEach [] X.env)).all (fun x=>x.1.isSome)&&decide ((e::es).length+([]:List Keyword).length+(if([]:List Keyword).isEmpty then 0 else 1)<30))=true:=by rfl)
  (hline:(apos.endLine==pos.line)=true:=by rfl) (hs:starEach (e::es) X.env=(false,eval e X.env)::starEach es X.env:=by rfl) (hpl:(backTo pos (starEach es X.env)).any (·.1)=false:=by rfl):QX X (.Call (.Attribute o "append" apos) (e::es) [] pos) (fMut mApp f fa):=
 ⟨PE.weak (a85 PySem.F.plainAttrs_list PySem.F.slot_list_append PySem.F.type_list_append V3 ho.to ha.to hbase hfew hline hs hpl) (a13 a4V a99)⟩
end
section
variable {P:Program}{w:World}{K:PySem.W.Frag}{mg:Str->Option Value}{base:Heap}
def spLaw (K:PySem.W.Frag):Sp:=fun vs H Q _=>∃(a:Addr) (ns:List Int),vs=[.ref a]/\((∃o,H a=some (.frz o (.lst (ns.map V.int))))\/SqL K (fun _=>none) a (ns.map V.int))/\ns.length<=63/\∀H',Q (.bl true) H'
theorem a9q {st:Stmt}{f:Addr}{fd:FuncData}{N ps:List Str}{k np n:Nat}{G:FS}(F:Fun K "law" "law" st f fd)(S:FnScope N ps (defScope st))(hp:ps.length=np)(hn:N.length=n)
  (body:∀(cdv:Value) (A:Around) (outer:List Env) (s:Shared) (H:Hp) (E:XK),Room k (A.deeper (envOfC "law" (defScope st) s.heap.objs.size f cdv))->
   QSs (cxOf CX0 P w K mg base N "law" (defScope st) f cdv A outer s H E).nox (defBody st) G)
  (h:∀ns:List Int,ns.length<=63->runD np n G [.lst (ns.map D.int)]=some (.v (.bl true))):FnOk P w K mg base CX0 (k+1) f fd ps (spLaw K):=by
 have den:∀(H:Hp) (a:Addr) (ns:List Int),((∃o,H a=some (.frz o (.lst (ns.map V.int))))\/SqL K (fun _=>none) a (ns.map V.int))->DenL K (fun _=>False) H [.lst (ns.map D.int)] [.ref a]:=fun H a ns hq=>by
  refine e8 ?_ g8;rw[Den];exact⟨a,_,rfl,.inr hq,w6 ns⟩
 refine F.ok S (fun vs H Q E ⟨a,ns,ev,hq,hl,q⟩=>?_) (fun cdv A outer s H vs Q E hr ⟨a,ns,ev,hq,hl,q⟩=>⟨_,(body cdv A outer s H E hr).to,?_⟩)
 ·have e:=h ns hl;unfold runD at e;split at e
  ·rename_i hl';rw[ev,hp,<-hl'];rfl
  ·cases e
 ·have e:=h ns hl;unfold runD at e;split at e
  ·rename_i hl';cases e1:G (start0 n [.lst (ns.map D.int)]) with
   | none=>rw[e1] at e;cases e
   | some r=>
    rw[e1] at e;refine⟨[],fun _=>False,[],_,r,a04 rfl hn (fun b z=>z.elim) (by rw[ev];exact den H a ns hq),e1,?_⟩
    cases r with
    | rt d' ρ'=>cases e;exact fun v H' s' _ d1=>by rw[Y6 d1];exact q H'
    | nx ρ'=>cases e
    | bk ρ'=>cases e
    | ct ρ'=>cases e
  ·cases e
theorem walk {l:PySem.W.OpenLaw}{q:Program}{loose:List Str}{XP:(Str->Option Value)->Heap->Prop}{YP:World->Heap->Prop}{d:DefRec}{K:Params->PySem.W.Frag}(hn:l.most=some 63)(hdf:d.params.defaults=[])
  (hY:∀(w:World) (h:Heap),YP w h->(K w.params).In h)
  (F:∀(w:World) (mg:Str->Option Value) (fa:Addr) (h:Heap),(K w.params).In h->h.Ns mainGlobals mg->mg d.name=some (.ref fa)->
   ∃fd:FuncData,(∀(s:Shared) (u:Value),BindsTo s fd ⟨[u],[]⟩ [("script",u)])/\∀base:Heap,(K w.params).In base->base.Ns mainGlobals mg->FnOk l.prog w (K w.params) mg base CX0 60 fa fd ["script"] (spLaw (K w.params))):
  PySem.W.WalkO q loose XP YP l.row.toRowW d [] (fun f vs=>PySem.call f vs):=
 L2.a7Z (n:=63) (k:=60) (x:="script") (CX:=fun _=>CX0) (sp:=fun w=>spLaw (K w.params)) hn (by decide) hdf ⟨rfl,by decide,by decide,rfl⟩ hY F (fun _ H a ns hl hO hS=>⟨a,ns,rfl,(by
  rcases hS with (hS|⟨o,hS⟩)|hS
  ·rcases hO a with z|⟨o,ys,z⟩
   ·rw[z] at hS;cases hS
   ·rw[z] at hS;cases hS
  ·exact .inl ⟨o,hS⟩
  ·exact .inr (.inr hS)),hl,fun _=>rfl⟩) fun _ _ _ _ _ z=>z
end
end Z
set_option maxHeartbeats 1000000
set_option exponentiation.threshold 100000
namespace Z
open PySem L2
theorem a8p {d:D}:lfW (.v d)=lf d:=rfl
theorem a8y {d:D}:lfW (.o d)=lfC d:=rfl
theorem a29 {xs:List D}:lfC (.lst xs)=lfL xs:=rfl
theorem lfC_dT {ks:List (List Key)}{xs:List D}:lfC (.dT ks xs)=lfL xs:=rfl
theorem a6C {ks:List Key}{xs:List D}:lfC (.dK ks xs)=lfL xs:=rfl
def freeO:Option W->Bool
 | some (.l _)=>false
 | _=>true
theorem Z4:freeO none=true:=rfl
theorem a3V {d:D}:freeO (some (.v d))=true:=rfl
theorem a3Z {d:D}:freeO (some (.o d))=true:=rfl
theorem freeO_l {d:D}:freeO (some (.l d))=false:=rfl
theorem free_nil {n:Nat}:freeSlot [] n=true:=rfl
theorem a6M {x:Option W}{ρ:Ev}:freeSlot (x::ρ) 0=freeO x:=by
 unfold freeSlot freeO;rw[xV];cases x with
 | none=>rfl
 | some w=>cases w<;>rfl
theorem a6X {x:Option W}{ρ:Ev}{n:Nat}:freeSlot (x::ρ) (n+1)=freeSlot ρ n:=by
 unfold freeSlot;rw[qX]
theorem a0B {xs:List D}:isLst (some (.lst xs))=true:=rfl
theorem liB_none {ρ:Ev}:liB none ρ=true:=rfl
theorem liB_some {i j:Nat}{ρ:Ev}:liB (some (i,j)) ρ=(ownAt ρ j).isSome:=rfl
theorem own_nil {n:Nat}:ownAt [] n=none:=rfl
theorem a8K {w:W}{ρ:Ev}:ownAt (some w::ρ) 0=w.own:=rfl
theorem own_n {ρ:Ev}:ownAt (none::ρ) 0=none:=rfl
theorem a8Z {x:Option W}{ρ:Ev}{n:Nat}:ownAt (x::ρ) (n+1)=ownAt ρ n:=by
 unfold ownAt;rw[qX]
theorem a6l {c d:D}{ρ:Ev}:setOwn (some (.l c)::ρ) 0 d=some (.l d)::ρ:=rfl
theorem a6w {c d:D}{ρ:Ev}:setOwn (some (.o c)::ρ) 0 d=some (.o d)::ρ:=rfl
theorem a5l {x:Option W}{ρ:Ev}{n:Nat}{d:D}:setOwn (x::ρ) (n+1) d=x::setOwn ρ n d:=by
 unfold setOwn;rw[qX]
 split<;>rename_i h<;>simp[h]
theorem frz_nil {n:Nat}:frzAt [] n=none:=rfl
theorem a87 {d:D}{ρ:Ev}:frzAt (some (.o d)::ρ) 0=some (some (.v d)::ρ):=rfl
theorem frz_v {d:D}{ρ:Ev}:frzAt (some (.v d)::ρ) 0=some (some (.v d)::ρ):=rfl
theorem a8E {x:Option W}{ρ:Ev}{n:Nat}:frzAt (x::ρ) (n+1)=(frzAt ρ n).map fun ρ'=>x::ρ':=by
 unfold frzAt;rw[qX]
 split<;>rename_i h<;>simp[h]
abbrev acc (zs:List D):Ev:=[some (.l (.lst zs))]
theorem a2T {B:Ev}{zs:List D}{k:Nat}(h:B.length=k):ownAt (B++acc zs) k=some (.lst zs):=by
 unfold ownAt;rw[zT (by walk_at "o"),h,jE];rfl
theorem a7P {B:Ev}{zs ys:List D}{k:Nat}(h:B.length=k):setOwn (B++acc zs) k (.lst ys)=B++acc ys:=by
 unfold setOwn;have e:(B++acc zs)[k]? =some (some (.l (.lst zs))):=by rw[zT (by walk_at "o"),h,jE];rfl
 rw[e];simp only;rw[List.set_append_right _ _ (by walk_at "o"),h,jE];rfl
theorem app_v {B:Ev}{zs:List D}{k:Nat}{w:W}{d:D}(h:B.length=k)(hw:w= .v d\/w= .o d)(hl:zs.length<lim):appTo k (w,B++acc zs)=some (B++acc (zs++[d])):=by
 unfold appTo;have e:w.fz= .v d:=by rcases hw with rfl|rfl<;>rfl
 simp only[e,takeAll,jJ,bind_some];rw[a2T h];simp only[if_pos hl,a7P h]
theorem T3 {k:Nat}{gf:FG}{t:FT}{fe:FX}(I:Ev->Prop)(p:D->Bool)(h:D->D)(hI:∀B,I B->B.length=k):∀(xs:List D),(∀x∈xs,∀B zs,I B->∃B' w,I B'/\gf x (B++acc zs)=some (B'++acc zs)/\t (B'++acc zs)=some (p x,B'++acc zs)/\(p x=true->fe (B'++acc zs)=some (w,B'++acc zs)/\(w= .v (h x)\/w= .o (h x))))->
  ∀(B:Ev) (zs:List D),zs.length+xs.length<=lim->I B->∃B',I B'/\loopC (turnC k gf t fe) xs (B++acc zs)=some (B'++acc (zs++(xs.filter p).map h))
 | [],st,B,zs,hl,i=>⟨B,i,by simp[loopC]⟩
 | x::xs,st,B,zs,hl,i=>by
  obtain⟨B1,w,i1,e1,e2,e3⟩:=st x zR B zs i;rw[qL] at hl;cases hp:p x with
  | true=>
   obtain⟨e4,hw⟩:=e3 hp;obtain⟨B2,i2,e5⟩:=T3 I p h hI xs (fun y hy=>st y (zN _ hy)) B1 (zs++[h x]) (by rw[zZ,jM];walk_at "o") i1
   refine⟨B2,i2,?_⟩;rw[loopC,turnC,e1];have ea:=app_v (zs:=zs) (hI B1 i1) hw (by walk_at "o")
   simp only[bind_some,e2,hp,qW,e4,ea];rw[e5,xW hp,zJ,yL];rfl
  | false=>
   obtain⟨B2,i2,e5⟩:=T3 I p h hI xs (fun y hy=>st y (zN _ hy)) B1 zs (by walk_at "o") i1
   refine⟨B2,i2,?_⟩;rw[loopC,turnC,e1];simp only[bind_some,e2,hp,qQ,jK];rw[e5,List.filter_cons_of_neg (by rw[hp];exact zP)]
theorem k8 {fi:FI}{js:List (Option Nat)}{gf:FG}{t:FT}{fe:FX}{ρ ρ1:Ev}{xs:List D}(I:Ev->Prop)(p:D->Bool)(h:D->D)(ei:fi ρ=some (xs,ρ1))(hI:∀B,I B->B.length=js.length)(h0:I (capE none js ρ1))(hl:xs.length<=lim)(hf:lfL ((xs.filter p).map h)=true)
  (st:∀x∈xs,∀B zs,I B->∃B' w,I B'/\gf x (B++acc zs)=some (B'++acc zs)/\t (B'++acc zs)=some (p x,B'++acc zs)/\(p x=true->fe (B'++acc zs)=some (w,B'++acc zs)/\(w= .v (h x)\/w= .o (h x)))):
  fComp fi none js gf t fe ρ=some (.o (.lst ((xs.filter p).map h)),ρ1):=by
 obtain⟨B',i',e⟩:=T3 I p h hI xs st (capE none js ρ1) [] (by rw[yB];walk_at "o") h0
 unfold fComp;rw[ei];simp only[bind_some,liB,qW,Option.map_none];rw[show capE none js ρ1++[some (.l (.lst []))]=capE none js ρ1++acc [] from rfl,e];simp only[bind_some,nil_append,a2T (hI B' i'),backG,lfC,hf,qW]
theorem S8 {α:Type}(xs:List α):xs.filter (fun _=>true)=xs:=by induction xs with
 | nil=>rfl
 | cons x xs ih=>rw[xW rfl,ih]
def Sz (n:Nat) (q:Rat):Prop:=q.num.natAbs<2^n/\q.den<2^n
theorem Sz.mono {m n:Nat}{q:Rat}(h:Sz m q)(hm:m<=n):Sz n q:=⟨zF h.1 (Nat.pow_le_pow_right (by decide) hm),zF h.2 (Nat.pow_le_pow_right (by decide) hm)⟩
section
variable {ρ ρ1 ρ2:Ev}{op:D->D->Option W}{o:D->Option W}{f g h:FX}{t u:FT}{fa:FA}{F G:FS}{i j:Nat}{d e x y:D}{w z:W}{ws:List W}{ds xs ys:List D}{r:R}{k b:Bool}
def varO (i:Nat) (ρ:Ev):Option (Option W)->Option (W×Ev)
 | some (some (.v d))=>some (.v d,ρ)
 | some (some (.r _))=>none
 | some (some _)=>some (.r i,ρ)
 | _=>none
theorem a9b:fVar i ρ=varO i ρ ρ[i]?:=by unfold fVar varO;split<;>simp_all
theorem a39:varO i ρ (some (some (.v d)))=some (.v d,ρ):=rfl
theorem a4a:varO i ρ (some (some (.o d)))=some (.r i,ρ):=rfl
theorem a36:varO i ρ (some (some (.l d)))=some (.r i,ρ):=rfl
theorem r_c:fC d ρ=some (.v d,ρ):=rfl
def drO:Option (Option W)->Option D
 | some (some (.v d))=>some d
 | some (some w)=>w.own
 | _=>none
theorem a5A:dr ρ (.v d)=some d:=rfl
theorem a5o:dr ρ (.r i)=drO ρ[i]?:=by unfold dr drO;rfl
theorem r_drO_v:drO (some (some (.v d)))=some d:=rfl
theorem a3x:drO (some (some (.o d)))=some d:=rfl
theorem a3h:drO (some (some (.l d)))=some d:=rfl
theorem a5p:(W.v d).fz= .v d:=rfl
theorem a69:(W.o d).fz= .v d:=rfl
theorem a5Y:(W.r i).fz= .r i:=rfl
def drsC (ρ:Ev) (ws:List W):Option D->Option (List D)
 | some d=>(drs ρ ws).map fun ds=>d::ds
 | none=>none
theorem a3P:drs ρ []=some []:=rfl
theorem a28:drs ρ (w::ws)=drsC ρ ws (dr ρ w):=by rw[drs];unfold drsC;cases dr ρ w<;>rfl
theorem a55:drsC ρ ws (some d)=(drs ρ ws).map fun ds=>d::ds:=rfl
def bin2 (op:D->D->Option W) (g:FX):Option (W×Ev)->Option (W×Ev)
 | some p=>(g p.2).bind fun q=>(dr q.2 p.1.fz).bind fun x=>(dr q.2 q.1.fz).bind fun y=>(op x y).map fun w=>(w,q.2)
 | none=>none
def bin3 (op:D->D->Option W) (w:W):Option (W×Ev)->Option (W×Ev)
 | some q=>(dr q.2 w.fz).bind fun x=>(dr q.2 q.1.fz).bind fun y=>(op x y).map fun w=>(w,q.2)
 | none=>none
def bin4 (op:D->D->Option W) (ρ:Ev):Option D->Option D->Option (W×Ev)
 | some x,some y=>(op x y).map fun w=>(w,ρ)
 | _,_=>none
def withE (ρ:Ev):Option W->Option (W×Ev)
 | some w=>some (w,ρ)
 | none=>none
theorem a8A:fBin op f g ρ=bin2 op g (f ρ):=by unfold fBin bin2;cases f ρ<;>rfl
theorem a6k:bin2 op g (some (w,ρ))=bin3 op w (g ρ):=by unfold bin2 bin3;dsimp only;cases g ρ<;>rfl
theorem a6O:bin3 op w (some (z,ρ))=bin4 op ρ (dr ρ w.fz) (dr ρ z.fz):=by unfold bin3 bin4;dsimp only;cases dr ρ w.fz<;>cases dr ρ z.fz<;>rfl
theorem a6t:bin4 op ρ (some x) (some y)=withE ρ (op x y):=by unfold bin4 withE;dsimp only;cases op x y<;>rfl
theorem a5M:withE ρ (some w)=some (w,ρ):=rfl
def un2 (o:D->Option W):Option (W×Ev)->Option (W×Ev)
 | some p=>(dr p.2 p.1.fz).bind fun x=>(o x).map fun w=>(w,p.2)
 | none=>none
def un3 (o:D->Option W) (ρ:Ev):Option D->Option (W×Ev)
 | some x=>withE ρ (o x)
 | none=>none
theorem r_un:fUn o f ρ=un2 o (f ρ):=by unfold fUn un2;cases f ρ<;>rfl
theorem a8X:un2 o (some (w,ρ))=un3 o ρ (dr ρ w.fz):=by unfold un2 un3 withE;dsimp only;cases dr ρ w.fz with
 | none=>rfl
 | some x=>simp only[bind_some];cases o x<;>rfl
theorem a8x:un3 o ρ (some x)=withE ρ (o x):=rfl
def tstO:Option (W×Ev)->Option (Bool×Ev)
 | some (.v (.bl k),ρ)=>some (k,ρ)
 | _=>none
theorem Z6:fTest f ρ=tstO (f ρ):=by
 unfold fTest tstO;cases f ρ with
 | none=>rfl
 | some p=>
  obtain⟨w,ρ⟩:=p;cases w with
  | v d=>cases d<;>rfl
  | _=>rfl
theorem a6a:tstO (some (.v (.bl k),ρ))=some (k,ρ):=rfl
def tru2:Option (W×Ev)->Option (Bool×Ev)
 | some p=>(dr p.2 p.1.fz).bind fun d=>(truth d).map fun k=>(k,p.2)
 | none=>none
def tru3 (ρ:Ev):Option D->Option (Bool×Ev)
 | some d=>(truth d).map fun k=>(k,ρ)
 | none=>none
theorem a5r:fTru f ρ=tru2 (f ρ):=by unfold fTru tru2;cases f ρ<;>rfl
theorem a64:tru2 (some (w,ρ))=tru3 ρ (dr ρ w.fz):=by unfold tru2 tru3;dsimp only;cases dr ρ w.fz<;>rfl
theorem a1Y:tru3 ρ (some (.bl k))=some (k,ρ):=rfl
theorem b0i:tru3 ρ (some (.tup xs))=some (!xs.isEmpty,ρ):=rfl
theorem b0f:tru3 ρ (some (.lst xs))=some (!xs.isEmpty,ρ):=rfl
theorem b0l:tru3 ρ (some .non)=some (false,ρ):=rfl
def notO:Option (Bool×Ev)->Option (Bool×Ev)
 | some p=>some (!p.1,p.2)
 | none=>none
theorem a8R:fNot t ρ=notO (t ρ):=by unfold fNot notO;cases t ρ<;>rfl
theorem a5G:notO (some (k,ρ))=some (!k,ρ):=rfl
def andO (u:FT):Option (Bool×Ev)->Option (Bool×Ev)
 | some (true,ρ)=>u ρ
 | some (false,ρ)=>some (false,ρ)
 | none=>none
def orO (u:FT):Option (Bool×Ev)->Option (Bool×Ev)
 | some (true,ρ)=>some (true,ρ)
 | some (false,ρ)=>u ρ
 | none=>none
theorem a8s:fAnd t u ρ=andO u (t ρ):=by unfold fAnd andO;cases t ρ with
 | none=>rfl
 | some p=>obtain⟨k,ρ⟩:=p;cases k<;>rfl
theorem r_or:fOr t u ρ=orO u (t ρ):=by unfold fOr orO;cases t ρ with
 | none=>rfl
 | some p=>obtain⟨k,ρ⟩:=p;cases k<;>rfl
theorem a3y:andO u (some (true,ρ))=u ρ:=id rfl
theorem a30:andO u (some (false,ρ))=some (false,ρ):=rfl
theorem r_or_t:orO u (some (true,ρ))=some (true,ρ):=rfl
theorem a5K:orO u (some (false,ρ))=u ρ:=id rfl
def andV (g:FX):Option (Bool×Ev)->Option (W×Ev)
 | some (true,ρ)=>g ρ
 | some (false,ρ)=>some (.v (.bl false),ρ)
 | none=>none
def orV (g:FX):Option (Bool×Ev)->Option (W×Ev)
 | some (true,ρ)=>some (.v (.bl true),ρ)
 | some (false,ρ)=>g ρ
 | none=>none
def notV:Option (Bool×Ev)->Option (W×Ev)
 | some (k,ρ)=>some (.v (.bl (!k)),ρ)
 | none=>none
def ifV (f g:FX):Option (Bool×Ev)->Option (W×Ev)
 | some (true,ρ)=>f ρ
 | some (false,ρ)=>g ρ
 | none=>none
theorem a5O:fAndV f g ρ=andV g (tstO (f ρ)):=by unfold fAndV andV;rw[Z6];cases tstO (f ρ) with
 | none=>rfl
 | some p=>obtain⟨k,ρ⟩:=p;cases k<;>rfl
theorem r_orV:fOrV f g ρ=orV g (tstO (f ρ)):=by unfold fOrV orV;rw[Z6];cases tstO (f ρ) with
 | none=>rfl
 | some p=>obtain⟨k,ρ⟩:=p;cases k<;>rfl
theorem r_notV:fNotV f ρ=notV (tstO (f ρ)):=by unfold fNotV notV;rw[Z6];cases tstO (f ρ)<;>rfl
theorem r_if:fIf t f g ρ=ifV f g (t ρ):=by unfold fIf ifV;cases t ρ with
 | none=>rfl
 | some p=>obtain⟨k,ρ⟩:=p;cases k<;>rfl
theorem a2r:andV g (some (true,ρ))=g ρ:=id rfl
theorem r_andV_f:andV g (some (false,ρ))=some (.v (.bl false),ρ):=rfl
theorem r_orV_t:orV g (some (true,ρ))=some (.v (.bl true),ρ):=rfl
theorem r_orV_f:orV g (some (false,ρ))=g ρ:=id rfl
theorem r_notV_s:notV (some (k,ρ))=some (.v (.bl (!k)),ρ):=rfl
theorem a5b:ifV f g (some (true,ρ))=f ρ:=id rfl
theorem a5d:ifV f g (some (false,ρ))=g ρ:=id rfl
def cons2 (fa:FA):Option (W×Ev)->Option (List W×Ev)
 | some p=>(fa p.2).map fun q=>(p.1.fz::q.1,q.2)
 | none=>none
def cons3 (w:W):Option (List W×Ev)->Option (List W×Ev)
 | some q=>some (w::q.1,q.2)
 | none=>none
theorem a82:fNil ρ=some ([],ρ):=rfl
theorem a5c:fCons f fa ρ=cons2 fa (f ρ):=by unfold fCons cons2;cases f ρ<;>rfl
theorem a3c:cons2 fa (some (w,ρ))=cons3 w.fz (fa ρ):=by unfold cons2 cons3;dsimp only;cases fa ρ<;>rfl
theorem a3o:cons3 w (some (ws,ρ))=some (w::ws,ρ):=rfl
def takC (d:D):Option (List D×Ev)->Option (List D×Ev)
 | some p=>some (d::p.1,p.2)
 | none=>none
def takR (i:Nat) (ws:List W):Option Ev->Option (List D×Ev)
 | some ρ1=>match ρ1[i]? with
  | some (some (.v d))=>(takeAll ρ1 ws).map fun p=>(d::p.1,p.2)
  | _=>none
 | none=>none
def takS (ρ:Ev) (ws:List W):Option (Option W)->Option (List D×Ev)
 | some (some (.v d))=>takC d (takeAll ρ ws)
 | _=>none
theorem a3n:takeAll ρ []=some ([],ρ):=rfl
theorem a38:takeAll ρ (.v d::ws)=takC d (takeAll ρ ws):=by rw[takeAll];unfold takC;cases takeAll ρ ws<;>rfl
theorem a3m:takeAll ρ (.r i::ws)=takR i ws (frzAt ρ i):=by rw[takeAll];unfold takR;cases frzAt ρ i<;>rfl
theorem a6W:takC d (some (ds,ρ))=some (d::ds,ρ):=rfl
theorem a7b:takR i ws (some ρ)=takS ρ ws ρ[i]?:=by
 unfold takR takS;dsimp only
 split
 ·unfold takC;cases takeAll ρ ws<;>rfl
 ·rfl
theorem a5h:takS ρ ws (some (some (.v d)))=takC d (takeAll ρ ws):=rfl
def disp2 (mk:List D->W):Option (List W×Ev)->Option (W×Ev)
 | some p=>(takeAll p.2 p.1).bind fun q=>if q.1.length<=lim then some (mk q.1,q.2) else none
 | none=>none
def disp3 (mk:List D->W):Option (List D×Ev)->Option (W×Ev)
 | some q=>if q.1.length<=lim then some (mk q.1,q.2) else none
 | none=>none
theorem a8Q:fTup fa ρ=disp2 (fun ds=>.v (.tup ds)) (fa ρ):=by unfold fTup disp2;cases fa ρ<;>rfl
theorem a8N:fLst fa ρ=disp2 (fun ds=>.o (.lst ds)) (fa ρ):=by unfold fLst disp2;cases fa ρ<;>rfl
theorem a3K {mk:List D->W}:disp2 mk (some (ws,ρ))=disp3 mk (takeAll ρ ws):=by unfold disp2 disp3;dsimp only;cases takeAll ρ ws<;>rfl
theorem a3H {mk:List D->W}:disp3 mk (some (ds,ρ))=if ds.length<=lim then some (mk ds,ρ) else none:=rfl
def call2 (k:List D->Option W):Option (List W×Ev)->Option (W×Ev)
 | some p=>(drs p.2 p.1).bind fun ds=>(k ds).map fun w=>(w,p.2)
 | none=>none
def call3 (k:List D->Option W) (ρ:Ev):Option (List D)->Option (W×Ev)
 | some ds=>withE ρ (k ds)
 | none=>none
theorem a5k {k:List D->Option W}:fCall k fa ρ=call2 k (fa ρ):=by unfold fCall call2;cases fa ρ<;>rfl
theorem a3e {k:List D->Option W}:call2 k (some (ws,ρ))=call3 k ρ (drs ρ ws):=by
 unfold call2 call3 withE;dsimp only;cases drs ρ ws with
 | none=>rfl
 | some ds=>simp only[bind_some];cases k ds<;>rfl
theorem a3T {k:List D->Option W}:call3 k ρ (some ds)=withE ρ (k ds):=rfl
theorem r_k1 {g:D->Option W}:k1 g [d]=g d:=rfl
theorem r_k2 {g:Int->Int->D}{i j:Int}:k2 g [.int i,.int j]=some (.v (g i j)):=rfl
def def2 (g:List D->Option W):Option (List W×Ev)->Option (W×Ev)
 | some p=>(drs p.2 p.1).bind fun ds=>(g ds).bind fun w=>if lfW w=true then some (w,p.2) else(frzL p.1 p.2).map fun ρ2=>(w,ρ2)
 | none=>none
def def3 (g:List D->Option W) (ws:List W) (ρ:Ev):Option (List D)->Option (W×Ev)
 | some ds=>(g ds).bind fun w=>if lfW w=true then some (w,ρ) else(frzL ws ρ).map fun ρ2=>(w,ρ2)
 | none=>none
def def4 (ws:List W) (ρ:Ev):Option W->Option (W×Ev)
 | some w=>if lfW w=true then some (w,ρ) else(frzL ws ρ).map fun ρ2=>(w,ρ2)
 | none=>none
theorem a8T {g:List D->Option W}:fDef g fa ρ=def2 g (fa ρ):=by unfold fDef def2;cases fa ρ<;>rfl
theorem a6V {g:List D->Option W}:def2 g (some (ws,ρ))=def3 g ws ρ (drs ρ ws):=by unfold def2 def3;dsimp only;cases drs ρ ws<;>rfl
theorem a6q {g:List D->Option W}:def3 g ws ρ (some ds)=def4 ws ρ (g ds):=by unfold def3 def4;dsimp only;cases g ds<;>rfl
theorem a62:def4 ws ρ (some w)=if lfW w=true then some (w,ρ) else(frzL ws ρ).map fun ρ2=>(w,ρ2):=rfl
def dl2 (g:D->List D->Option (W×D)):Option (List W×Ev)->Option (W×Ev)
 | some (.r i::ws,ρ)=>(ownAt ρ i).bind fun c=>(drs ρ ws).bind fun ds=>(g c ds).bind fun z=>if noR i ws=true/\lfC z.2=true then(if lfW z.1=true then some (z.1,setOwn ρ i z.2) else(frzL ws (setOwn ρ i z.2)).map fun ρ2=>(z.1,ρ2)) else none
 | _=>none
def dl3 (g:D->List D->Option (W×D)) (i:Nat) (ws:List W) (ρ:Ev):Option D->Option (List D)->Option (W×Ev)
 | some c,some ds=>(g c ds).bind fun z=>if noR i ws=true/\lfC z.2=true then(if lfW z.1=true then some (z.1,setOwn ρ i z.2) else(frzL ws (setOwn ρ i z.2)).map fun ρ2=>(z.1,ρ2)) else none
 | _,_=>none
def dl4 (i:Nat) (ws:List W) (ρ:Ev):Option (W×D)->Option (W×Ev)
 | some z=>if noR i ws=true/\lfC z.2=true then(if lfW z.1=true then some (z.1,setOwn ρ i z.2) else(frzL ws (setOwn ρ i z.2)).map fun ρ2=>(z.1,ρ2)) else none
 | none=>none
theorem r_dl {g:D->List D->Option (W×D)}:fDefL g fa ρ=dl2 g (fa ρ):=by
 unfold fDefL dl2;cases fa ρ with
 | none=>rfl
 | some p=>
  obtain⟨ws,ρ⟩:=p;cases ws with
  | nil=>rfl
  | cons w ws=>cases w<;>rfl
theorem a84 {g:D->List D->Option (W×D)}:dl2 g (some (.r i::ws,ρ))=dl3 g i ws ρ (ownAt ρ i) (drs ρ ws):=by unfold dl2 dl3;dsimp only;cases ownAt ρ i<;>cases drs ρ ws<;>rfl
theorem a8S {g:D->List D->Option (W×D)}:dl3 g i ws ρ (some d) (some ds)=dl4 i ws ρ (g d ds):=by unfold dl3 dl4;dsimp only;cases g d ds<;>rfl
theorem a8F:dl4 i ws ρ (some (w,d))=if noR i ws=true/\lfC d=true then(if lfW w=true then some (w,setOwn ρ i d) else(frzL ws (setOwn ρ i d)).map fun ρ2=>(w,ρ2)) else none:=rfl
def sl2 (lo hi:FO):Option (W×Ev)->Option (W×Ev)
 | some p=>(lo p.2).bind fun l=>(hi l.2).bind fun u=>(dr u.2 p.1.fz).bind fun x=>(slD x l.1 u.1).map fun w=>(w,u.2)
 | none=>none
def sl3 (hi:FO) (w:W):Option (Option Int×Ev)->Option (W×Ev)
 | some l=>(hi l.2).bind fun u=>(dr u.2 w.fz).bind fun x=>(slD x l.1 u.1).map fun w=>(w,u.2)
 | none=>none
def sl4 (w:W) (l:Option Int):Option (Option Int×Ev)->Option (W×Ev)
 | some u=>(dr u.2 w.fz).bind fun x=>(slD x l u.1).map fun w=>(w,u.2)
 | none=>none
def sl5 (l u:Option Int) (ρ:Ev):Option D->Option (W×Ev)
 | some x=>withE ρ (slD x l u)
 | none=>none
theorem r_sl {lo hi:FO}:fSl f lo hi ρ=sl2 lo hi (f ρ):=by unfold fSl sl2;cases f ρ<;>rfl
theorem a8l {lo hi:FO}:sl2 lo hi (some (w,ρ))=sl3 hi w (lo ρ):=by unfold sl2 sl3;dsimp only;cases lo ρ<;>rfl
theorem a8q {hi:FO}{l:Option Int}:sl3 hi w (some (l,ρ))=sl4 w l (hi ρ):=by unfold sl3 sl4;dsimp only;cases hi ρ<;>rfl
theorem a8J {l u:Option Int}:sl4 w l (some (u,ρ))=sl5 l u ρ (dr ρ w.fz):=by
 unfold sl4 sl5 withE;dsimp only;cases dr ρ w.fz with
 | none=>rfl
 | some x=>simp only[bind_some];cases slD x l u<;>rfl
theorem a8V {l u:Option Int}:sl5 l u ρ (some x)=withE ρ (slD x l u):=rfl
theorem a6b {l u:Option Int}:slD (.tup xs) l u=some (.v (.tup (cutD xs l u))):=rfl
theorem r_sl_l {l u:Option Int}:slD (.lst xs) l u=some (.o (.lst (cutD xs l u))):=rfl
def o1O:Option (W×Ev)->Option (Option Int×Ev)
 | some (.v (.int i),ρ)=>some (some i,ρ)
 | _=>none
theorem r_o0:fO0 ρ=some (none,ρ):=rfl
theorem r_o1:fO1 f ρ=o1O (f ρ):=by
 unfold fO1 o1O;cases f ρ with
 | none=>rfl
 | some p=>
  obtain⟨w,ρ⟩:=p;cases w with
  | v d=>cases d<;>rfl
  | _=>rfl
theorem a88 {n:Int}:o1O (some (.v (.int n),ρ))=some (some n,ρ):=rfl
def thnO (G:FS):Option R->Option R
 | some (.nx ρ)=>G ρ
 | o=>o
theorem a6J:fThen F G ρ=thnO G (F ρ):=by unfold fThen thnO;cases F ρ with
 | none=>rfl
 | some r=>cases r<;>rfl
theorem a03:thnO G (some (.nx ρ))=G ρ:=id rfl
theorem a0z:thnO G (some (.rt w ρ))=some (.rt w ρ):=id rfl
theorem b0n:thnO G (some (.bk ρ))=some (.bk ρ):=rfl
theorem b0g:thnO G (some (.ct ρ))=some (.ct ρ):=rfl
def retO:Option (W×Ev)->Option R
 | some p=>retW p.2 p.1
 | none=>none
def retS (ρ:Ev):Option (Option W)->Option R
 | some (some (.o d))=>some (.rt (.o d) ρ)
 | some (some (.v d))=>some (.rt (.v d) ρ)
 | _=>none
theorem a8P:fRet f ρ=retO (f ρ):=by unfold fRet retO;cases f ρ<;>rfl
theorem a37:retO (some (.v d,ρ))=some (.rt (.v d) ρ):=rfl
theorem a3s:retO (some (.o d,ρ))=some (.rt (.o d) ρ):=rfl
theorem a3t:retO (some (.r i,ρ))=retS ρ ρ[i]?:=by unfold retO retS;first|(dsimp only[retW];done)|(dsimp only[retW];rfl)
theorem a2a:retS ρ (some (some (.o d)))=some (.rt (.o d) ρ):=rfl
theorem r_retS_v:retS ρ (some (some (.v d)))=some (.rt (.v d) ρ):=rfl
def ifO (F G:FS):Option (Bool×Ev)->Option R
 | some (true,ρ)=>F ρ
 | some (false,ρ)=>G ρ
 | none=>none
theorem r_ifS:fIfS t F G ρ=ifO F G (t ρ):=by unfold fIfS ifO;cases t ρ with
 | none=>rfl
 | some p=>obtain⟨k,ρ⟩:=p;cases k<;>rfl
theorem a3k:ifO F G (some (true,ρ))=F ρ:=id rfl
theorem a26:ifO F G (some (false,ρ))=G ρ:=id rfl
def asgO (i:Nat):Option (W×Ev)->Option R
 | some p=>(bindW p.2 i p.1).map .nx
 | none=>none
def bndO (i j:Nat):Option Ev->Option R
 | some ρ1=>match ρ1[j]? with
  | some (some (.v d))=>if freeSlot ρ1 i=true then some (.nx (ρ1.set i (some (.v d)))) else none
  | _=>none
 | none=>none
def bndS (i:Nat) (ρ:Ev):Option (Option W)->Option R
 | some (some (.v d))=>if freeSlot ρ i=true then some (.nx (ρ.set i (some (.v d)))) else none
 | _=>none
theorem a89:fAsg i f ρ=asgO i (f ρ):=by unfold fAsg asgO;cases f ρ<;>rfl
theorem a3M:asgO i (some (.v d,ρ))=if freeSlot ρ i=true then some (.nx (ρ.set i (some (.v d)))) else none:=by unfold asgO;dsimp only[bindW];split<;>rfl
theorem a3A:asgO i (some (.o d,ρ))=if freeSlot ρ i=true then some (.nx (ρ.set i (some (.o d)))) else none:=by unfold asgO;dsimp only[bindW];split<;>rfl
theorem r_asg_r:asgO i (some (.r j,ρ))=bndO i j (frzAt ρ j):=by
 unfold asgO bndO;dsimp only[bindW];cases frzAt ρ j with
 | none=>rfl
 | some ρ1=>
  simp only[bind_some];cases q:ρ1[j]? with
  | none=>rfl
  | some o=>
   cases o with
   | none=>rfl
   | some w=>
    cases w with
    | v d=>dsimp only;split<;>rfl
    | _=>rfl
theorem r_bndO:bndO i j (some ρ)=bndS i ρ ρ[j]?:=by
 unfold bndO bndS;rfl
theorem r_bndS:bndS i ρ (some (some (.v d)))=if freeSlot ρ i=true then some (.nx (ρ.set i (some (.v d)))) else none:=rfl
def agO2 (gf:FG):Option (W×Ev)->Option R
 | some p=>(takeAll p.2 [p.1.fz]).bind fun q=>match q.1 with
  | [d]=>(gf d q.2).map .nx
  | _=>none
 | none=>none
def agO3 (gf:FG):Option (List D×Ev)->Option R
 | some ([d],ρ)=>(gf d ρ).map .nx
 | _=>none
def nxO:Option Ev->Option R
 | some ρ=>some (.nx ρ)
 | none=>none
theorem r_ag {gf:FG}:fAsgG f gf ρ=agO2 gf (f ρ):=by unfold fAsgG agO2;cases f ρ<;>rfl
theorem a8m {gf:FG}:agO2 gf (some (w,ρ))=agO3 gf (takeAll ρ [w.fz]):=by
 unfold agO2 agO3;dsimp only;cases takeAll ρ [w.fz] with
 | none=>rfl
 | some p=>
  obtain⟨ds,ρ⟩:=p
  match ds with
  | []=>rfl
  | [_]=>rfl
  | _::_::_=>rfl
theorem a8j {gf:FG}:agO3 gf (some ([d],ρ))=nxO (gf d ρ):=by unfold agO3 nxO;dsimp only;cases gf d ρ<;>rfl
theorem a8L:nxO (some ρ)=some (.nx ρ):=rfl
theorem a3U:gfName i d ρ=if freeSlot ρ i=true then some (ρ.set i (some (.v d))) else none:=rfl
def gcO (gs:FGs) (ds:List D):Option Ev->Option Ev
 | some ρ=>gs ds ρ
 | none=>none
theorem a65:gfNil [] ρ=some ρ:=rfl
theorem a3b {gf:FG}{gs:FGs}:gfCons gf gs (d::ds) ρ=gcO gs ds (gf d ρ):=by unfold gfCons gcO;dsimp only;cases gf d ρ<;>rfl
theorem a8k {gs:FGs}:gcO gs ds (some ρ)=gs ds ρ:=id rfl
theorem a7e {gs:FGs}:gfTup gs (.tup ds) ρ=gs ds ρ:=rfl
def gs2 (g:FX) (d:D):Option (W×Ev)->Option Ev
 | some (.r j,ρ)=>(g ρ).bind fun q=>(dr q.2 q.1.fz).bind fun k=>match k,ownAt q.2 j with
  | .int k,some (.lst xs)=>(ixN xs.length k).map fun n=>setOwn q.2 j (.lst (xs.set n d))
  | _,_=>none
 | _=>none
def gs3 (j:Nat) (d:D):Option (W×Ev)->Option Ev
 | some q=>(dr q.2 q.1.fz).bind fun k=>match k,ownAt q.2 j with
  | .int k,some (.lst xs)=>(ixN xs.length k).map fun n=>setOwn q.2 j (.lst (xs.set n d))
  | _,_=>none
 | none=>none
def gs4 (j:Nat) (d:D) (ρ:Ev):Option D->Option D->Option Ev
 | some (.int k),some (.lst xs)=>(ixN xs.length k).map fun n=>setOwn ρ j (.lst (xs.set n d))
 | _,_=>none
theorem r_gs:gfSub f g d ρ=gs2 g d (f ρ):=by
 unfold gfSub gs2;cases f ρ with
 | none=>rfl
 | some p=>obtain⟨w,ρ⟩:=p;cases w<;>rfl
theorem a9c:gs2 g d (some (.r j,ρ))=gs3 j d (g ρ):=by unfold gs2 gs3;dsimp only;cases g ρ<;>rfl
theorem a8h:gs3 j d (some (w,ρ))=gs4 j d ρ (dr ρ w.fz) (ownAt ρ j):=by
 unfold gs3 gs4;dsimp only;cases dr ρ w.fz with
 | none=>rfl
 | some k=>
  simp only[bind_some];cases k with
  | int n=>cases ownAt ρ j with
   | none=>rfl
   | some c=>cases c<;>rfl
  | _=>rfl
theorem a8n {n:Int}:gs4 j d ρ (some (.int n)) (some (.lst xs))=(ixN xs.length n).map fun n=>setOwn ρ j (.lst (xs.set n d)):=rfl
def dropO:Option (W×Ev)->Option R
 | some p=>some (.nx p.2)
 | none=>none
theorem a6j:fDrop f ρ=dropO (f ρ):=by unfold fDrop dropO;cases f ρ<;>rfl
theorem a4c:dropO (some (w,ρ))=some (.nx ρ):=rfl
def par2 (i j:Nat):Option (List W×Ev)->Option R
 | some p=>(takeAll p.2 p.1).bind fun q=>match q.1 with
  | [d,d']=>if freeSlot q.2 i=true/\freeSlot (q.2.set i (some (.v d))) j=true then some (.nx ((q.2.set i (some (.v d))).set j (some (.v d')))) else none
  | _=>none
 | none=>none
def par3 (i j:Nat):Option (List D×Ev)->Option R
 | some ([d,d'],ρ)=>if freeSlot ρ i=true/\freeSlot (ρ.set i (some (.v d))) j=true then some (.nx ((ρ.set i (some (.v d))).set j (some (.v d')))) else none
 | _=>none
theorem r_par:fPar i j fa ρ=par2 i j (fa ρ):=by unfold fPar par2;cases fa ρ<;>rfl
theorem r_par2:par2 i j (some (ws,ρ))=par3 i j (takeAll ρ ws):=by
 unfold par2 par3;dsimp only;cases takeAll ρ ws with
 | none=>rfl
 | some p=>
  obtain⟨ds,ρ⟩:=p
  match ds with
  | []=>rfl
  | [_]=>rfl
  | [_,_]=>rfl
  | _::_::_::_=>rfl
theorem r_par3:par3 i j (some ([d,e],ρ))=if freeSlot ρ i=true/\freeSlot (ρ.set i (some (.v d))) j=true then some (.nx ((ρ.set i (some (.v d))).set j (some (.v e)))) else none:=rfl
def is2:Option (W×Ev)->Option (List D×Ev)
 | some p=>(takeAll p.2 [p.1.fz]).bind fun q=>match q.1 with
  | [d]=>(items d).map fun xs=>(xs,q.2)
  | _=>none
 | none=>none
def is3:Option (List D×Ev)->Option (List D×Ev)
 | some ([.tup xs],ρ)=>some (xs,ρ)
 | some ([.lst xs],ρ)=>some (xs,ρ)
 | _=>none
theorem r_is:fiSeq f ρ=is2 (f ρ):=by unfold fiSeq is2;cases f ρ<;>rfl
theorem a8g:is2 (some (w,ρ))=is3 (takeAll ρ [w.fz]):=by
 unfold is2 is3;dsimp only;cases takeAll ρ [w.fz] with
 | none=>rfl
 | some p=>
  obtain⟨ds,ρ⟩:=p
  match ds with
  | []=>rfl
  | [d]=>cases d<;>rfl
  | _::_::_=>simp
theorem a6B:is3 (some ([.tup xs],ρ))=some (xs,ρ):=rfl
theorem a57:is3 (some ([.lst xs],ρ))=some (xs,ρ):=rfl
def forO (gf:FG) (b:FS):Option (List D×Ev)->Option R
 | some p=>loopF (turnF gf b) p.1 p.2
 | none=>none
theorem a81 {fi:FI}{gf:FG}:fFor fi gf F ρ=forO gf F (fi ρ):=by unfold fFor forO;cases fi ρ<;>rfl
theorem a51 {gf:FG}:forO gf F (some (xs,ρ))=loopF (turnF gf F) xs ρ:=id rfl
def turnO (b:FS):Option Ev->Option R
 | some ρ=>b ρ
 | none=>none
theorem a6x {gf:FG}:turnF gf F d ρ=turnO F (gf d ρ):=by unfold turnF turnO;cases gf d ρ<;>rfl
theorem a3R:turnO F (some ρ)=F ρ:=id rfl
def mu2 (op:List D->List D->Option (W×List D)) (fa:FA):Option (W×Ev)->Option (W×Ev)
 | some (.r i,ρ)=>if isLst (ownAt ρ i)=true then(fa ρ).bind fun q=>(takeAll q.2 q.1).bind fun z=>match ownAt z.2 i with
  | some (.lst xs)=>(op xs z.1).map fun y=>(y.1,setOwn z.2 i (.lst y.2))
  | _=>none
  else none
 | _=>none
def mu3 (op:List D->List D->Option (W×List D)) (i:Nat):Option (List W×Ev)->Option (W×Ev)
 | some q=>(takeAll q.2 q.1).bind fun z=>match ownAt z.2 i with
  | some (.lst xs)=>(op xs z.1).map fun y=>(y.1,setOwn z.2 i (.lst y.2))
  | _=>none
 | none=>none
def mu4 (op:List D->List D->Option (W×List D)) (i:Nat):Option (List D×Ev)->Option (W×Ev)
 | some z=>match ownAt z.2 i with
  | some (.lst xs)=>(op xs z.1).map fun y=>(y.1,setOwn z.2 i (.lst y.2))
  | _=>none
 | none=>none
def mu5 (op:List D->List D->Option (W×List D)) (i:Nat) (ds:List D) (ρ:Ev):Option D->Option (W×Ev)
 | some (.lst xs)=>(op xs ds).map fun y=>(y.1,setOwn ρ i (.lst y.2))
 | _=>none
def mu6 (i:Nat) (ρ:Ev):Option (W×List D)->Option (W×Ev)
 | some y=>some (y.1,setOwn ρ i (.lst y.2))
 | none=>none
variable {om:List D->List D->Option (W×List D)}
theorem r_mu:fMut om f fa ρ=mu2 om fa (f ρ):=by
 unfold fMut mu2;cases f ρ with
 | none=>rfl
 | some p=>obtain⟨w,ρ⟩:=p;cases w<;>rfl
theorem a8D:mu2 om fa (some (.r i,ρ))=if isLst (ownAt ρ i)=true then mu3 om i (fa ρ) else none:=by unfold mu2 mu3;dsimp only;cases fa ρ<;>rfl
theorem a8O:mu3 om i (some (ws,ρ))=mu4 om i (takeAll ρ ws):=by unfold mu3 mu4;dsimp only;cases takeAll ρ ws<;>rfl
theorem a86:mu4 om i (some (ds,ρ))=mu5 om i ds ρ (ownAt ρ i):=by unfold mu4 mu5;rfl
theorem a9a:mu5 om i ds ρ (some (.lst xs))=mu6 i ρ (om xs ds):=by unfold mu5 mu6;dsimp only;cases om xs ds<;>rfl
theorem a8v:mu6 i ρ (some (w,xs))=some (w,setOwn ρ i (.lst xs)):=rfl
theorem a8Y:mApp xs [d]=if xs.length<lim then some (.v .non,xs++[d]) else none:=rfl
def runO:Option R->Option W
 | some (.rt w _)=>some w
 | some (.nx _)=>some (.v .non)
 | _=>none
theorem a8t {np n:Nat}:runD np n G ds=if ds.length=np then runO (G (start0 n ds)) else none:=by
 unfold runD runO
 split
 ·cases G (start0 n ds) with
  | none=>rfl
  | some r=>cases r<;>rfl
 ·rfl
theorem a2b:runO (some (.rt w ρ))=some w:=rfl
theorem r_run_nx:runO (some (.nx ρ))=some (.v .non):=rfl
def runLO:Option R->Option (W×D)
 | some (.rt w ρ)=>(ownAt ρ 0).map fun c=>(w,c)
 | some (.nx ρ)=>(ownAt ρ 0).map fun c=>(.v .non,c)
 | _=>none
theorem a58 {np n:Nat}:runL np n G d ds=if ds.length+1=np then runLO (G (some (.l d)::start0 (n-1) ds)) else none:=by
 unfold runL runLO
 split
 ·cases G (some (.l d)::start0 (n-1) ds) with
  | none=>rfl
  | some r=>cases r<;>rfl
 ·rfl
theorem a0W:runLO (some (.rt w ρ))=(ownAt ρ 0).map fun c=>(w,c):=rfl
theorem b0h:runLO (some (.nx ρ))=(ownAt ρ 0).map fun c=>(.v .non,c):=rfl
variable {m n:Int}
theorem o_i0 {g:Int->Int->D}:oI0 g (.int m) (.int n)=some (.v (g m n)):=rfl
theorem o_i {C:Int->Int->Prop} [∀i j,Decidable (C i j)] {g:Int->Int->D}:oI C g (.int m) (.int n)=if C m n then some (.v (g m n)) else none:=rfl
theorem a3E:oAdd (.int m) (.int n)=some (.v (.int (m+n))):=rfl
theorem a3p:oAdd (.lst xs) (.lst ys)=if xs.length+ys.length<=lim then some (.o (.lst (xs++ys))) else none:=rfl
theorem a3g:oAdd (.tup xs) (.tup ys)=if xs≠[]/\xs.length+ys.length<=lim then some (.v (.tup (xs++ys))) else none:=by
 by_cases h:xs≠[]/\xs.length+ys.length<=lim
 ·rw[if_pos h];exact if_pos h
 ·rw[if_neg h];exact if_neg h
theorem o_neg:oNeg (.int m)=some (.v (.int (-m))):=rfl
theorem a68:oLtT (.int m) (.int n)=some (.v (.bl (decide (m<n)))):=rfl
theorem a67:oIx (.tup xs) (.int n)=(atI xs n).map .v:=rfl
theorem a6h:oIx (.lst xs) (.int n)=(atI xs n).map .v:=rfl
theorem a3C:gLen (.tup xs)=some (.v (.int xs.length)):=rfl
theorem a3l:gLen (.lst xs)=some (.v (.int xs.length)):=rfl
theorem o_abs:gAbs (.int m)=some (.v (.int (if m<0 then -m else m))):=rfl
theorem o_int:gInt (.bl b)=some (.v (.int (if b then 1 else 0))):=rfl
theorem b0k:gTuple (.tup xs)=some (.v (.tup xs)):=rfl
theorem a0K:gTuple (.lst xs)=some (.v (.tup xs)):=rfl
theorem o_list_t:gList (.tup xs)=some (.o (.lst xs)):=rfl
theorem o_list_l:gList (.lst xs)=some (.o (.lst xs)):=rfl
theorem o_d2 {q:D->D->Option Bool}{neg:Bool}:oD2 q neg x y=(q x y).map fun k=>.v (.bl (if neg then !k else k)):=rfl
theorem a_0:atI (d::ds) 0=some d:=m9 (j:=0) rfl
theorem a_1:atI (d::e::ds) 1=some e:=m9 (j:=1) rfl
theorem a_2:atI (d::e::x::ds) 2=some x:=m9 (j:=2) rfl
end
open PySem PySem.Spec PyProof.Rows L2
section
variable {prog:Program}{w:World}{A:Around}{E:Value->Shared->Prop}{s:Shared}
theorem a2P {c t:Addr}{k:Nat}{its:Array Value}{x:Value}{Q:Value->Shared->Prop}(hc:IsTupIter s.heap c t k)(ht:IsTup s.heap t its)(hx:its[k]? =some x)
  (q:∀h',IsTupIter h' c t (k+1)->Heap.SameBut c s.heap h'->Q x {s with heap:=h'}):wpAny (model prog w) A (Builtin.SmallTypes.nextOf (.ref c)) Q E s:=by
 have T:=hc.typeIs;obtain⟨o,e1,e2,e3⟩:=hc;obtain⟨o2,g1,_,m,g3⟩:=ht;unfold Builtin.SmallTypes.nextOf;refine zA (qK (name:=Str.ofString "__next__") T slot_tupleiter_next (qI slot_tupleiter_next T entry_tupleiter_next ?_ (args_tupleiter_next _)));have step:wpAny (model prog w) A.in1 (setField (.ref c) 1 (rawInt ((k:Nat)+1:Nat))) (fun _ s'=>wpAny (model prog w) A.in1 (ret x) (fun fin s''=>∃v,fin= .done (.ret v)/\wpAny (model prog w) A (pure v) Q E s'') E s') E s:=by
  refine wpAny_setField e1 e3 (by simp) (zB ⟨x,rfl,zB (q _ ⟨_,jL _ e1 (Obj.isFreed_of_fields (Obj.data_mapFields e3 _)),(Obj.cls_mapFields ..).trans e2,?_⟩ (qO ..))⟩)
  rw[Obj.data_mapFields e3];simp[rawInt]
 refine zA (m:=field (.ref c) 0) (qZ e1 e3 (x:=.ref t) rfl ?_);show wpAny _ _ (if(Value.ref t==Value.none)=true then _ else _) _ _ s;have nn:¬((Value.ref t==Value.none)=true):=zP;rw[if_neg nn];refine zA (m:=field (.ref c) 1) (qZ e1 e3 (x:=.int k 0) rfl (zA (m:=seqItems? (.ref t)) (wpAny_seqItems g1 g3 ?_)));simp only[zI,hx];exact zA step
theorem a4k {c t:Addr}{k:Nat}{its:Array Value}{Q:Value->Shared->Prop}(hh:A.handled=none)(hc:IsTupIter s.heap c t k)(ht:IsTup s.heap t its)(hx:its[k]? =none)
  (q:∀h' x,Heap.ExtBut c s.heap h'->(∃o,h'.get? x=some o/\o.cls= .type "StopIteration")->E (.ref x) {s with heap:=h'}):wpAny (model prog w) A (Builtin.SmallTypes.nextOf (.ref c)) Q E s:=by
 have T:=hc.typeIs;obtain⟨o,e1,e2,e3⟩:=hc;obtain⟨o2,g1,_,m,g3⟩:=ht;unfold Builtin.SmallTypes.nextOf;refine zA (qK (name:=Str.ofString "__next__") T slot_tupleiter_next (qI slot_tupleiter_next T entry_tupleiter_next ?_ (args_tupleiter_next _)));refine zA (m:=field (.ref c) 0) (qZ e1 e3 (x:=.ref t) rfl ?_);show wpAny _ _ (if(Value.ref t==Value.none)=true then _ else _) _ _ s;have nn:¬((Value.ref t==Value.none)=true):=zP;rw[if_neg nn];refine zA (m:=field (.ref c) 1) (qZ e1 e3 (x:=.int k 0) rfl (zA (m:=seqItems? (.ref t)) (wpAny_seqItems g1 g3 ?_)));simp only[zI,hx];refine zA (yC (zA (wpAny_setField e1 e3 (by simp) ?_)))
 refine zA (m:=newExc (.type "StopIteration") []) ?_;simp only[newExc,newTuple];refine zA (qF ?_ (by size_fits))
 refine zA (m:=firstArgMember _ _) (wpAny_of_eq (a:=Value.none) (by first|rfl|(simp only[firstArgMember];rfl)) (qF ?_ (by size_fits)))
 simp only[raiseNew];refine zA (wpAny_handled ?_)
 first|rw[show A.in1.handled=none from hh]|rw[hh]
 exact zA (zB (wpAny_throw (q _ _ (((qO ..).extBut.push _).push _) ⟨_,zL _ rfl,rfl⟩)))
end
def SIt (k:Bool) (h:Heap) (c t:Addr) (i:Nat):Prop:=match k with
 | true=>h.IsListIter c t i
 | false=>IsTupIter h c t i
def SSq (k:Bool) (h:Heap) (t:Addr) (its:Array Value):Prop:=match k with
 | true=>h.IsList t its
 | false=>IsTup h t its
def SqK (k:Bool) (K:PySem.W.Frag) (H:Hp) (a:Addr) (xs:List V):Prop:=match k with
 | true=>SqL K H a xs
 | false=>SqT K H a xs
def itN (k:Bool):String:=if k then "list_iterator" else "tuple_iterator"
theorem a1F {b:Bool}{h h':Heap}{c t:Addr}{k:Nat}(i:SIt b h c t k)(kp:∀o,h.get? c=some o->h'.get? c=some o):SIt b h' c t k:=by
 cases b<;>(obtain⟨o,e,r⟩:=i;exact⟨o,kp o e,r⟩)
theorem a1f {b:Bool}{h:Heap}{c t:Addr}{k:Nat}(i:SIt b h c t k):∃o,h.get? c=some o/\∀v,o.data≠.cell v:=by
 cases b<;>(obtain⟨o,e,r,d⟩:=i;exact⟨o,e,fun v z=>by rw[d] at z;cases z⟩)
theorem a7L {b:Bool}{h:Heap}{c l:Addr}(e:h.get? c=some {cls:=.type (itN b),data:=.fields #[.ref l,.int 0 0]}):SIt b h c l 0:=by
 cases b<;>exact⟨_,e,rfl,rfl⟩
theorem sqk {X:Cx}{k:Bool}{pins:List (Addr×PySem.Obj)}{σ:L2.St}{H:Hp}{s:Shared}{a:Addr}{xs:List V}(I:Inv X pins σ H s)(h:SqK k X.K H a xs):∃its,Vals xs its/\SSq k s.heap a its.toArray:=by
 cases k
 ·obtain⟨its,r,p,_⟩:=I.tuple h;exact⟨its,r,p⟩
 ·obtain⟨its,r,p,_⟩:=I.list h;exact⟨its,r,p.isList⟩
theorem a7o {X:Cx}{k:Bool}{pins:List (Addr×PySem.Obj)}{σ:L2.St}{H:Hp}{s:Shared}{a:Addr}{xs ys:List V}(I:Inv X pins σ H s)(h:SqK k X.K H a xs)(h':SqK k X.K H a ys):xs=ys:=by
 cases k
 ·exact I.tuple_inj h h'
 ·exact I.list_inj h h'
section
variable {prog:Program}{w:World}{A:Around}{E:Value->Shared->Prop}{s:Shared}
theorem a2G {b:Bool}{c t:Addr}{k:Nat}{its:Array Value}{x:Value}{Q:Value->Shared->Prop}(hc:SIt b s.heap c t k)(ht:SSq b s.heap t its)(hx:its[k]? =some x)
  (q:∀h',SIt b h' c t (k+1)->Heap.SameBut c s.heap h'->Q x {s with heap:=h'}):wpAny (model prog w) A (Builtin.SmallTypes.nextOf (.ref c)) Q E s:=by
 cases b
 ·exact a2P hc ht hx q
 ·exact wpAny_nextOf_list_item hc ht hx q
theorem a4h {b:Bool}{c t:Addr}{k:Nat}{its:Array Value}{Q:Value->Shared->Prop}(hh:A.handled=none)(hc:SIt b s.heap c t k)(ht:SSq b s.heap t its)(hx:its[k]? =none)
  (q:∀h' x,Heap.ExtBut c s.heap h'->(∃o,h'.get? x=some o/\o.cls= .type "StopIteration")->E (.ref x) {s with heap:=h'}):wpAny (model prog w) A (Builtin.SmallTypes.nextOf (.ref c)) Q E s:=by
 cases b
 ·exact a4k hh hc ht hx q
 ·exact wpAny_nextOf_list_end hh hc ht hx q
theorem iterS {b:Bool}{l:Addr}{its:Array Value}{Q:Value->Shared->Prop}(ht:SSq b s.heap l its)(q:Q (.ref s.heap.objs.size) {s with heap:=s.heap.push {cls:=.type (itN b),data:=.fields #[.ref l,.int 0 0]}}):wpAny (model prog w) A (pyIter (.ref l)) Q E s:=by
 cases b
 ·exact iter_tuple ht q
 ·exact wpAny_pyIter_list ht q
end
section
variable {b:Value}
abbrev zp1 (b:Bool) (h:Heap) (l:Addr):Heap:=h.push {cls:=.type (itN b),data:=.fields #[.ref l,.int 0 0]}
end
theorem a4m {xs:List V}{us:List Value}{i:Nat}(r:Vals xs us)(e:xs[i]? =none):us.toArray[i]? =none:=by
 have:=r.length
 rw[List.getElem?_eq_none_iff] at e;rw[List.getElem?_toArray,List.getElem?_eq_none_iff];walk_at "o"
section
variable {prog:Program}{w:World}{A:Around}{E:Value->Shared->Prop}{s:Shared}{k:Bool}
theorem a2X {en ci l:Addr}{i:Nat}{its:Array Value}{x old:Value}{Q:Value->Shared->Prop}(hE:IsEnum s.heap en ci i old)(hC:SIt k s.heap ci l i)(hL:SSq k s.heap l its)(hx:its[i]? =some x)(ne:en≠ci)
  (q:∀h',IsEnumOut h' en ci ((i:Int)+1) x s.heap.objs.size->SIt k h' ci l (i+1)->h'.get? s.heap.objs.size=some {cls:=.type "tuple",data:=.seq #[.int i s.toks,x]}->h'.objs.size=s.heap.objs.size+1->
   (∀b o,b≠en->b≠ci->s.heap.get? b=some o->h'.get? b=some o)->Q (.ref s.heap.objs.size) {s with heap:=h',toks:=s.toks+1}):
  wpAny (model prog w) A (Builtin.«enumerate.__next__» ⟨[.ref en],[]⟩) (fun fin s'=>∃v,fin= .done (.ret v)/\Q v s') E s:=by
 obtain⟨h0,g,d,tk,os⟩:=s;refine zA (m:=field (.ref en) 2) (qZ hE rfl (x:=.ref ci) rfl (zA (a2G hC hL hx fun h1 c1 s1=>?_)));have s1:Heap.SameBut ci h0 h1:=s1;have e1:IsEnum h1 en ci i old:=(s1.2 en ne).trans hE;refine zA (m:=field (.ref en) 3) (qZ e1 rfl (x:=rawInt i) rfl (zA (m:=field (.ref en) 4) (qZ e1 rfl (x:=.none) rfl (zA (m:=mkInt i) (wpAny_mkInt ?_)))));refine zA (m:=setField (.ref en) 3 (rawInt ((i:Int)+1))) (jN e1 (by simp) fun h2 e2 s2=>?_)
 have s2:Heap.SameBut en h1 h2:=s2;have e2:IsEnum h2 en ci ((i:Int)+1) old:=e2;refine zA (m:=setField (.ref en) 4 .none) (jN e2 (by simp) fun h3 e3 s3=>?_)
 have s3:Heap.SameBut en h2 h3:=s3;have e3:IsEnum h3 en ci ((i:Int)+1) old:=e3;refine zA (m:=newTuple [.int i tk,x]) (wpAny_newTuple ?_);have e4:IsEnum (h3.push {cls:=.type "tuple",data:=.seq #[.int i tk,x]}) en ci ((i:Int)+1) old:=zC _ e3;have z3:h3.objs.size=h0.objs.size:=by rw[s3.1,s2.1,s1.1]
 have lt:en<h0.objs.size:=zS hE;generalize g4:h3.push {cls:=.type "tuple",data:=.seq #[.int i tk,x]}=h4 at e4;have t4:h4.get? h0.objs.size=some {cls:=.type "tuple",data:=.seq #[.int i tk,x]}:=by rw[<-g4,<-z3];exact zL _ rfl
 have z4:h4.objs.size=h0.objs.size+1:=by rw[<-g4,jR,z3]
 have k4:∀b o,b≠en->b≠ci->h0.get? b=some o->h4.get? b=some o:=fun b o n1 n2 e=>by rw[<-g4];exact zC _ (s3.extBut b o n1 (s2.extBut b o n1 (s1.extBut b o n2 e)))
 have c4:SIt k h4 ci l (i+1):=a1F c1 fun o e=>by rw[<-g4];exact zC _ (s3.extBut _ o ne.symm (s2.extBut _ o ne.symm e))
 rw[z3];refine zA (m:=Builtin.SmallTypes.ownedTupleIsFree (.ref en)) ?_;unfold Builtin.SmallTypes.ownedTupleIsFree;refine zA (qZ e4 rfl (x:=.none) rfl (zB ?_));simp only[qW];refine zA (yC (zA (qZ e4 rfl (x:=old) rfl (zA (jN e4 (by simp) fun h5 e5 s5=>?_)))))
 have s5:Heap.SameBut en h4 h5:=s5;have e5:IsEnum h5 en ci ((i:Int)+1) x:=e5;refine zA (m:=Builtin.SmallTypes.ownedTupleHandOut (.ref en) (.ref h0.objs.size)) ?_;unfold Builtin.SmallTypes.ownedTupleHandOut;refine zA (jN e5 (by simp) fun h6 e6 s6=>?_)
 have s6:Heap.SameBut en h5 h6:=s6;have e6:IsEnumOut h6 en ci ((i:Int)+1) x h0.objs.size:=e6;refine jN e6 (by simp) fun h7 e7 s7=>?_
 have s7:Heap.SameBut en h6 h7:=s7;have up:∀b o,b≠en->h4.get? b=some o->h7.get? b=some o:=fun b o n e=>s7.extBut b o n (s6.extBut b o n (s5.extBut b o n e));exact zA (wpAny_letGo (zB ⟨_,rfl,q h7 e7 (a1F c4 fun o e=>up _ o ne.symm e) (up _ _ (xE lt) t4) (by rw[s7.1,s6.1,s5.1,z4]) fun b o n1 n2 e=>up b o n1 (k4 b o n1 n2 e)⟩))
theorem a2Z {en ci l:Addr}{i:Nat}{its:Array Value}{x old:Value}{Q:Option Value->Shared->Prop}(hE:IsEnum s.heap en ci i old)(hC:SIt k s.heap ci l i)(hL:SSq k s.heap l its)(hx:its[i]? =some x)(ne:en≠ci)
  (q:∀h',IsEnumOut h' en ci ((i:Int)+1) x s.heap.objs.size->SIt k h' ci l (i+1)->h'.get? s.heap.objs.size=some {cls:=.type "tuple",data:=.seq #[.int i s.toks,x]}->h'.objs.size=s.heap.objs.size+1->
   (∀b o,b≠en->b≠ci->s.heap.get? b=some o->h'.get? b=some o)->Q (some (.ref s.heap.objs.size)) {s with heap:=h',toks:=s.toks+1}):wpAny (model prog w) A (pyNext (.ref en)) Q E s:=by
 have T:s.TypeIs (.ref en) "enumerate":=⟨_,hE,rfl⟩;unfold pyNext;exact zA (wpAny_attempt (qK (name:=Str.ofString "__next__") T yM (qI yM T F.entry_enumerate_next (a2X hE hC hL hx ne fun h' a b c d kp=>zB (q h' a b c d kp)) (F.args_enumerate_next_1 _))))
theorem a4q {en ci l:Addr}{i:Nat}{its:Array Value}{old:Value}{Q:Option Value->Shared->Prop}(hh:A.handled=none)(hE:IsEnum s.heap en ci i old)(hC:SIt k s.heap ci l i)(hL:SSq k s.heap l its)(hx:its[i]? =none)
  (q:∀h',Heap.ExtBut ci s.heap h'->Q none {s with heap:=h'}):wpAny (model prog w) A (pyNext (.ref en)) Q E s:=by
 have T:s.TypeIs (.ref en) "enumerate":=⟨_,hE,rfl⟩;unfold pyNext;refine zA (wpAny_attempt (qK (name:=Str.ofString "__next__") T yM (qI yM T F.entry_enumerate_next ?_ (F.args_enumerate_next_1 _))));refine zA (m:=field (.ref en) 2) (qZ hE rfl (x:=.ref ci) rfl (zA (a4h hh hC hL hx fun h' x kp ⟨o,eo,co⟩=>?_)));exact zA (wpAny_isInstance (T:="StopIteration") (b:=true) ⟨o,eo,co⟩ isSubtype_stop (zB (q _ kp)))
theorem a4Q (k:Bool)(l:Addr)(its:Array Value):Meets (Builtin.«enumerate.__new__» ⟨[.type "enumerate",.ref l],[]⟩) (fun _ R s=>SSq k s.heap l its/\
   R (.ok (.ret (.ref (zp1 k s.heap l).objs.size))) {s with heap:=(zp1 k s.heap l).push {cls:=.type "enumerate",data:=.fields #[.none,.bool false,.ref s.heap.objs.size,rawInt 0,.none,.none]}}):=
 .of_wp fun prog w A R s h=>by
  obtain⟨h0,g,d,tk,os⟩:=s;obtain⟨hl,h⟩:=h;have hsub:=sub_enumerate;have q1:SSq k (Shared.heap ⟨h0,g,d,tk,os⟩) l its:=hl
  wp_walk using iterS q1
  refine wpAny_stack_any fun st=>zB ?_
  split
  ·rename_i c _ _ _ _ _;cases(c==Value.type "enumerate")<;>(wp_walk using iterS q1;exact⟨_,rfl,h⟩)
  ·wp_walk using iterS q1
   exact⟨_,rfl,h⟩
theorem a2x {l:Addr}{its:Array Value}{Q:Value->Shared->Prop}(hL:SSq k s.heap l its)
  (q:∀h',IsEnum h' (s.heap.objs.size+1) s.heap.objs.size 0 .none->SIt k h' s.heap.objs.size l 0->(∀b o,s.heap.get? b=some o->h'.get? b=some o)->Q (.ref (s.heap.objs.size+1)) {s with heap:=h'}):
  wpAny (model prog w) A (call (.type "enumerate") [.ref l]) Q E s:=by
 refine callType_new F.called_enumerate (by decide) (F.typeCall_enumerate_1 _) (F.newCall_enumerate_1 _) (fun obj=>F.args_object_init_2 obj _) F.entry_enumerate_new (a4Q k l its) ⟨hL,?_⟩
 have n1:(zp1 k s.heap l).objs.size=s.heap.objs.size+1:=jR ..;have r2:=zL (zp1 k s.heap l) (o:={cls:=.type "enumerate",data:=.fields #[.none,.bool false,.ref s.heap.objs.size,rawInt 0,.none,.none]}) rfl;show _/\_;rw[n1] at r2 ⊢;exact⟨⟨_,r2,rfl⟩,q _ r2 (a7L (zC _ (zL _ rfl))) fun b o x=>zC _ (zC _ x)⟩
end
def Ite (k:Bool) (K:PySem.W.Frag) (l:Addr):It:=
 ⟨fun i H=>∃xs x,SqK k K H l xs/\xs[i]? =some x,
  fun i H v H'=>∃T x,v= .ref T/\H T=none/\H'=upd H T (.tup [.int (i:Int),x])/\∀xs,SqK k K H l xs->xs[i]? =some x,
  fun i H=>∃xs,SqK k K H l xs/\xs[i]? =none⟩
def enumT (k:Bool) (en ci l:Addr) (i:Nat) (h:Heap):Prop:=(∃old,IsEnum h en ci (i:Int) old)/\SIt k h ci l i
theorem a4p {P:Program}{w:World}{K:PySem.W.Frag}{es:List Expr}{kt:Nat}{pt:Pos}{k:Bool}{en ci l:Addr}(ne:en≠ci):
  Turn P w K (.Tuple es kt pt) (Ite k K l) [en,ci] en (enumT k en ci l) where
 mem:=by simp
 obj:=fun i h st b hb=>by
  obtain⟨⟨old,hE⟩,hC⟩:=st;simp only[zO,jS,yG] at hb;rcases hb with rfl|rfl
  ·exact⟨_,hE,fun v z=>nomatch z⟩
  ·exact a1f hC
 keep:=fun i h h' st kp=>by
  obtain⟨⟨old,hE⟩,hC⟩:=st;exact⟨⟨old,kp en (by simp) _ hE⟩,a1F hC fun o e=>kp ci (by simp) o e⟩
 item:=by
  intro X hP hw hK hc i pins s σ H E I hf st hg;subst hP hw hK;obtain⟨xs,x,q1,ex⟩:=hg;obtain⟨its,r1,p1⟩:=sqk I q1;obtain⟨u,hu,ru⟩:=r1.get ex;obtain⟨⟨old,hE⟩,hC⟩:=st;obtain⟨oc,hoc,_⟩:=a1f hC;have l1:∀{c o},s.heap.get? c=some o->c≠s.heap.objs.size:=fun e=>zG (zS e);refine a2Z hE hC p1 (x:=u) (by simpa using hu) ne fun h' a1 a2 a3 a4 hk=>⟨_,rfl,?_⟩
  refine wpAny_letOwnedTupleGo_enum a1 fun h2' b1 b2=>?_;have nT:s.heap.objs.size≠en:=(l1 hE).symm;have kp:∀c o,c∉[en,ci]->s.heap.get? c=some o->h2'.get? c=some o:=fun c o hc e=>by
   simp only[zO,jS,yG,not_or] at hc;exact(b2.2 c hc.1).trans (hk c o hc.1 hc.2 e)
  have fr:H s.heap.objs.size=none:=I.hok.fresh (zE _);have tr:∀c w,H c=some w->c∉[en,ci]:=fun c w e hc=>by rw[(hf c hc).1] at e;cases e
  have st':enumT k en ci l (i+1) h2':=⟨⟨_,b1⟩,a1F a2 fun o e=>(b2.2 _ ne.symm).trans e⟩;have two:∀c∈[en,ci],∃o,h2'.get? c=some o:=fun c hc=>by
   simp only[zO,jS,yG] at hc;rcases hc with rfl|rfl
   ·exact⟨_,b1⟩
   ·obtain⟨o,e,_⟩:=a1f st'.2;exact⟨o,e⟩
  have hb3:h2'.get? s.heap.objs.size=some {cls:=.type "tuple",data:=.seq #[.int i s.toks,u]}:=(b2.2 _ nT).trans a3
  have un:Un (frs X.stack) [en,ci] H (upd H s.heap.objs.size (.tup [.int (i:Int),x])) s.heap h2':=⟨fun c o e n hfs hx=>kp c o hx e,fun c o e n hfs hx=>⟨o.slots,kp c o hx e⟩,fun c o e n hx=>by rw[c6 (l1 e)];exact n,fun c o e hx=>⟨o,kp c o hx e⟩,
   fun c ws e=>by rw[c6 (j8 e fr)];exact e,fun c o w e=>by rw[c6 (j8 e fr)];exact e,fun c ps e=>⟨#[],by rw[c6 (j8 e fr),e];simp⟩⟩
  have hok:HOk X.prog X.w (upd H s.heap.objs.size (.tup [.int (i:Int),x])) h2':=fun c w e=>by
   by_cases hc:c=s.heap.objs.size
   ·subst hc;rw[j5] at e;cases e;exact⟨by show 2<=sizeLine;rw[qY];decide,[.int i s.toks,u],.cons ⟨_,rfl⟩ (.cons ru .nil),⟨_,hb3,rfl,⟨_,rfl⟩,rfl⟩⟩
   ·rw[c6 hc] at e
    refine(I.hok c w e).stay (fun c' o hc' e'=>kp c' o (by
     rcases hc' with rfl|hc'
     ·exact tr _ _ e
     ·exact tr _ _ hc') e') (fun c' q=>by rw[c6 (j8 q fr)];exact q) fun c' ws q=>by rw[c6 (j8 q fr)];exact q
  have I1:Inv X pins σ (upd H s.heap.objs.size (.tup [.int (i:Int),x])) {s with heap:=h2',toks:=s.toks+1}:=I.call' (s':={s with heap:=h2',toks:=s.toks+1}) (ch:=[en,ci]) rfl un hok I.bare fun c hc=>⟨(hf c hc).2.2.2.1,(hf c hc).2.1,(hf c hc).2.2.2.2.1,(hf c hc).2.2.2.2.2⟩
  exact⟨.ref s.heap.objs.size,_,I1,rfl,⟨_,x,rfl,fr,rfl,fun ws hw=>by rw[a7o I hw q1];exact ex⟩,st',fun c hc=>by
   have:c≠s.heap.objs.size:=fun z=>by
    subst z;simp only[zO,jS,yG] at hc;rcases hc with z|z
    ·exact l1 hE z.symm
    ·exact l1 hoc z.symm
   rw[c6 this];exact(hf c hc).1⟩
 done:=by
  intro X hP hw hK hc i pins s σ H E I hf st hg;subst hP hw hK;obtain⟨xs,q1,hend⟩:=hg;obtain⟨its,r1,p1⟩:=sqk I q1;obtain⟨⟨old,hE⟩,hC⟩:=st;refine a4q (I.ok.hd hc) hE hC p1 (a4m r1 hend) fun h' hk=>⟨rfl,?_⟩;have kp:∀c o,c∉[ci]->s.heap.get? c=some o->h'.get? c=some o:=fun c o hc e=>hk c o (by simpa using hc) e
  have sub:∀c∈[ci],c∈[en,ci]:=fun c hc=>by simp at hc ⊢;simp[hc]
  have un:Un (frs X.stack) [ci] H H s.heap h':=⟨fun c o e n hfs hx=>kp c o hx e,fun c o e n hfs hx=>⟨o.slots,kp c o hx e⟩,fun c o e n hx=>n,fun c o e hx=>⟨o,kp c o hx e⟩,fun c ws e=>e,fun c o w e=>e,fun c ps e=>⟨#[],by rw[e];simp⟩⟩
  have tr:∀c w,H c=some w->c∉[ci]:=fun c w e hc=>by rw[(hf c (sub c hc)).1] at e;cases e
  have hok:HOk X.prog X.w H h':=fun c w e=>(I.hok c w e).stay (fun c' o hc' e'=>kp c' o (by
   rcases hc' with rfl|hc'
   ·exact tr _ _ e
   ·exact tr _ _ hc') e') (fun _ q=>q) fun _ _ q=>q
  exact I.call' (s':={s with heap:=h'}) (ch:=[ci]) rfl un hok I.bare fun c hc=>⟨(hf c (sub c hc)).2.2.2.1,(hf c (sub c hc)).2.1,(hf c (sub c hc)).2.2.2.2.1,(hf c (sub c hc)).2.2.2.2.2⟩
 self:=fun _ _ _ _ _ st h=>wpAny_pyIter_enum st.1.choose_spec h
def kd:D->Bool
 | .lst _=>true
 | _=>false
theorem a61 {K:PySem.W.Frag}{A:Av}{H:Hp}{d:D}{v:V}{xs:List D}(e:items d=some xs)(h:Den K A H d v):∃a vs,v= .ref a/\SqK (kd d) K H a vs/\DenL K A H xs vs:=by
 cases d with
 | tup zs=>cases e;rw[Den] at h;exact h
 | lst zs=>cases e;obtain⟨a,vs,e,hq,l⟩:=B6 h;exact⟨a,vs,e,hq,l⟩
 | _=>cases e
section
variable {X:Cx}{a:Expr}{p pos:Pos}{fa:FA}{es:List Expr}{kt:Nat}{pt:Pos}
def iEnum (K:PySem.W.Frag) (ta:TA):TI:=fun σ H R=>ta σ H fun vs H1=>∃c1 l1,vs=[.ref l1]/\(∃xs,SqK c1 K H1 l1 xs)/\R (Ite c1 K l1) H1
theorem a7t {ta:TA}(hg:Gl X "enumerate")(hm:X.mg "enumerate"=none)(ha:PA X [a] ta)(hs:starEach [a] X.env=[(false,eval a X.env)]:=by rfl)(hbt:bootBuiltins "enumerate"=some (.type "enumerate"):=by rfl):
  PI X (.Tuple es kt pt) (.Call (.Name "enumerate" p) [a] [] pos) (iEnum X.K ta):=by
 intro pins s σ H R I h;refine Call_ (K1 I hg hm hbt (jF (thn (ha pos pins s σ H _ I h) fun us s1 ⟨vs,H1,I1,r1,q1⟩=>?_) hs rfl) (by decide) (by decide))
 obtain⟨c1,l1,rfl,⟨xs,h1⟩,q⟩:=q1;obtain⟨u1,rfl,ru1⟩:=vals1 r1;cases ru1;obtain⟨its1,_,p1⟩:=sqk I1 h1;refine a2x p1 fun h' d1 d2 d7=>?_;refine wpAny_pyIter_enum d1 ?_;refine⟨_,[s1.heap.objs.size+1,s1.heap.objs.size],_,_,H1,rfl,I1.kept (t':=s1.toks) fun c o e0=>d7 c o e0,a4p (Nat.succ_ne_self _),⟨⟨_,d1⟩,d2⟩,fun c hc=>?_,q⟩;have le:s1.heap.objs.size<=c:=by simp only[zO,jS,yG] at hc;rcases hc with h|h<;>(rw[h];first|exact Nat.le_add_right _ _|exact zE _)
 exact I1.fpOk le (I1.hok.fresh le)
def zipD (xs ys:List D):List D:=List.zipWith (fun x y=>.tup [x,y]) xs ys
def enumD (xs:List D):List D:=xs.mapIdx fun(i:Nat) x=>.tup [.int i,x]
def fiZip (fa:FA):FI:=fun ρ=>(fa ρ).bind fun p=>(takeAll p.2 p.1).bind fun q=>match q.1 with
 | [x,y]=>(items x).bind fun xs=>(items y).map fun ys=>(zipD xs ys,q.2)
 | _=>none
def fiEnum (fa:FA):FI:=fun ρ=>(fa ρ).bind fun p=>(takeAll p.2 p.1).bind fun q=>match q.1 with
 | [x]=>(items x).map fun xs=>(enumD xs,q.2)
 | _=>none
theorem a70 (hm:X.mg "enumerate"=none)(ha:QA X [a] fa)(hg:Gl X "enumerate":=by rfl)(hs:starEach [a] X.env=[(false,eval a X.env)]:=by rfl)(hbt:bootBuiltins "enumerate"=some (.type "enumerate"):=by rfl):
  QI X (.Tuple es kt pt) (.Call (.Name "enumerate" p) [a] [] pos) (fiEnum fa):=⟨PI.weak (a7t hg hm ha.to hs hbt) fun σ H R h0=>tIe h0 fun P O L ρ xs ρ' r e q=>by
 unfold fiEnum at e;obtain⟨⟨ws,ρ1⟩,e1,e⟩:=obs e;dsimp only at e;obtain⟨⟨ds,ρ2⟩,e2,e⟩:=obs e;dsimp only at e;split at e
 ·rename_i x;cases e3:items x with
  | none=>rw[e3] at e;cases e
  | some xs'=>
   rw[e3] at e;cases e;refine⟨P,O,L,ρ,ws,ρ1,r,e1,fun vs H1 r1 l1=>?_⟩;obtain⟨r2,l2,_⟩:=m5 r1 e2 l1;obtain⟨v,rfl,hv⟩:=denL1 l2;obtain⟨a1,vs1,rfl,s1,m1⟩:=a61 e3 hv;have r3:=r2.more (p:=(x,.ref a1)) hv;refine⟨kd x,a1,rfl,⟨vs1,s1⟩,q _ H1 _ r3 (fun p hp=>zN _ hp) fun Y O' L' ρ' σ' Hh hY rr=>?_⟩;have z1:=rr.head;rw[hY] at z1;obtain⟨b1,ws1,ev1,q1,n1⟩:=a61 e3 z1;cases ev1;refine⟨fun i z ez=>?_,ws1,q1,?_⟩
   ·unfold enumD at ez;rw[List.getElem?_mapIdx] at ez;obtain⟨x0,g1,ez⟩:=oms ez;cases ez;obtain⟨v1,k1,t1⟩:=t5 n1 g1;refine⟨⟨ws1,v1,q1,k1⟩,fun w H' ⟨T,x1,ew,hT,eH,f1⟩=>?_⟩;subst ew eH;have g3:=f1 ws1 q1;rw[k1] at g3;cases g3;have sm:=g7 hT (.tup [.int (i:Int),v1]);refine⟨sm,?_⟩;rw[Den];exact⟨T,[.int (i:Int),v1],rfl,.inl (.inl j5),e8 (q8.mpr rfl) (e8 (a1S sm t1) g8)⟩
   ·have k1:=b4 n1;unfold enumD;rw[List.length_mapIdx,List.getElem?_eq_none_iff];walk_at "o"
 ·cases e⟩
end
section
variable {X:Cx}{a b e e' o:Expr}{es:List Expr}{pos p p2 p3:Pos}{f h:FX}{t u:FT}{fa:FA}
theorem a1q:CallR X (.builtin "divmod") (fun xs H Q=>∃i j:Int,xs=[.int i,.int j]/\dOk j/\∀l,H l=none->Q (.ref l) (upd H l (.tup [.int (i/j),.int (i%j)]))):=by
 intro pins s σ H xs us Q I r h;obtain⟨i,j,rfl,hj,q⟩:=h;obtain⟨u,u',rfl,r1,r2⟩:=vals2 r;obtain⟨t,rfl⟩:=r1;obtain⟨t',rfl⟩:=r2;have e1:i.fdiv j=i/j:=Int.fdiv_eq_ediv_of_nonneg i (Int.le_of_lt hj.1);have e2:i.fmod j=i%j:=Int.fmod_eq_emod_of_nonneg i (Int.le_of_lt hj.1);refine divmod_int (Int.ne_of_gt hj.1) ?_ (.inl (PyProof.noPylong_of_log2 ?_))
 ·rw[e1,e2];have I2:Inv X pins σ (upd H s.heap.objs.size (.tup [.int (i/j),.int (i%j)])) {s with heap:=s.heap.push {cls:=.type "tuple",data:=.seq #[.int (i/j) s.toks,.int (i%j) (s.toks+1)]},toks:=s.toks+1+1}:=
   I.laid (fun b o e=>zC _ e) (zE _) (show ObjOk X.prog X.w _ _ _ (.tup [.int (i/j),.int (i%j)]) from⟨by rw[qY];show 2<=16777216;decide,[.int (i/j) s.toks,.int (i%j) (s.toks+1)],.cons ⟨_,rfl⟩ (.cons ⟨_,rfl⟩ .nil),TupN.new _ _⟩)
  exact⟨.ref s.heap.objs.size,_,I2,rfl,q _ (I.hok.fresh (zE _))⟩
 ·by_cases z:j.natAbs=0
  ·rw[z];decide
  ·exact zF ((Nat.log2_lt z).mpr (show j.natAbs<2^8000 from hj.2)) (by decide)
def gDivmod:List D->Option W
 | [.int i,.int j]=>if dOk j then some (.v (.tup [.int (i/j),.int (i%j)])) else none
 | _=>none
theorem a4o:PrA X gDivmod (fun xs H Q=>∃i j:Int,xs=[.int i,.int j]/\dOk j/\∀l,H l=none->Q (.ref l) (upd H l (.tup [.int (i/j),.int (i%j)]))):=fun A ds w vs H Q _ e l q=>by
 unfold gDivmod at e;split at e
 ·rename_i i j;split at e
  ·rename_i hj;cases e;obtain⟨v,v',rfl,h1,h2⟩:=denRL2 l;exact⟨i,j,by rw[g5 h1,g5 h2],hj,fun l hl=>q _ _ (g7 hl _) (C9 hl (w6 [i/j,i%j]))⟩
  ·cases e
 ·cases e
theorem a4w (hm:X.mg "divmod"=none)(ha:QA X (e::es) fa)(hv:bootBuiltins "divmod"=some (.builtin "divmod"):=by rfl)(hg:Gl X "divmod":=by rfl)
  (he:starEach (e::es) X.env=(false,eval e X.env)::starEach es X.env:=by rfl) (hpl:(backTo pos (starEach es X.env)).any (·.1)=false:=by rfl):QX X (.Call (.Name "divmod" p) (e::es) [] pos) (fCall gDivmod fa):=Y3 a1q a4o hv hm ha hg (by decide) (by decide) he hpl
theorem a23 {acc:Array Value}{n:Nat}(h:ItemsOf (fun i v=>∃t,v= .int (0+(i:Int)*1) t) acc n):Vals (((List.range n).map fun(i:Nat)=>(i:Int)).map V.int) acc.toList:=by
 have key:∀(l:List Value) (k:Nat),(∀i v,l[i]? =some v->∃t,v=Value.int ((k+i:Nat):Int) t)->Vals (((List.range' k l.length).map fun i=>((i:Nat):Int)).map V.int) l:=by
  intro l
  induction l with
  | nil=>intro k _;exact .nil
  | cons v l ih=>
   intro k hv;rw[qL,List.range'_succ,zJ,zJ];refine .cons ?_ (ih (k+1) fun i u e=>?_)
   ·obtain⟨t,e⟩:=hv 0 v rfl;exact⟨t,e⟩
   ·obtain⟨t,e'⟩:=hv (i+1) u (by simpa using e)
    exact⟨t,by rw[e'];congr 2;walk_at "o"⟩
 have z:=key acc.toList 0 fun i v e=>by
  obtain⟨t,ev⟩:=h.2 i v (by rw[<-jI];exact e)
  exact⟨t,by rw[ev];congr 1;walk_at "o"⟩
 rw[List.range_eq_range'];rw[qD,h.1] at z;exact z
def fListR (fa:FA):FX:=fun ρ=>(fa ρ).bind fun p=>match p.1 with
 | [.v (.int n)]=>if 0<=n/\n<=1000 then some (.o (.lst (rngD 0 n.toNat)),p.2) else none
 | _=>none
theorem a4H (n:Nat):rngD 0 n=((List.range n).map fun(i:Nat)=>(i:Int)).map D.int:=by
 unfold rngD;rw[jB];apply yN;intro i _;simp
theorem a6v (hc:X.calm=true)(hmL:X.mg "list"=none)(hmR:X.mg "range"=none)(ha:QA X [a] fa)(hbL:bootBuiltins "list"=some (.type "list"):=by rfl)(hgL:Gl X "list":=by rfl)(hgR:Gl X "range":=by rfl)
  (h1:starEach [.Call (.Name "range" p2) [a] [] p3] X.env=[(false,eval (.Call (.Name "range" p2) [a] [] p3) X.env)]:=by rfl) (h2:starEach [a] X.env=[(false,eval a X.env)]:=by rfl):
  QX X (.Call (.Name "list" p) [.Call (.Name "range" p2) [a] [] p3] [] pos) (fListR fa):=⟨fun pins s σ H Q I h0=>tXe h0 fun P O L ρ w ρ' rp e q=>by
 unfold fListR at e;obtain⟨⟨ws,ρ1⟩,e1,e⟩:=obs e;dsimp only at e;split at e
 ·rename_i n;split at e
  ·rename_i hn;cases e;refine xZ (K1 I hgL hmL hbL ?_ (by decide) (by decide))
   refine jF ?_ h1 rfl;rw[h1];refine Calls.spliced_cons ?_;refine xZ (K1 I hgR hmR boot_range ?_ (by decide) (by decide))
   refine jF (qB (ha.to p3 pins s σ H (fun vs H1=>Rep X P O L ρ' σ H1/\vs=[.int n]) I ⟨P,O,L,ρ,_,_,rp,e1,fun vs H1 r1 l1=>⟨r1,?_⟩⟩) (fun us s1 ⟨vs,H1,I1,r1,rp1,l1⟩=>?_) fun _ _ z=>z) h2 rfl
   ·obtain⟨v,rs,rfl,h1,l1⟩:=l1;have l1:rs=[]:=l1;have h1:Den X.K (AvO O ρ' σ) H1 (.int n) v:=h1;subst l1;rw[q8.mp h1]
   subst l1;obtain⟨u,rfl,t,rfl⟩:=vals1 r1;refine call_range_1 (Calls.spliced_nil ?_);have I2:Inv X pins σ H1 {s1 with heap:=s1.heap.push {cls:=.type "range",data:=.fields #[.int 0 s1.toks,.int n t,.int 1 (s1.toks+1)]},toks:=s1.toks+1+1}:=I1.kept fun b o e=>zC _ e
   refine call_list_range (n:=n.toNat) (I.ok.hd hc) (IsRange.new ..) (small_one (by walk_at "o") (by walk_at "o") (by walk_at "o") (by walk_at "o")) (by rw[rangeSize_one];split<;>walk_at "o") (by walk_at "o") fun h' tk acc ep kp hl it=>?_
   have hv:=a23 it;refine⟨.ref _,_,I2.laid (t':=tk) (o:=.lst (((List.range n.toNat).map fun(i:Nat)=>(i:Int)).map V.int)) kp (zE _) ?_,rfl,q _ H1 _ rp1 (g7 (I2.hok.fresh (zE _)) _) (by rw[a4H];exact v6 (I2.hok.fresh (zE _)) (w6 _))⟩
   refine⟨?_,acc.toList,ep,hv,by rw[Array.toArray_toList];exact hl⟩
   rw[zD,zD,length_range,qY];walk_at "o"
  ·cases e
 ·cases e⟩
def fCnt (f:FX) (fa:FA):FX:=fun ρ=>(f ρ).bind fun p=>(dr p.2 p.1.fz).bind fun d=>match d with
 | .tup _=>(fa p.2).bind fun q=>(dr q.2 p.1.fz).bind fun y=>match y,q.1 with
  | .tup xs,[.v (.int i)]=>(intsOf xs).map fun ns=>(.v (.int (ns.count i:Nat)),q.2)
  | _,_=>none
 | _=>none
def fDNew:FX:=fun ρ=>some (.o (.dK [] []),ρ)
def fDNewT:FX:=fun ρ=>some (.o (.dT [] []),ρ)
theorem a76:QX X (.Dict [] [] pos) fDNew:=⟨PE.weak a60 fun σ H Q h0=>tXe h0 fun P O L ρ w ρ' r e q=>by
 cases e
 exact fun p hp=>q _ H _ r (g7 hp _) ⟨p,rfl,hp,[],j5,rfl,g8⟩⟩
end
section
variable {f g:FX}{t:FT}{fa:FA}{ρ ρ1 ρ2:Ev}{w z:W}{ws:List W}{d e x y:D}{xs ys:List D}{i j k:Nat}{m n:Int}{b:Bool}
theorem it_t:items (.tup xs)=some xs:=rfl
theorem it_l:items (.lst xs)=some xs:=rfl
def iz2:Option (List W×Ev)->Option (List D×Ev)
 | some p=>(takeAll p.2 p.1).bind fun q=>match q.1 with
  | [x,y]=>(items x).bind fun xs=>(items y).map fun ys=>(zipD xs ys,q.2)
  | _=>none
 | none=>none
def iz3:Option (List D×Ev)->Option (List D×Ev)
 | some q=>match q.1 with
  | [x,y]=>(items x).bind fun xs=>(items y).map fun ys=>(zipD xs ys,q.2)
  | _=>none
 | none=>none
def iz4 (ρ:Ev):Option (List D)->Option (List D)->Option (List D×Ev)
 | some xs,some ys=>some (zipD xs ys,ρ)
 | _,_=>none
theorem r_iz:fiZip fa ρ=iz2 (fa ρ):=by unfold fiZip iz2;cases fa ρ<;>rfl
theorem r_iz2:iz2 (some (ws,ρ))=iz3 (takeAll ρ ws):=by unfold iz2 iz3;dsimp only;cases takeAll ρ ws<;>rfl
theorem r_iz3:iz3 (some ([x,y],ρ))=iz4 ρ (items x) (items y):=by unfold iz3 iz4;dsimp only;cases items x<;>cases items y<;>rfl
theorem r_iz4:iz4 ρ (some xs) (some ys)=some (zipD xs ys,ρ):=rfl
def ie2:Option (List W×Ev)->Option (List D×Ev)
 | some p=>(takeAll p.2 p.1).bind fun q=>match q.1 with
  | [x]=>(items x).map fun xs=>(enumD xs,q.2)
  | _=>none
 | none=>none
def ie3:Option (List D×Ev)->Option (List D×Ev)
 | some q=>match q.1 with
  | [x]=>(items x).map fun xs=>(enumD xs,q.2)
  | _=>none
 | none=>none
theorem r_ie:fiEnum fa ρ=ie2 (fa ρ):=by unfold fiEnum ie2;cases fa ρ<;>rfl
theorem a8w:ie2 (some (ws,ρ))=ie3 (takeAll ρ ws):=by unfold ie2 ie3;dsimp only;cases takeAll ρ ws<;>rfl
theorem r_ie3_t:ie3 (some ([.tup xs],ρ))=some (enumD xs,ρ):=rfl
theorem a3D:ie3 (some ([.lst xs],ρ))=some (enumD xs,ρ):=rfl
def jr1:Option (List W×Ev)->Option (List D×Ev)
 | some p=>match p.1 with
  | [.v (.int n)]=>if -(2^62)<=n/\n<2^62 then some (rngD 0 n.toNat,p.2) else none
  | _=>none
 | none=>none
def jr2:Option (List W×Ev)->Option (List D×Ev)
 | some p=>match p.1 with
  | [.v (.int m),.v (.int n)]=>if(-(2^62)<=m/\m<2^62)/\-(2^62)<=n/\n<2^62 then some (rngD m (n-m).toNat,p.2) else none
  | _=>none
 | none=>none
def lr2:Option (List W×Ev)->Option (W×Ev)
 | some p=>match p.1 with
  | [.v (.int n)]=>if 0<=n/\n<=1000 then some (.o (.lst (rngD 0 n.toNat)),p.2) else none
  | _=>none
 | none=>none
theorem r_r1:fiR1 fa ρ=jr1 (fa ρ):=by unfold fiR1 jr1;cases fa ρ<;>rfl
theorem a8f:jr1 (some ([.v (.int n)],ρ))=if -(2^62)<=n/\n<2^62 then some (rngD 0 n.toNat,ρ) else none:=rfl
theorem r_r2:fiR2 fa ρ=jr2 (fa ρ):=by unfold fiR2 jr2;cases fa ρ<;>rfl
theorem a8U:jr2 (some ([.v (.int m),.v (.int n)],ρ))=if(-(2^62)<=m/\m<2^62)/\-(2^62)<=n/\n<2^62 then some (rngD m (n-m).toNat,ρ) else none:=rfl
theorem r_lr:fListR fa ρ=lr2 (fa ρ):=by unfold fListR lr2;cases fa ρ<;>rfl
theorem a80:lr2 (some ([.v (.int n)],ρ))=if 0<=n/\n<=1000 then some (.o (.lst (rngD 0 n.toNat)),ρ) else none:=rfl
theorem r_dm (h:dOk n):gDivmod [.int m,.int n]=some (.v (.tup [.int (m/n),.int (m%n)])):=by unfold gDivmod;exact if_pos h
def cn2 (fa:FA):Option (W×Ev)->Option (W×Ev)
 | some p=>(dr p.2 p.1.fz).bind fun d=>match d with
  | .tup _=>(fa p.2).bind fun q=>(dr q.2 p.1.fz).bind fun y=>match y,q.1 with
   | .tup xs,[.v (.int i)]=>(intsOf xs).map fun ns=>(.v (.int (ns.count i:Nat)),q.2)
   | _,_=>none
  | _=>none
 | none=>none
def cn3 (fa:FA) (w:W) (ρ:Ev):Option D->Option (W×Ev)
 | some (.tup _)=>(fa ρ).bind fun q=>(dr q.2 w.fz).bind fun y=>match y,q.1 with
   | .tup xs,[.v (.int i)]=>(intsOf xs).map fun ns=>(.v (.int (ns.count i:Nat)),q.2)
   | _,_=>none
 | _=>none
def cn4 (w:W):Option (List W×Ev)->Option (W×Ev)
 | some q=>(dr q.2 w.fz).bind fun y=>match y,q.1 with
   | .tup xs,[.v (.int i)]=>(intsOf xs).map fun ns=>(.v (.int (ns.count i:Nat)),q.2)
   | _,_=>none
 | _=>none
def cn5 (ws:List W) (ρ:Ev):Option D->Option (W×Ev)
 | some y=>match y,ws with
   | .tup xs,[.v (.int i)]=>(intsOf xs).map fun ns=>(.v (.int (ns.count i:Nat)),ρ)
   | _,_=>none
 | _=>none
theorem r_cn:fCnt f fa ρ=cn2 fa (f ρ):=by unfold fCnt cn2;cases f ρ<;>rfl
theorem r_cn2:cn2 fa (some (w,ρ))=cn3 fa w ρ (dr ρ w.fz):=by
 unfold cn2 cn3;dsimp only;cases dr ρ w.fz with
 | none=>rfl
 | some d=>cases d<;>rfl
theorem r_cn3:cn3 fa w ρ (some (.tup xs))=cn4 w (fa ρ):=by unfold cn3 cn4;cases fa ρ<;>rfl
theorem r_cn4:cn4 w (some (ws,ρ))=cn5 ws ρ (dr ρ w.fz):=by unfold cn4 cn5;dsimp only;cases dr ρ w.fz<;>rfl
theorem a6A:fDNew ρ=some (.o (.dK [] []),ρ):=rfl
def ch2 (o o':D->D->Option W) (g h:FX):Option (W×Ev)->Option (W×Ev)
 | some p=>fChain o o' (fun _=>some p) g h p.2
 | none=>none
def ch3 (o o':D->D->Option W) (w:W) (h:FX):Option (W×Ev)->Option (W×Ev)
 | some q=>(dr q.2 w.fz).bind fun x=>(dr q.2 q.1.fz).bind fun y=>(o x y).bind fun d=>match d with
  | .v (.bl k)=>if k=true then(h q.2).bind fun z=>(dr z.2 q.1.fz).bind fun y=>(dr z.2 z.1.fz).bind fun z'=>(o' y z').map fun w=>(w,z.2) else some (.v (.bl false),q.2)
  | _=>none
 | none=>none
def ch4 (o o':D->D->Option W) (h:FX) (w:W) (ρ:Ev):Option D->Option D->Option (W×Ev)
 | some x,some y=>(o x y).bind fun d=>match d with
  | .v (.bl k)=>if k=true then(h ρ).bind fun z=>(dr z.2 w.fz).bind fun y=>(dr z.2 z.1.fz).bind fun z'=>(o' y z').map fun w=>(w,z.2) else some (.v (.bl false),ρ)
  | _=>none
 | _,_=>none
def ch5 (o':D->D->Option W) (h:FX) (w:W) (ρ:Ev):Option W->Option (W×Ev)
 | some (.v (.bl k))=>if k=true then bin3 o' w (h ρ) else some (.v (.bl false),ρ)
 | _=>none
theorem r_ch {o o':D->D->Option W}{h:FX}:fChain o o' f g h ρ=ch2 o o' g h (f ρ):=by unfold ch2;cases e:f ρ with
 | none=>unfold fChain;rw[e];rfl
 | some p=>unfold fChain;rw[e]
theorem r_ch2 {o o':D->D->Option W}{h:FX}:ch2 o o' g h (some (w,ρ))=ch3 o o' w h (g ρ):=by unfold ch2 ch3 fChain;dsimp only[bind_some];cases g ρ<;>rfl
theorem r_ch3 {o o':D->D->Option W}{h:FX}:ch3 o o' w h (some (z,ρ))=ch4 o o' h z ρ (dr ρ w.fz) (dr ρ z.fz):=by
 unfold ch3 ch4;dsimp only;cases dr ρ w.fz<;>cases dr ρ z.fz<;>rfl
theorem r_ch4 {o o':D->D->Option W}{h:FX}:ch4 o o' h w ρ (some x) (some y)=ch5 o' h w ρ (o x y):=by
 unfold ch4 ch5 bin3;dsimp only;cases o x y with
 | none=>rfl
 | some d=>
  dsimp only[bind_some];cases d with
  | v d=>cases d with
   | bl k=>cases h ρ<;>rfl
   | _=>rfl
  | _=>rfl
theorem r_ch5_t {o':D->D->Option W}{h:FX}:ch5 o' h w ρ (some (.v (.bl true)))=bin3 o' w (h ρ):=rfl
theorem r_ch5_f {o':D->D->Option W}{h:FX}:ch5 o' h w ρ (some (.v (.bl false)))=some (.v (.bl false),ρ):=rfl
def tc2 (k:Nat) (t:FT) (fe:FX):Option Ev->Option Ev
 | some ρ1=>(t ρ1).bind fun p=>if p.1=true then(fe p.2).bind (appTo k) else some p.2
 | none=>none
def tc3 (k:Nat) (fe:FX):Option (Bool×Ev)->Option Ev
 | some p=>if p.1=true then(fe p.2).bind (appTo k) else some p.2
 | none=>none
def tc4 (k:Nat):Option (W×Ev)->Option Ev
 | some p=>appTo k p
 | none=>none
def ap2 (k:Nat):Option (List D×Ev)->Option Ev
 | some q=>match q.1,ownAt q.2 k with
  | [d],some (.lst zs)=>if zs.length<lim then some (setOwn q.2 k (.lst (zs++[d]))) else none
  | _,_=>none
 | none=>none
def ap3 (k:Nat) (d:D) (ρ:Ev):Option D->Option Ev
 | some (.lst zs)=>if zs.length<lim then some (setOwn ρ k (.lst (zs++[d]))) else none
 | _=>none
theorem r_tc {gf:FG}{fe:FX}:turnC k gf t fe d ρ=tc2 k t fe (gf d ρ):=by unfold turnC tc2;cases gf d ρ<;>rfl
theorem a8i {fe:FX}:tc2 k t fe (some ρ)=tc3 k fe (t ρ):=by unfold tc2 tc3;dsimp only;cases t ρ<;>rfl
theorem a3L {fe:FX}:tc3 k fe (some (true,ρ))=tc4 k (fe ρ):=by unfold tc3 tc4;simp only[qW];cases fe ρ<;>rfl
theorem r_tc3_f {fe:FX}:tc3 k fe (some (false,ρ))=some ρ:=rfl
theorem a8I:tc4 k (some (w,ρ))=ap2 k (takeAll ρ [w.fz]):=by
 unfold tc4 appTo ap2;dsimp only;cases takeAll ρ [w.fz]<;>rfl
theorem a83:ap2 k (some ([d],ρ))=ap3 k d ρ (ownAt ρ k):=by
 unfold ap2 ap3;dsimp only;cases ownAt ρ k with
 | none=>rfl
 | some x=>cases x<;>rfl
theorem a8r:ap3 k d ρ (some (.lst xs))=if xs.length<lim then some (setOwn ρ k (.lst (xs++[d]))) else none:=rfl
theorem a0E {C:Prop}{b:D->FS}{r:Option R}(e:loopF b xs ρ=r)(I:List D->Ev->Prop)(h0:I [] ρ)(st:∀d x ρ,x∈xs->d.length<xs.length->I d ρ->∃ρ',b x ρ=some (.nx ρ')/\I (d++[x]) ρ')(c:∀ρ',r=some (.nx ρ')->I xs ρ'->C):C:=by
 have key:∀(ys done:List D) (ρ:Ev),(∀y∈ys,y∈xs)->done.length+ys.length=xs.length->I done ρ->∃ρ',loopF b ys ρ=some (.nx ρ')/\I (done++ys) ρ':=by
  intro ys
  induction ys with
  | nil=>intro done ρ _ _ h;exact⟨ρ,rfl,by rw[append_nil];exact h⟩
  | cons y ys ih=>
   intro done ρ hm hl h;rw[qL] at hl;obtain⟨ρ1,e1,i1⟩:=st done y ρ (hm y zR) (by walk_at "o") h
   obtain⟨ρ2,e2,i2⟩:=ih (done++[y]) ρ1 (fun a ha=>hm a (zN _ ha)) (by rw[zZ,jM];walk_at "o") i1
   exact⟨ρ2,by rw[loopF,e1];exact e2,by rw[yL] at i2;exact i2⟩
 obtain⟨ρ',e',i⟩:=key xs [] ρ (fun _ h=>h) (by simp) h0
 exact c ρ' (e.symm.trans e') (by simpa using i)
theorem a47 {C:Prop}{fi:FI}{js:List (Option Nat)}{gf:FG}{fe:FX}{r:Option (W×Ev)}(e:fComp fi (some (i,j)) js gf t fe ρ=r)(I:List D->Ev->List D->Prop)(ei:fi ρ=some (xs,ρ1))(hl:xs.length<=lim)(hj:(ownAt ρ1 j).isSome=true)
  (hI:∀d B zs,I d B zs->B.length=js.length) (h0:I [] (capE (some j) js ρ1) []) (st:∀d x B zs,x∈xs->I d B zs->zs.length<lim->∃B' zs',turnC js.length gf t fe x (B++acc zs)=some (B'++acc zs')/\I (d++[x]) B' zs'/\zs'.length<=zs.length+1)
  (fin:∀B zs,I xs B zs->lfL zs=true/\∃c,ownAt (B++acc zs) i=some c/\lfC c=true) (c:∀B zs c,I xs B zs->ownAt (B++acc zs) i=some c->r=some (.o (.lst zs),setOwn ρ1 j c)->C):C:=by
 have key:∀(ys done:List D) (B:Ev) (zs:List D),(∀y∈ys,y∈xs)->I done B zs->zs.length+ys.length<=lim->∃B' zs',loopC (turnC js.length gf t fe) ys (B++acc zs)=some (B'++acc zs')/\I (done++ys) B' zs':=by
  intro ys
  induction ys with
  | nil=>intro done B zs _ h _;exact⟨B,zs,rfl,by rw[append_nil];exact h⟩
  | cons y ys ih=>
   intro done B zs hm h hl;rw[qL] at hl;obtain⟨B1,z1,e1,i1,l1⟩:=st done y B zs (hm y zR) h (by walk_at "o")
   obtain⟨B2,z2,e2,i2⟩:=ih (done++[y]) B1 z1 (fun a ha=>hm a (zN _ ha)) i1 (by walk_at "o")
   exact⟨B2,z2,by rw[loopC,e1];exact e2,by rw[yL] at i2;exact i2⟩
 obtain⟨B,zs,e1,i1⟩:=key xs [] _ [] (fun _ h=>h) h0 (by rw[yB];walk_at "o")
 rw[nil_append] at i1;obtain⟨l1,c0,o1,lc⟩:=fin B zs i1;refine c B zs c0 i1 o1 ?_;rw[<-e];unfold fComp;rw[ei];simp only[bind_some,liB,hj,qW,jJ];rw[show capE (some j) js ρ1++[some (.l (.lst []))]=capE (some j) js ρ1++acc [] from rfl,e1];simp only[bind_some,a2T (hI _ _ _ i1),backG,show lfC (.lst zs)=true from l1,qW,o1,lc]
theorem g9 (ns:List Int):lfL (ns.map D.int)=true:=by
 induction ns with
 | nil=>rfl
 | cons n ns ih=>rw[zJ,lfL,ih];rfl
theorem E4 (m:Int)(n:Nat):(rngD m n).length=n:=by unfold rngD;simp
theorem K9 {m:Int}{n:Nat}(h:x∈rngD m n):∃i:Int,x= .int i/\m<=i/\i<m+n:=by
 unfold rngD at h;obtain⟨i,hi,rfl⟩:=zY.mp h;rw[xB] at hi;exact⟨_,rfl,by walk_at "o",by walk_at "o"⟩
theorem j7 (h:0<n)(h2:n.natAbs<2^64):dOk n:=⟨h,zF h2 (Nat.pow_le_pow_right (by decide) (by decide))⟩
end
theorem a2p {o:Option D}:freeO (o.map W.v)=true:=by cases o<;>rfl
def whole:D->Bool
 | .int _=>true
 | _=>false
def rise:List Int->Bool
 | a::b::r=>decide (a<b)&&rise (b::r)
 | _=>true
theorem a2I {r:List Bool->Bool}{xs:List D}{bs:List Bool}(h:boolsOf xs=some bs):gBools r (.lst xs)=some (.v (.bl (r bs))):=by unfold gBools;simp only[h,jJ]
theorem J3 (f:D->Bool)(xs:List D):boolsOf (xs.map fun d=>D.bl (f d))=some (xs.map f):=by
 have:(xs.map fun d=>D.bl (f d))=(xs.map f).map D.bl:=by rw[jB];rfl
 rw[this,J5]
theorem a0d {ns:List Int}{x:D}(h:x∈ns.map D.int):∃i∈ns,x= .int i:=by
 obtain⟨i,hi,rfl⟩:=zY.mp h;exact⟨i,hi,rfl⟩
theorem a6E {xs:List D}{i:Int}{d:D}(h:0<=i)(e:xs[i.toNat]? =some d):atI xs i=some d:=by
 have:=m9 (j:=i.toNat) e
 rwa [show((i.toNat:Nat):Int)=i by walk_at "o"] at this
theorem t9 {ns:List Int}{i:Int}(h:0<=i)(l:i<ns.length):atI (ns.map D.int) i=some (.int (ns.getD i.toNat 0)):=by
 refine a6E h ?_;rw[zW,zH,zM (by walk_at "o")]
 rfl
theorem m7:∀{xs:List D},(∀x∈xs,lf x=true)->lfL xs=true
 | [],_=>rfl
 | x::xs,h=>by rw[lfL,h x zR,m7 fun y hy=>h y (zN _ hy)];rfl
section
variable {d:D}{ds:List D}{x0:D}{x1:D}{x2:D}{x3:D}{x4:D}{x5:D}{x6:D}{x7:D}{x8:D}{x9:D}{x10:D}{x11:D}{x12:D}
theorem a_3:atI (x0::x1::x2::d::ds) 3=some d:=m9 (j:=3) rfl
theorem a_4:atI (x0::x1::x2::x3::d::ds) 4=some d:=m9 (j:=4) rfl
theorem a_5:atI (x0::x1::x2::x3::x4::d::ds) 5=some d:=m9 (j:=5) rfl
theorem a_6:atI (x0::x1::x2::x3::x4::x5::d::ds) 6=some d:=m9 (j:=6) rfl
theorem a_7:atI (x0::x1::x2::x3::x4::x5::x6::d::ds) 7=some d:=m9 (j:=7) rfl
theorem a_8:atI (x0::x1::x2::x3::x4::x5::x6::x7::d::ds) 8=some d:=m9 (j:=8) rfl
theorem a_9:atI (x0::x1::x2::x3::x4::x5::x6::x7::x8::d::ds) 9=some d:=m9 (j:=9) rfl
theorem a_10:atI (x0::x1::x2::x3::x4::x5::x6::x7::x8::x9::d::ds) 10=some d:=m9 (j:=10) rfl
theorem a_11:atI (x0::x1::x2::x3::x4::x5::x6::x7::x8::x9::x10::d::ds) 11=some d:=m9 (j:=11) rfl
theorem a_12:atI (x0::x1::x2::x3::x4::x5::x6::x7::x8::x9::x10::x11::d::ds) 12=some d:=m9 (j:=12) rfl
theorem a_13:atI (x0::x1::x2::x3::x4::x5::x6::x7::x8::x9::x10::x11::x12::d::ds) 13=some d:=m9 (j:=13) rfl
theorem ix_0 {n:Nat}:ixN (n+1) 0=some 0:=by unfold ixN;rw[if_pos (Int.le_refl _),if_pos (by walk_at "o")];rfl
end
def dkey:D->Option Key
 | .int i=>some (Sum.inl i)
 | .str x=>some (Sum.inr x)
 | _=>none
def dkeys:List D->Option (List Key)
 | []=>some []
 | d::ds=>(dkey d).bind fun k=>(dkeys ds).map fun ks=>k::ks
def tkey:D->Option (List Key)
 | .tup ds=>dkeys ds
 | _=>none
def look {κ:Type} [DecidableEq κ]:List κ->List D->κ->Option D
 | k'::ks,x::xs,k=>if k'=k then some x else look ks xs k
 | _,_,_=>none
def putKs {κ:Type} [DecidableEq κ] (ks:List κ) (k:κ):List κ:=if k∈ks then ks else ks++[k]
def putX {κ α:Type} [DecidableEq κ] (ks:List κ) (xs:List α) (k:κ) (d:α):List α:=if k∈ks then List.zipWith (fun k' x=>if k'=k then d else x) ks xs else xs++[d]
theorem X7 {K:PySem.W.Frag}{A:Av}{H:Hp}{d:D}{k:Key}{v:V}(e:dkey d=some k)(h:DenR K A H d v):v=kV k:=by
 cases d with
 | int i=>cases e;exact g5 h
 | str x=>cases e;exact a0f h
 | _=>cases e
theorem a0M {K:PySem.W.Frag}{A:Av}{H:Hp}:∀{ds:List D} {ks:List Key} {vs:List V},dkeys ds=some ks->DenL K A H ds vs->vs=ks.map kV
 | [],ks,vs,e,l=>by cases e;rw[DenL] at l;rw[l];rfl
 | d::ds,ks,vs,e,l=>by
  rw[DenL] at l;obtain⟨v,r,rfl,h,l⟩:=l;rw[dkeys] at e;cases e1:dkey d with
  | none=>rw[e1] at e;cases e
  | some k=>
   cases e2:dkeys ds with
   | none=>rw[e1,e2] at e;cases e
   | some js=>
    rw[e1,e2] at e;cases e;rw[zJ,<-X7 e1 (B6 h),<-a0M e2 l]
theorem a7f {K:PySem.W.Frag}{A:Av}{H:Hp}{d:D}{k:List Key}{v:V}(e:tkey d=some k)(h:DenR K A H d v):∃b,v= .ref b/\SqT K H b (k.map kV):=by
 cases d with
 | tup ds=>
  obtain⟨b,vs,ev,hq,l⟩:=t3 h;rw[a0M e l] at hq;exact⟨b,ev,hq⟩
 | _=>cases e
theorem a0e {κ:Type} [DecidableEq κ] {K:PySem.W.Frag}{A:Av}{H:Hp}:∀{ks:List κ} {xs:List D} {vs:List V} {k:κ} {x:D},DenL K A H xs vs->look ks xs k=some x->∃v,valV (ks.zip vs) k=some v/\Den K A H x v
 | [],_,_,_,_,_,e=>by simp[look] at e
 | _::_,[],_,_,_,_,e=>by simp[look] at e
 | k'::ks,x0::xs,vs,k,x,l,e=>by
  rw[DenL] at l;obtain⟨v,r,rfl,h,l⟩:=l;simp only[look] at e;rw[jT];split at e
  ·rename_i q;cases e;exact⟨v,P1 (by simpa using q),h⟩
  ·rename_i q;rw[K3 (by simpa using q)]
   exact a0e l e
theorem V2 {κ:Type} [DecidableEq κ] {K:PySem.W.Frag}{A:Av}{H:Hp}:∀{ks:List κ} {xs:List D} {vs:List V} {k:κ},DenL K A H xs vs->ks.length=xs.length->look ks xs k=none->valV (ks.zip vs) k=none
 | [],_,_,_,_,_,_=>by simp[valV]
 | _::_,[],_,_,_,hl,_=>by simp at hl
 | k'::ks,x0::xs,vs,k,l,hl,e=>by
  rw[DenL] at l;obtain⟨v,r,rfl,h,l⟩:=l;simp only[look] at e;rw[jT];split at e
  ·cases e
  ·rename_i q;rw[K3 (by simpa using q)]
   exact V2 l (by simpa using hl) e
theorem a31 {κ:Type} [DecidableEq κ]:∀{ks:List κ} {vs:List V} {k:κ},ks.length=vs.length->((ks.zip vs).any fun kv=>decide (kv.1=k))=decide (k∈ks)
 | [],_,_,_=>by simp
 | _::_,[],_,hl=>by simp at hl
 | k'::ks,v::vs,k,hl=>by
  rw[jT,any_cons,a31 (by simpa using hl)]
  by_cases q:k'=k
  ·simp[q]
  ·have q2:¬k=k':=fun z=>q z.symm;simp[q,q2]
theorem a7R {κ:Type} [DecidableEq κ] {ks:List κ}{vs:List V}{k:κ}{v:V}(hl:ks.length=vs.length):putK (ks.zip vs) k v=(putKs ks k).zip (putX ks vs k v):=by
 unfold putK putKs putX;rw[a31 hl]
 by_cases q:k∈ks
 ·rw[if_pos (by simpa using q),if_pos q,if_pos q]
  clear q
  induction ks generalizing vs with
  | nil=>simp
  | cons k' ks ih=>
   cases vs with
   | nil=>simp at hl
   | cons w vs=>
    have ih':=ih (vs:=vs) (by simpa using hl)
    rw[jT,zJ,List.zipWith_cons_cons,jT,ih']
    by_cases q:k'=k
    ·simp[q]
    ·simp[q]
 ·rw[if_neg (by simpa using q),if_neg q,if_neg q,List.zip_append hl]
  rfl
theorem a2o {κ α:Type} [DecidableEq κ] {ks:List κ}{xs:List α}{k:κ}{d:α}(hl:ks.length=xs.length):(putKs ks k).length=(putX ks xs k d).length:=by
 unfold putKs putX
 split
 ·rw[List.length_zipWith,hl];simp
 ·simp[hl]
theorem a56 {κ:Type} [DecidableEq κ] {K:PySem.W.Frag}{A:Av}{H:Hp}{ks:List κ}{xs:List D}{vs:List V}{k:κ}{d:D}{v:V}(l:DenL K A H xs vs)(h:Den K A H d v):DenL K A H (putX ks xs k d) (putX ks vs k v):=by
 unfold putX
 split
 ·rename_i q;clear q
  induction ks generalizing xs vs with
  | nil=>simp;exact g8
  | cons k' ks ih=>
   cases xs with
   | nil=>rw[DenL] at l;subst l;simp;exact g8
   | cons x xs=>
    rw[DenL] at l;obtain⟨u,r,rfl,hx,l⟩:=l;rw[List.zipWith_cons_cons,List.zipWith_cons_cons];refine e8 ?_ (ih l)
    split
    ·exact h
    ·exact hx
 ·exact k6 l (e8 h g8)
section
variable {X:Cx}{a b c e o:Expr}{es:List Expr}{pos p:Pos}{f g h:FX}{t u:FT}{fa:FA}{x:Str}
theorem a1H {pins:List (Addr×PySem.Obj)}{σ:L2.St}{H:Hp}{s:Shared}{b:Addr}{ks:List Key}(I:Inv X pins σ H s)(q:SqT X.K H b (ks.map kV)):(tupleKind (mixKind X.prog X.w)).is s.heap ks b:=by
 obtain⟨its,r,⟨o,h1,h2,n,h3⟩,_⟩:=I.tuple q;exact⟨o,its.toArray,n,h1,h2,h3,by simpa using V0 r⟩
def DGe (K:PySem.W.Frag) (H:Hp) (a:Addr) (y:V) (r:Option V):Prop:=
 (∃kvs k,H a=some (.dK kvs)/\y=kV k/\r=valV kvs k)\/∃kvs k b,H a=some (.dT kvs)/\y= .ref b/\SqT K H b (k.map kV)/\r=valV kvs k
def lookG (x y:D):Option (Option D):=match x with
 | .dT ks xs=>(tkey y).map fun k=>look ks xs k
 | .dK ks xs=>(dkey y).map fun k=>look ks xs k
 | _=>none
def LkOk (K:PySem.W.Frag) (A:Av) (H:Hp):Option D->Option V->Prop
 | some d,w=>∃z,w=some z/\Den K A H d z
 | none,w=>w=none
theorem a0Q {A:Av}{H:Hp}{x y:D}{r:Option D}{v u:V}(e:lookG x y=some r)(hx:DenR X.K A H x v)(hy:DenR X.K A H y u):∃a w,v= .ref a/\DGe X.K H a u w/\LkOk X.K A H r w:=by
 cases x with
 | dT ks xs=>
  simp only[lookG] at e;cases e1:tkey y with
  | none=>rw[e1] at e;cases e
  | some k=>
   rw[e1] at e;obtain⟨b,rfl,hb⟩:=a7f e1 hy;obtain⟨a,vs,rfl,ha,hl,l⟩:=hx;refine⟨a,_,rfl,.inr ⟨_,k,b,ha,rfl,hb,rfl⟩,?_⟩;cases(show look ks xs k=r from qC e);cases e2:look ks xs k with
   | none=>exact V2 l hl e2
   | some d=>exact a0e l e2
 | dK ks xs=>
  simp only[lookG] at e;cases e1:dkey y with
  | none=>rw[e1] at e;cases e
  | some k=>
   rw[e1] at e;obtain⟨a,vs,rfl,ha,hl,l⟩:=hx;refine⟨a,_,rfl,.inl ⟨_,k,ha,X7 e1 hy,rfl⟩,?_⟩;cases(show look ks xs k=r from qC e);cases e2:look ks xs k with
   | none=>exact V2 l hl e2
   | some d=>exact a0e l e2
 | _=>cases e
def rIxD (K:PySem.W.Frag):R2:=fun x y H Q=>∃a v,x= .ref a/\DGe K H a y (some v)/\Q v H
theorem a8e {k:Nat}(hr:Room k X.A):IxR X (rIxD X.K):=by
 intro value slice pins s σ H x y v u Q I rx ry h hs;obtain⟨a,z,rfl,hg,q⟩:=h;cases rx;rcases hg with ⟨kvs,k,ha,rfl,hv⟩|⟨kvs,k,b,ha,rfl,hq,hv⟩
 ·obtain⟨_,hd,vs,rel,dd⟩:=a6o I.hok ha;obtain⟨w',hw,rw'⟩:=RelO.some_of (v:=z) (o:=valueAt vs k) (by rw[hv];exact rel.val k)
  refine yE (x:=w') dd.typeIs PySem.F.slot_dict_getitem.lookup ?_ hs;exact wpAny_getItem_of (a1Z ry) dd.mapOf hw ⟨rfl,z,H,I.tok _,rw',q⟩
 ·cases(show u=Value.ref b from ry);obtain⟨_,hd,xs,rel,dd⟩:=a6y I.hok ha;obtain⟨w',hw,rw'⟩:=RelO.some_of (v:=z) (o:=(atKey xs k).map (·.2)) (by rw[hv];exact rel.val k)
  obtain⟨p,hp,hp2⟩:=Option.map_eq_some_iff.mp hw;refine yE (x:=w') dd.typeIs PySem.F.slot_dict_getitem.lookup ?_ hs;refine wpAny_getItem_heap (tupleKind_room_in1 (a3I hr)) (a1H I hq) dd hp ?_;rw[hp2];exact⟨rfl,z,H,I.tok _,rw',q⟩
def isDi:D->Bool
 | .dT _ _=>true
 | .dK _ _=>true
 | _=>false
def oIxG (x y:D):Option W:=if isDi x=true then(lookG x y).bind fun r=>r.map .v else oIx x y
theorem c7 {k:Nat}(hr:Room k X.A)(ha:QX X a f)(hb:QX X b g)(hs:PlainIx b:=by intro _ _;rfl):QX X (.Subscript a b pos) (fBin oIxG f g):=⟨PE.weak (pe_ix (a93.or (a8e hr)) ha.to hb.to hs) (R7 (by
 intro A x y w v u H Q hA e hx hy q;unfold oIxG at e;split at e
 ·obtain⟨r,e1,e⟩:=obs e;obtain⟨a,w',rfl,hg,hm⟩:=a0Q e1 hx hy;cases r with
  | none=>cases e
  | some d=>
   cases e;obtain⟨z,rfl,dz⟩:=hm;exact .inr ⟨a,z,rfl,hg,q z H (Same.refl H) dz⟩
 ·exact .inl (k_ix A x y w v u H Q hA e hx hy q)))⟩
def rInD (K:PySem.W.Frag) (neg:Bool):R2:=fun y x H Q=>∃a r,x= .ref a/\DGe K H a y r/\Q (.bl (if neg then !r.isSome else r.isSome)) H
theorem a7d {k:Nat}(hr:Room k X.A):OpR X (compareOp .In) (rInD X.K false):=by
 intro pins s σ H y x u v Q I ry rx h;obtain⟨a,r,rfl,hg,q⟩:=h;cases rx;rcases hg with ⟨kvs,k,e,rfl,rfl⟩|⟨kvs,k,b,e,rfl,hq,rfl⟩
 ·obtain⟨_,hd,vs,rel,dd⟩:=a6o I.hok e;refine wpAny_in_of (a1Z ry) hd dd.mapOf ?_;rw[<-(rel.val k).isSome_eq];exact⟨.bl _,H,I.tok _,rfl,q⟩
 ·cases(show u=Value.ref b from ry);obtain⟨_,hd,xs,rel,dd⟩:=a6y I.hok e;refine wpAny_in_heap (tupleKind_room_in1 (a3I hr)) (a1H I hq) hd dd ?_;have z:=(rel.val k).isSome_eq;rw[isSome_map] at z;rw[<-z];exact⟨.bl _,H,I.tok _,rfl,q⟩
theorem a4T {k:Nat}(hr:Room k X.A):OpR X (compareOp .NotIn) (rInD X.K true):=by
 intro pins s σ H y x u v Q I ry rx h;obtain⟨a,r,rfl,hg,q⟩:=h;cases rx;rcases hg with ⟨kvs,k,e,rfl,rfl⟩|⟨kvs,k,b,e,rfl,hq,rfl⟩
 ·obtain⟨_,hd,vs,rel,dd⟩:=a6o I.hok e;refine wpAny_notIn_of (a1Z ry) hd dd.mapOf ?_;rw[<-(rel.val k).isSome_eq];exact⟨.bl _,H,I.tok _,rfl,q⟩
 ·cases(show u=Value.ref b from ry);obtain⟨_,hd,xs,rel,dd⟩:=a6y I.hok e;refine wpAny_notIn_heap (tupleKind_room_in1 (a3I hr)) (a1H I hq) hd dd ?_;have z:=(rel.val k).isSome_eq;rw[isSome_map] at z;rw[<-z];exact⟨.bl _,H,I.tok _,rfl,q⟩
def intV:Value->Int
 | .int i _=>i
 | _=>0
def readI (h:Heap):Value->Option (List Int)
 | .ref a=>match h.get? a with
  | some o=>match o.data with
   | .seq its _=>some (its.toList.map intV)
   | _=>none
  | none=>none
 | _=>none
theorem a1d:∀{k:List Int} {its:List Value},Vals (k.map V.int) its->its.map intV=k
 | [],_,r=>by cases r;rfl
 | i::k,_,r=>by
  cases r with
  | cons r1 r2=>
   obtain⟨t,rfl⟩:=r1;rw[zJ,a1d r2];rfl
theorem A7 {m:Nat}:∀(a b:List Int),deqL (deq m) (a.map D.int) (b.map D.int)=some (decide (a=b))
 | [],[]=>rfl
 | [],_::_=>rfl
 | _::_,[]=>rfl
 | x::a,y::b=>by
  have ih:=A7 (m:=m) a b;have e:deq m (.int x) (.int y)=some (x==y):=by cases m<;>rfl
  simp only[zJ,deqL,e,ih,bind_some,jJ];congr 1
  by_cases h:x=y
  ·simp[h]
  ·simp[h]
def tupI (k:List Int):D:=.tup (k.map D.int)
theorem a59 {m:Nat}(a b:List Int):deq (m+1) (tupI a) (tupI b)=some (decide (a=b)):=A7 a b
def tupsOf:List D->Option (List (List Int))
 | []=>some []
 | .tup ds::xs=>(intsOf ds).bind fun k=>(tupsOf xs).map fun ks=>k::ks
 | _=>none
theorem a1b:∀{ds:List D} {ks:List (List Int)},tupsOf ds=some ks->ds=ks.map tupI
 | [],ks,e=>by cases e;rfl
 | .tup d::ds,ks,e=>by
  rw[tupsOf] at e;cases e1:intsOf d with
  | none=>rw[e1] at e;cases e
  | some k=>
   cases e2:tupsOf ds with
   | none=>rw[e1,e2] at e;cases e
   | some js=>rw[e1,e2] at e;cases e;rw[zJ,<-a1b e2,p6 e1];rfl
 | .non::ds,_,e=>by cases e
 | .bl _::ds,_,e=>by cases e
 | .int _::ds,_,e=>by cases e
 | .str _::ds,_,e=>by cases e
 | .lst _::ds,_,e=>by cases e
 | .dT _ _::ds,_,e=>by cases e
 | .dK _ _::ds,_,e=>by cases e
 | .exn _::ds,_,e=>by cases e
theorem F2:∀ks:List (List Int),tupsOf (ks.map tupI)=some ks
 | []=>rfl
 | k::ks=>by rw[zJ,show tupI k= .tup (k.map D.int) from rfl,tupsOf,D8,F2 ks];rfl
def rInT (K:PySem.W.Frag) (neg:Bool):R2:=fun x y H Q=>∃(A:Av) (k:List Int) (ks:List (List Int)) (p:Addr) (vs:List V),DenR K A H (tupI k) x/\y= .ref p/\(SqL K H p vs\/SqT K H p vs)/\DenL K A H (ks.map tupI) vs/\Q (.bl (if neg then !decide (k∈ks) else decide (k∈ks))) H
theorem K2 {k0:Nat}{A:Av}(hr:Room k0 X.A){pins:List (Addr×PySem.Obj)}{σ:L2.St}{H:Hp}{s:Shared}(I:Inv X pins σ H s){k:List Int}{x:V}{v:Value}(hx:DenR X.K A H (tupI k) x)(rx:RelV x v):∀{ks:List (List Int)} {vs:List V} {us:List Value},DenL X.K A H (ks.map tupI) vs->Vals vs us->
  (∀y∈us,SeqAt.EqAt X.A.in1 s y v (decide (readI s.heap y=some k)))/\(us.any fun y=>decide (readI s.heap y=some k))=decide (k∈ks)
 | [],vs,us,l,r=>by
  rw[xY,DenL] at l;subst l;cases r;exact⟨fun y hy=>by simp at hy,by simp⟩
 | k'::ks,vs,us,l,r=>by
  rw[zJ,DenL] at l;obtain⟨z,rs,rfl,hz,l⟩:=l;cases r with
  | cons r1 r2=>
   rename_i u us;obtain⟨i1,i2⟩:=K2 hr I hx rx l r2;have hz':=hz;rw[show tupI k'= .tup (k'.map D.int) from rfl,Den] at hz';obtain⟨c,ws,rfl,hq,lw⟩:=hz';rw[j9 lw] at hq;cases(show u=Value.ref c from r1);obtain⟨its,r3,⟨o,ho,_,n,hd⟩,_⟩:=I.tuple hq;have er:readI s.heap (.ref c)=some k':=by
    unfold readI;dsimp only;rw[ho];dsimp only;rw[hd];dsimp only;rw[a1d r3]
   have eq:SeqAt.EqAt X.A.in1 s (.ref c) v (decide (readI s.heap (.ref c)=some k)):=by
    rw[er];have z:=(a1G I 20 X.A.in1 (by have:=hr.units;show X.A.units+1+20+1<_;walk_at "o") (tupI k') (tupI k) (.ref c) x (.ref c) v _ (a59 k' k) (B6 hz) hx rfl rx).1
    have e2:decide (some k'=some k)=decide (k'=k):=by simp
    rw[e2];exact z
   refine⟨fun y hy=>?_,?_⟩
   ·rcases zO.mp hy with rfl|hy
    ·exact eq
    ·exact i1 y hy
   ·rw[any_cons,i2,er]
    by_cases h:k'=k
    ·simp[h]
    ·have h':¬k=k':=fun z=>h z.symm;simp[h,h']
theorem a5N {k0:Nat}(hr:Room k0 X.A):OpR X (compareOp .In) (rInT X.K false):=by
 intro pins s σ H x y v u Q I rx ry ⟨A,k,ks,p,vs,hx,ey,hq,l,q⟩;subst ey;cases ry;rcases hq with hq|hq
 ·obtain⟨its,r,pl,hz⟩:=I.list hq;obtain⟨c1,c2⟩:=K2 hr I hx rx l r;refine SeqAt.in_listAt (fun y=>decide (readI s.heap y=some k)) pl.isList (fun w hw=>c1 w (by simpa using hw)) ⟨.bl _,H,I,rfl,?_⟩
  rw[show(its.toArray.any fun y=>decide (readI s.heap y=some k))=(its.any fun y=>decide (readI s.heap y=some k)) by simp,c2]
  exact q
 ·obtain⟨its,r,pl,hz⟩:=I.tuple hq;obtain⟨c1,c2⟩:=K2 hr I hx rx l r;refine SeqAt.in_tupleAt (fun y=>decide (readI s.heap y=some k)) pl (fun w hw=>c1 w (by simpa using hw)) ⟨.bl _,H,I,rfl,?_⟩
  rw[show(its.toArray.any fun y=>decide (readI s.heap y=some k))=(its.any fun y=>decide (readI s.heap y=some k)) by simp,c2]
  exact q
theorem a4v {k0:Nat}(hr:Room k0 X.A):OpR X (compareOp .NotIn) (rInT X.K true):=by
 intro pins s σ H x y v u Q I rx ry ⟨A,k,ks,p,vs,hx,ey,hq,l,q⟩;subst ey;cases ry;rcases hq with hq|hq
 ·obtain⟨its,r,pl,hz⟩:=I.list hq;obtain⟨c1,c2⟩:=K2 hr I hx rx l r;refine SeqAt.notIn_listAt (fun y=>decide (readI s.heap y=some k)) pl.isList (fun w hw=>c1 w (by simpa using hw)) ⟨.bl _,H,I,rfl,?_⟩
  rw[show(its.toArray.any fun y=>decide (readI s.heap y=some k))=(its.any fun y=>decide (readI s.heap y=some k)) by simp,c2]
  exact q
 ·obtain⟨its,r,pl,hz⟩:=I.tuple hq;obtain⟨c1,c2⟩:=K2 hr I hx rx l r;refine SeqAt.notIn_tupleAt (fun y=>decide (readI s.heap y=some k)) pl (fun w hw=>c1 w (by simpa using hw)) ⟨.bl _,H,I,rfl,?_⟩
  rw[show(its.toArray.any fun y=>decide (readI s.heap y=some k))=(its.any fun y=>decide (readI s.heap y=some k)) by simp,c2]
  exact q
def nb (neg k:Bool):W:=.v (.bl (if neg then !k else k))
def oInG (neg:Bool) (x y:D):Option W:=if isDi y=true then(lookG y x).map fun r=>nb neg r.isSome else match x with
 | .int i=>(items y).bind fun ys=>(intsOf ys).map fun ns=>nb neg (decide (i∈ns))
 | .tup ds=>(intsOf ds).bind fun k=>(items y).bind fun ys=>(tupsOf ys).map fun ks=>nb neg (decide (k∈ks))
 | _=>none
theorem kInG {neg:Bool}:Pr2 X (oInG neg) (fun x y H Q=>rIn X.K neg x y H Q\/rInD X.K neg x y H Q\/rInT X.K neg x y H Q):=by
 intro A x y w v u H Q hA e hx hy q;unfold oInG at e;split at e
 ·obtain⟨r,e1,e⟩:=oms e;cases e;obtain⟨a,w',rfl,hg,hm⟩:=a0Q e1 hy hx;have es:w'.isSome=r.isSome:=by
   cases r with
   | none=>rw[show w'=none from hm];rfl
   | some d=>obtain⟨z,rfl,_⟩:=hm;rfl
  refine .inr (.inl ⟨a,w',rfl,hg,?_⟩);rw[es];exact q _ H (Same.refl H) t8
 ·split at e
  ·rename_i i;refine .inl (kInI A (.int i) y w v u H Q hA ?_ hx hy q);unfold oInI;exact e
  ·rename_i ds;cases e1:intsOf ds with
   | none=>rw[e1] at e;cases e
   | some k=>
    rw[e1] at e;simp only[bind_some] at e;cases e2:items y with
    | none=>rw[e2] at e;cases e
    | some ys=>
     rw[e2] at e;simp only[bind_some] at e;obtain⟨ks,e3,e⟩:=oms e;cases e;obtain⟨p,vs,rfl,hq,l⟩:=A6 e2 hy;rw[a1b e3] at l;rw[p6 e1] at hx;exact .inr (.inr ⟨A,k,ks,p,vs,hx,rfl,hq,l,q _ H (Same.refl H) t8⟩)
  ·cases e
theorem a9n {k:Nat}(hr:Room k X.A)(ha:QX X a f)(hb:QX X b g)(hm:behindInMarks .In b=false:=by rfl):QX X (.Compare a [.In] [b] pos) (fBin (oInG false) f g):=a2F (a0J.or ((a7d hr).or (a5N hr))) kInG ha hb hm
theorem a5e {k:Nat}(hr:Room k X.A)(ha:QX X a f)(hb:QX X b g)(hm:behindInMarks .In b=false:=by rfl):QT X (.Compare a [.In] [b] pos) (fTest (fBin (oInG false) f g)):=J8 (a0J.or ((a7d hr).or (a5N hr))) kInG ha hb hm
theorem D1 {k:Nat}(hr:Room k X.A)(ha:QX X a f)(hb:QX X b g)(hm:behindInMarks .NotIn b=false:=by rfl):QT X (.Compare a [.NotIn] [b] pos) (fTest (fBin (oInG true) f g)):=J8 (P9.or ((a4T hr).or (a4v hr))) kInG ha hb hm
def fGet (f:FX) (fa:FA):FX:=fun ρ=>(f ρ).bind fun p=>(dr p.2 p.1.fz).bind fun d=>if isDi d=true then(fa p.2).bind fun q=>(takeAll q.2 q.1).bind fun z=>(dr z.2 p.1.fz).bind fun x=>match z.1 with
  | [y,e]=>(lookG x y).map fun r=>(.v (r.getD e),z.2)
  | _=>none
 else none
end
open PySem PySem.W PyProof.Rows
def TWp {α:Type} (n:Nat) (lt:Nat->Nat->Bool):KasT α->(α->Prop)->Prop
 | .ret a,Q=>Q a
 | .ask i j k,Q=>i<n/\j<n/\TWp n lt (k (lt i j)) Q
theorem D0 {α β:Type}{n:Nat}{lt:Nat->Nat->Bool}{g:α->KasT β}{Q:β->Prop}:∀(t:KasT α),TWp n lt t (fun a=>TWp n lt (g a) Q)->TWp n lt (t.bind g) Q
 | .ret _,h=>h
 | .ask i j k,⟨h1,h2,h⟩=>⟨h1,h2,D0 (k (lt i j)) h⟩
theorem a4d {α:Type}{n:Nat}{lt:Nat->Nat->Bool}{cmp:Nat->Nat->(Bool->Shared->Prop)->Shared->Prop}{s:Shared}{Q:α->Shared->Prop}
  (hc:∀i j (C:Bool->Shared->Prop),i<n->j<n->C (lt i j) s->cmp i j C s):∀(t:KasT α),TWp n lt t (fun a=>Q a s)->t.kasWp cmp Q s
 | .ret a,h=>h
 | .ask i j k,⟨h1,h2,h⟩=>hc i j _ h1 h2 (a4d hc (k (lt i j)) h)
section
variable {O:KeyOrd}{f:Nat->O.α}{n:Nat}
def Ky (f:Nat->O.α) (p:Array Nat) (i:Nat):O.α:=f (p.getD i 0)
def SoTo (f:Nat->O.α) (p:Array Nat) (k:Nat):Prop:=∀i j,i<=j->j<k->O.kle (Ky f p i) (Ky f p j)
def NoIn (f:Nat->O.α) (p:Array Nat) (k:Nat):Prop:=∀i j,i<=j->j<k->O.kle (Ky f p j) (Ky f p i)
structure PB (n:Nat) (p:Array Nat):Prop where
 perm:p.Perm (List.toArray (List.range n))
 pos:0<n
theorem PB.size {p:Array Nat}(h:PB n p):p.size=n:=by rw[h.perm.size_eq];simp
theorem PB.lt {p:Array Nat}(h:PB n p)(i:Nat):p.getD i 0<n:=by
 by_cases q:i<p.size
 ·have e:p.getD i 0=p[i]:=by simp[Array.getD,q]
  rw[e];have m:p[i]∈p.toList:=by simp
  have:=(Array.perm_iff_toList_perm.mp h.perm).mem_iff.mp m
  simpa using this
 ·have e:p.getD i 0=0:=by simp[Array.getD,q]
  rw[e];exact h.pos
theorem G2 {p q:Array Nat}{i j:Nat}(h:p[i]? =q[j]?):Ky f p i=Ky f q j:=by
 unfold Ky;congr 1;rw[Array.getD_eq_getD_getElem?,Array.getD_eq_getD_getElem?,h]
theorem a01 {xs:Array Nat}{src d:Nat}(hs:src<xs.size)(hd:d<=src)(k:Nat):
  Ky f (bubble xs src d) k=if k=src-d then Ky f xs src else if src-d<k/\k<=src then Ky f xs (k-1) else Ky f xs k:=by
 have e:=getElem?_bubble hs d hd k
 by_cases h1:k=src-d
 ·rw[if_pos h1] at e ⊢;exact G2 e
 ·rw[if_neg h1] at e ⊢
  by_cases h2:src-d<k/\k<=src
  ·rw[if_pos h2] at e ⊢;exact G2 e
  ·rw[if_neg h2] at e ⊢;exact G2 e
theorem U5 {xs:Array Nat}{i j:Nat}(hj:j<=xs.size)(k:Nat):
  Ky f (kas_rev xs i j) k=if i<=k/\k<j then Ky f xs (i+j-1-k) else Ky f xs k:=by
 have e:=getElem?_mirror_all (i:=i) hj k;unfold kas_rev
 by_cases h1:i<=k/\k<j
 ·rw[if_pos h1] at e ⊢;exact G2 e
 ·rw[if_neg h1] at e ⊢;exact G2 e
theorem n8 {xs:Array Nat}{i j:Nat}(hj:j<=xs.size)(heq:∀k,i<=k->k<j->Ky f xs k=Ky f xs (j-1))(k:Nat):Ky f (kas_rev xs i j) k=Ky f xs k:=by
 rw[U5 hj]
 split
 ·rw[heq _ (by omega) (by omega),heq k (by omega) (by omega)]
 ·rfl
theorem PB.rev {p:Array Nat}(h:PB n p)(i j:Nat):PB n (kas_rev p i j):=⟨(mirror_perm _ _ _ _).trans h.perm,h.pos⟩
theorem PB.bub {p:Array Nat}(h:PB n p)(i j:Nat):PB n (bubble p i j):=⟨(bubble_perm _ _ _).trans h.perm,h.pos⟩
abbrev ltK (f:Nat->O.α):Nat->Nat->Bool:=fun i j=>O.blt (f i) (f j)
theorem a1C {p:Array Nat}(hB:PB n p){Q:Nat->Prop}:∀(c a:Nat),1<=a->SoTo f p a->(∀m,a<=m->m<=a+c->SoTo f p m->(m=a+c\/O.klt (Ky f p m) (Ky f p (m-1)))->Q m)->TWp n (ltK f) (kas_asc p c a) Q
 | 0,a,_,hs,h=>h a (zE _) (zE _) hs (.inl rfl)
 | c+1,a,h1,hs,h=>by
  refine⟨hB.lt _,hB.lt _,?_⟩;cases hless:O.blt (Ky f p a) (Ky f p (a-1))
  case true=>
   rw[show ltK f (p.getD a 0) (p.getD (a-1) 0)=true from hless];dsimp only;rw[if_pos rfl];exact h a (zE _) (by walk_at "o") hs (.inr hless)
  case false=>
   rw[show ltK f (p.getD a 0) (p.getD (a-1) 0)=false from hless];dsimp only;rw[if_neg (by simp)]
   refine a1C hB c (a+1) (by walk_at "o") (fun i j hij hj=>?_) fun m x1 x2 x3 x4=>h m (by walk_at "o") (by walk_at "o") x3 (x4.imp (fun q=>by walk_at "o") id)
   by_cases hjx:j<a
   ·exact hs i j hij hjx
   ·have hj':j=a:=by walk_at "o"
    subst hj'
    by_cases hi':i=j
    ·subst hi';exact xA _
    ·exact KeyOrd.kle_trans (hs i (j-1) (by walk_at "o") (by walk_at "o")) hless
theorem a0F {p:Array Nat}(hB:PB n p){Q:Nat×Array Nat->Prop}{a m:Nat}(h1:1<=a)(ha:a<=m)(hm:m<=n)(hs:NoIn f p a)(h:∀k q,PB n q->1<=k->k<=m->SoTo f q k->Q (k,q)):TWp n (ltK f) (kas_tail3 a m p) Q:=by
 have hsz:a<=p.size:=by rw[hB.size];walk_at "o"
 refine D0 _ (a1C (hB.rev 0 a) (m-a) a h1 (fun i j hij hj=>?_) fun k x1 x2 x3 _=>h k _ (hB.rev 0 a) (by walk_at "o") (by walk_at "o") x3)
 rw[U5 hsz,U5 hsz,if_pos (by walk_at "o"),if_pos (by walk_at "o")]
 exact hs _ _ (by walk_at "o") (by walk_at "o")
theorem Q6 {Q:Array Nat×Nat×Nat->Prop}{m:Nat}(hm:m<=n):∀(c:Nat) (p:Array Nat) (a q:Nat),a+c=m->PB n p->1<=a->NoIn f p a->q+1<=a->(∀i,a-(q+1)<=i->i<a->Ky f p i=Ky f p (a-1))->
  (∀k r p',PB n p'->a<=k->k<=m->NoIn f p' k->r+1<=k->(∀i,k-(r+1)<=i->i<k->Ky f p' i=Ky f p' (k-1))->Q (p',k,r))->TWp n (ltK f) (kas_desc c p a q) Q
 | 0,p,a,q,hc,hB,h1,hs,hq,he,h=>h a q p hB (zE _) (by walk_at "o") hs hq he
 | c+1,p,a,q,hc,hB,h1,hs,hq,he,h=>by
  have hsz:a<=p.size:=by rw[hB.size];walk_at "o"
  refine⟨hB.lt _,hB.lt _,?_⟩;cases hless:O.blt (Ky f p a) (Ky f p (a-1))
  case true=>
   rw[show ltK f (p.getD a 0) (p.getD (a-1) 0)=true from hless];dsimp only;rw[if_pos rfl];have step1:∀xs:Array Nat,(∀k,Ky f xs k=Ky f p k)->NoIn f xs (a+1):=by
    intro xs hk i j hij hj;rw[hk,hk]
    by_cases hjx:j<a
    ·exact hs i j hij hjx
    ·have hj':j=a:=by walk_at "o"
     subst hj'
     by_cases hi':i=j
     ·subst hi';exact xA _
     ·exact KeyOrd.kle_trans (KeyOrd.kle_of_klt hless) (hs i (j-1) (by walk_at "o") (by walk_at "o"))
   by_cases hneq:q>0
   ·rw[if_pos hneq];exact Q6 hm c _ (a+1) 0 (by walk_at "o") (hB.rev _ _) (by walk_at "o") (step1 _ (n8 hsz he)) (by walk_at "o") (fun i h1 h2=>by congr 1;walk_at "o") fun k r p' x1 x2=>h k r p' x1 (by walk_at "o")
   ·rw[if_neg hneq];exact Q6 hm c _ (a+1) 0 (by walk_at "o") hB (by walk_at "o") (step1 _ (fun _=>rfl)) (by walk_at "o") (fun i h1 h2=>by congr 1;walk_at "o") fun k r p' x1 x2=>h k r p' x1 (by walk_at "o")
  case false=>
   rw[show ltK f (p.getD a 0) (p.getD (a-1) 0)=false from hless];dsimp only;rw[if_neg (by simp)]
   refine⟨hB.lt _,hB.lt _,?_⟩;cases hlarger:O.blt (Ky f p (a-1)) (Ky f p a)
   case true=>
    rw[show ltK f (p.getD (a-1) 0) (p.getD a 0)=true from hlarger];dsimp only;rw[if_pos rfl];exact h a q p hB (zE _) (by walk_at "o") hs hq he
   case false=>
    rw[show ltK f (p.getD (a-1) 0) (p.getD a 0)=false from hlarger];dsimp only;rw[if_neg (by simp)]
    have heqx:Ky f p a=Ky f p (a-1):=KeyOrd.kle_antisymm hlarger hless;refine Q6 hm c p (a+1) (q+1) (by walk_at "o") hB (by walk_at "o") (fun i j hij hj=>?_) (by walk_at "o") (fun i h1 h2=>?_) fun k r p' x1 x2=>h k r p' x1 (by walk_at "o")
    ·by_cases hjx:j<a
     ·exact hs i j hij hjx
     ·have hj':j=a:=by walk_at "o"
      subst hj'
      by_cases hi':i=j
      ·subst hi';exact xA _
      ·rw[heqx];exact hs i (j-1) (by walk_at "o") (by walk_at "o")
    ·rw[show a+1-1=a by walk_at "o"]
     by_cases hix:i=a
     ·subst hix;rfl
     ·rw[heqx];exact he i (by walk_at "o") (by walk_at "o")
theorem S3 {p:Array Nat}(hB:PB n p){Q:Nat×Array Nat->Prop}{a m:Nat}(ha:a+1<=m)(hm:m<=n)(hs:NoIn f p (a+1))(h:∀k q,PB n q->1<=k->k<=m->SoTo f q k->Q (k,q)):TWp n (ltK f) (kas_descPart a m p) Q:=by
 refine D0 _ (Q6 hm (m-(a+1)) p (a+1) 0 (by walk_at "o") hB (by walk_at "o") hs (by walk_at "o") (fun i h1 h2=>by congr 1;walk_at "o") fun k r p' hB' x2 x3 hs' x5 he=>?_)
 have hsz:k<=p'.size:=by rw[hB'.size];walk_at "o"
 dsimp only
 by_cases hneq:r>0
 ·rw[if_pos hneq];refine a0F (hB'.rev _ _) (by walk_at "o") x3 hm (fun i j hij hj=>?_) h
  rw[n8 hsz he,n8 hsz he];exact hs' i j hij hj
 ·rw[if_neg hneq];exact a0F hB' (by walk_at "o") x3 hm hs' h
theorem a4f {p:Array Nat}(hB:PB n p){Q:Nat×Array Nat->Prop}{m:Nat}(h1:1<=m)(hm:m<=n)(h:∀k q,PB n q->1<=k->k<=m->SoTo f q k->Q (k,q)):TWp n (ltK f) (kas_count m p) Q:=by
 refine D0 _ (a1C hB (m-1) 1 (zE 1) (fun i j hij hj=>by have:i=j:=(by walk_at "o");subst this;exact xA _) fun a ha1 ha2 hsn hor=>?_)
 by_cases hnn:a=m
 ·rw[if_pos (by simpa using hnn)]
  exact h a p hB ha1 (by walk_at "o") hsn
 ·rw[if_neg (by simpa using hnn)]
  have hlt:O.klt (Ky f p a) (Ky f p (a-1)):=hor.resolve_left (by walk_at "o")
  by_cases hgt:a>1
  ·rw[if_pos hgt];refine⟨hB.lt _,hB.lt _,?_⟩;cases hrose:O.blt (Ky f p 0) (Ky f p (a-1))
   case true=>
    rw[show ltK f (p.getD 0 0) (p.getD (a-1) 0)=true from hrose];dsimp only;rw[if_pos rfl];exact h a p hB ha1 (by walk_at "o") hsn
   case false=>
    rw[show ltK f (p.getD 0 0) (p.getD (a-1) 0)=false from hrose];dsimp only;rw[if_neg (by simp)]
    have hsz:a<=p.size:=by rw[hB.size];walk_at "o"
    have hall:∀k,0<=k->k<a->Ky f p k=Ky f p (a-1):=by
     intro k _ hk;have a1:=hsn 0 k (by walk_at "o") hk
     have a2:=hsn k (a-1) (by walk_at "o") (by walk_at "o")
     exact KeyOrd.kle_antisymm a2 (KeyOrd.kle_trans hrose a1)
    refine S3 (hB.rev _ _) (by walk_at "o") hm (fun i j hij hj=>?_) h
    rw[n8 hsz hall,n8 hsz hall]
    by_cases hjn:j<a
    ·rw[hall i (by walk_at "o") (by walk_at "o"),hall j (by walk_at "o") hjn];exact xA _
    ·have hj':j=a:=by walk_at "o"
     subst hj'
     by_cases hi':i=j
     ·subst hi';exact xA _
     ·rw[hall i (by walk_at "o") (by walk_at "o")];exact KeyOrd.kle_of_klt hlt
  ·rw[if_neg hgt];have hn1':a=1:=by walk_at "o"
   subst hn1';refine S3 hB (by walk_at "o") hm (fun i j hij hj=>?_) h
   by_cases hi':i=j
   ·subst hi';exact xA _
   ·have hi0:i=0:=by walk_at "o"
    have hj1:j=1:=by walk_at "o"
    subst hi0;subst hj1;exact KeyOrd.kle_of_klt hlt
theorem S9 {p:Array Nat}(hB:PB n p){Q:Nat->Prop}{k:Nat}(hk:k<n)(hs:SoTo f p k)
  (h:∀l,l<=k->(∀i,i<l->O.kle (Ky f p i) (Ky f p k))->(∀i,l<=i->i<k->O.klt (Ky f p k) (Ky f p i))->Q l):
  ∀(c l r:Nat),l<=r->r<=k->r-l<=c->(∀i,i<l->O.kle (Ky f p i) (Ky f p k))->(∀i,r<=i->i<k->O.klt (Ky f p k) (Ky f p i))->TWp n (ltK f) (kas_place p k c l r) Q
 | 0,l,r,hlr,hrk,hc,hlo,hhi=>h l (by omega) hlo (fun i h1 h2=>hhi i (by omega) h2)
 | c+1,l,r,hlr,hrk,hc,hlo,hhi=>by
  unfold kas_place
  by_cases hge:l≥r
  ·rw[if_pos hge]
   have:l=r:=by omega
   subst this;exact h l hrk hlo hhi
  ·rw[if_neg hge];refine⟨hB.lt _,hB.lt _,?_⟩;cases hless:O.blt (Ky f p k) (Ky f p ((l+r)/2))
   case true=>
    rw[show ltK f (p.getD k 0) (p.getD ((l+r)/2) 0)=true from hless];dsimp only;rw[if_pos rfl];exact S9 hB hk hs h c l ((l+r)/2) (by omega) (by omega) (by omega) hlo fun i h1 h2=>KeyOrd.klt_of_klt_of_kle hless (hs _ _ h1 h2)
   case false=>
    rw[show ltK f (p.getD k 0) (p.getD ((l+r)/2) 0)=false from hless];dsimp only;rw[if_neg (by simp)]
    exact S9 hB hk hs h c ((l+r)/2+1) r (by omega) (by omega) (by omega) (fun i h1=>KeyOrd.kle_trans (hs i ((l+r)/2) (by omega) (by omega)) (show O.kle _ _ from hless)) hhi
theorem a3N {Q:Array Nat->Prop}(h:∀p,PB n p->SoTo f p n->Q p):∀(c k:Nat) (p:Array Nat),c+k=n->PB n p->SoTo f p k->TWp n (ltK f) (kas_bin c p k) Q
 | 0,k,p,hc,hB,hs=>h p hB (by rw[<-hc];rw[Nat.zero_add];exact hs)
 | c+1,k,p,hc,hB,hs=>by
  refine D0 _ (S9 hB (by walk_at "o") hs (fun l hlk hlo hhi=>?_) k 0 k (by walk_at "o") (by walk_at "o") (by walk_at "o") (fun i hi=>by walk_at "o") fun i h1 h2=>by walk_at "o")
  refine a3N h c (k+1) _ (by walk_at "o") (hB.bub _ _) fun i j hij hj=>?_
  have hks:k<p.size:=by rw[hB.size];walk_at "o"
  rw[a01 hks (by walk_at "o"),a01 hks (by walk_at "o"),show k-(k-l)=l by walk_at "o"]
  repeat' split
  all_goals first
   | (exfalso;walk_at "o")
   | exact xA _
   | exact hlo _ (by walk_at "o")
   | exact KeyOrd.kle_of_klt (hhi _ (by walk_at "o") (by walk_at "o"))
   | exact hs _ _ (by walk_at "o") (by walk_at "o")
theorem a5S {Q:Array Nat->Prop}(hn:1<=n)(h:∀p,PB n p->SoTo f p n->Q p):TWp n (ltK f) (kas_sort n) Q:=by
 refine D0 _ (a4f ⟨Array.Perm.refl _,hn⟩ hn (zE _) fun k q hB x1 x2 hs=>?_);dsimp only
 split
 ·rw[show max k 1=k by walk_at "o"]
  exact a3N h (n-k) k q (by walk_at "o") hB hs
 ·exact h q hB (by rw[show n=k by walk_at "o"];exact hs)
end
def DRaw (h:Heap) (d:Addr) (es:Array DictEntry) (ep:Nat):Prop:=∃o,h.get? d=some o/\o.ExactDict/\o.data= .dict es ep
theorem DRaw.typeIs {s:Shared}{d:Addr}{es:Array DictEntry}{ep:Nat}(x:DRaw s.heap d es ep):s.TypeIs (.ref d) "dict":=let ⟨o,e,c,_⟩:=x;⟨o,e,c.1⟩
theorem DRaw.lt {h:Heap}{d:Addr}{es:Array DictEntry}{ep:Nat}(x:DRaw h d es ep):d<h.objs.size:=let ⟨_,e,_⟩:=x;zS e
theorem DRaw.on {h h':Heap}{d:Addr}{es:Array DictEntry}{ep:Nat}(x:DRaw h d es ep)(k:∀o,h.get? d=some o->h'.get? d=some o):DRaw h' d es ep:=let ⟨o,e,r⟩:=x;⟨o,k o e,r⟩
section
variable {prog:Program}{w:World}{A:Around}{E:Value->Shared->Prop}{s:Shared}{it d:Addr}{es:Array DictEntry}{i ep:Nat}
theorem a5m {Q:Value->Shared->Prop}(ns:(d==sysModules)=false)(hm:DRaw s.heap d es ep)
  (q:Q (.ref s.heap.objs.size) {s with heap:=s.heap.push {cls:=.type "dict_keyiterator",data:=.fields #[.ref d,.int 0 0,.int es.size 0,.int ep 0]}}):wpAny (model prog w) A (pyIter (.ref d)) Q E s:=by
 obtain⟨o,g0,gx,gd⟩:=id hm;have T:=hm.typeIs;refine wpAny_pyIter_slot T F.slot_dict_iter (qI F.slot_dict_iter T F.entry_dict_iter ?_ (F.args_dict_iter_1 _));unfold Builtin.«dict.__iter__»;refine zA ?_;unfold Builtin.Dict.dictSlotNone;refine zA (wpAny_notOrdered_dict T (zB ?_));show wpAny _ _ (Builtin.Dict.showsAll d >>=_) _ _ s;unfold Builtin.Dict.showsAll;rw[if_neg (by rw[ns];simp)]
 refine zA (zB (zA (wpAny_dictEntries g0 gd (zA (wpAny_dictEpoch g0 gd ?_)))));refine zA (qF (zB ⟨_,rfl,"dict_keyiterator",_,⟨_,zL _ rfl,rfl⟩,F.slot_dict_keyiterator_next.lookup,?_⟩));simpa [rawInt] using q
theorem a6f {Q:Option Value->Shared->Prop}{e:DictEntry}(hit:s.heap.IsKeyIter it d i es.size ep)(hm:DRaw s.heap d es ep)(he:es[i]? =some e)
  (q:∀h',h'.IsKeyIter it d (i+1) es.size ep->Heap.SameBut it s.heap h'->Q (some e.key) {s with heap:=h'}):wpAny (model prog w) A (pyNext (.ref it)) Q E s:=by
 obtain⟨o,t0,tc,td⟩:=id hit;obtain⟨od,g0,gx,gd⟩:=id hm;unfold pyNext;refine zA (wpAny_attempt (qK (name:=Str.ofString "__next__") hit.typeIs jO (qI jO hit.typeIs F.entry_dict_keyiterator_next ?_ (F.args_dict_keyiterator_next_1 _))));refine zA (zB (zA (zA ?_)))
 first|refine zA (xC hit.typeIs (zB (zA (wpAny_fieldsOf t0 td ?_))))|refine zA (xR hit.typeIs (zB (zA (wpAny_fieldsOf t0 td ?_))))
 have own:Builtin.Dict_items.ownsTuple "dict_keyiterator"=false:=by decide
 simp only[own,qQ,jK];show wpAny _ _ (if(Value.ref d==Value.none)=true then _ else _) _ _ s;rw[if_neg (show ¬((Value.ref d==Value.none)=true) from zP)];refine zA (zB (zA (wpAny_dictEntries g0 gd ?_)));rw[if_neg (by simp)]
 refine zA (zB (zA (wpAny_dictEpoch g0 gd ?_)));rw[if_neg (by simp)]
 refine zB ?_;have lt:i<es.size:=by
  rcases Nat.lt_or_ge i es.size with z|z
  ·exact z
  ·rw[jH z] at he;cases he
 simp only[show ¬((i:Int)<0) from by walk_at "o",jK,zI,he]
 refine zA ?_
 first|refine zA (xC hit.typeIs (zB (zA (wpAny_isOneOf_keyiter hit.typeIs ?_))))|refine zA (xR hit.typeIs (zB (zA (wpAny_isOneOf_keyiter hit.typeIs ?_))))
 show wpAny _ _ (setField (.ref it) 1 (rawInt ((i:Int)+1)) >>=_) _ _ s;refine zA (wpAny_setField t0 td (by simp) ?_)
 have up:(s.heap.update it (PySem.Obj.mapFields (·.setIfInBounds 1 (rawInt ((i:Int)+1))))).IsKeyIter it d (i+1) es.size ep:=⟨_,jL _ t0 (Obj.isFreed_of_fields (Obj.data_mapFields td _)),(Obj.cls_mapFields ..).trans tc,by rw[Obj.data_mapFields td];simp[rawInt]⟩
 refine zA (qM (zA (wpAny_isOneOf_keyiter (s:={s with heap:=s.heap.update it (PySem.Obj.mapFields (·.setIfInBounds 1 (rawInt ((i:Int)+1))))}) up.typeIs ?_)))
 show wpAny _ _ (pure e.key) _ _ _;exact zB (zB ⟨_,rfl,zB (q _ up (qO ..))⟩)
theorem a7k {Q:Option Value->Shared->Prop}(hh:A.handled=none)(hit:s.heap.IsKeyIter it d i es.size ep)(hm:DRaw s.heap d es ep)(he:es[i]? =none)
  (q:∀h',Heap.ExtBut it s.heap h'->Q none {s with heap:=h'}):wpAny (model prog w) A (pyNext (.ref it)) Q E s:=by
 obtain⟨o,t0,tc,td⟩:=id hit;obtain⟨od,g0,gx,gd⟩:=id hm;unfold pyNext;refine zA (wpAny_attempt (qK (name:=Str.ofString "__next__") hit.typeIs jO (qI jO hit.typeIs F.entry_dict_keyiterator_next ?_ (F.args_dict_keyiterator_next_1 _))));refine zA (zB (zA (zA ?_)))
 first|refine zA (xC hit.typeIs (zB (zA (wpAny_fieldsOf t0 td ?_))))|refine zA (xR hit.typeIs (zB (zA (wpAny_fieldsOf t0 td ?_))))
 have own:Builtin.Dict_items.ownsTuple "dict_keyiterator"=false:=by decide
 simp only[own,qQ,jK];show wpAny _ _ (if(Value.ref d==Value.none)=true then _ else _) _ _ s;rw[if_neg (show ¬((Value.ref d==Value.none)=true) from zP)];refine zA (zB (zA (wpAny_dictEntries g0 gd ?_)));rw[if_neg (by simp)]
 refine zA (zB (zA (wpAny_dictEpoch g0 gd ?_)));rw[if_neg (by simp)]
 refine zB ?_;simp only[show ¬((i:Int)<0) from by walk_at "o",jK,zI,he]
 refine zA ?_
 first|refine zA (xC hit.typeIs (zB ?_))|refine zA (xR hit.typeIs (zB ?_))
 show wpAny _ _ (setField (.ref it) 0 .none >>=_) _ _ s;refine zA (wpAny_setField t0 td (by simp) ?_)
 show wpAny _ _ (newExc (.type "StopIteration") [] >>=_) _ _ _;refine zA ?_;simp only[newExc,newTuple];refine zA (qF ?_ (by size_fits))
 refine zA (m:=firstArgMember _ _) (wpAny_of_eq (a:=Value.none) (by first|rfl|(simp only[firstArgMember];rfl)) (qF ?_ (by size_fits)))
 simp only[raiseNew];refine zA (wpAny_handled ?_);rw[show A.in1.handled=none from hh];refine zA (zB (wpAny_throw ?_));refine zA (wpAny_isInstance (b:=true) (T:="StopIteration") ⟨_,zL _ rfl,rfl⟩ isSubtype_stop ?_);exact zB (q _ (((qO ..).extBut.push _).push _))
theorem a4u (hh:A.handled=none)(I d:Addr)(hne:d≠I)(es:Array DictEntry)(ep:Nat):
  Walks prog w A I [I,d] [I] es.size (fun i v=>∃e,es[i]? =some e/\v=e.key) (fun i h=>h.IsKeyIter I d i es.size ep/\DRaw h d es ep) where
 sub:=fun b hb=>by simp at hb;simp[hb]
 frame:=fun _ _ _ st hk=>⟨st.1.at fun o e=>hk I (by simp) o e,st.2.on fun o e=>hk d (by simp) o e⟩
 item:=fun i s Q E hi st hQ=>a6f st.1 st.2 (e:=es[i]) (by simp[hi]) fun h' h1 h2=>hQ _ h' s.toks ⟨_,by simp[hi],rfl⟩ ⟨h1,st.2.on fun o e=>(h2.2 d hne).trans e⟩ fun b o hb e=>(h2.2 b (fun z=>hb (by simp[z]))).trans e
 done:=fun s Q E st hQ=>a7k hh st.1 st.2 (by simp) fun h' x=>hQ h' s.toks fun b o hb e=>x b o (fun z=>hb (by simp[z])) e
 self:=fun _ _ _ _ st hQ=>wpAny_pyIter_keyiter st.1 hQ
theorem a33 (ns:(d==sysModules)=false):KdlSrc prog w "dict" d d es.size (fun i v=>∃e,es[i]? =some e/\v=e.key) (fun h=>DRaw h d es ep) where
 type:=fun _ x=>x.typeIs
 there:=fun _ x=>⟨x.lt,x.lt⟩
 keep:=fun _ _ x hk=>x.on fun o e=>hk d (.inl rfl) o e
 notList:=by decide
 notTuple:=by decide
 hint:=fun _ _ _ _ x q=>kdl_hint_dict x.typeIs q
 iter:=fun _ _ hh x=>⟨_,_,(fun _ _ q=>a5m ns x q),a4u hh _ d (zG x.lt) es ep,⟨⟨_,zL _ rfl,rfl,rfl⟩,x.on fun o e=>zC _ e⟩⟩
end
theorem a3u:∀a:List Int,HT.lexLt a a=false
 | []=>rfl
 | x::a=>by rw[HT.lexLt_cons,if_pos rfl];exact a3u a
theorem a0H:∀a b c:List Int,HT.lexLt a b=true->HT.lexLt b c=true->HT.lexLt a c=true
 | [],[],_,h,_=>by cases h
 | [],_::_,[],_,h=>by cases h
 | [],_::_,_::_,_,_=>rfl
 | _::_,[],_,h,_=>by cases h
 | _::_,_::_,[],_,h=>by cases h
 | x::a,y::b,z::c,h,h'=>by
  rw[HT.lexLt_cons] at h h' ⊢
  by_cases e1:x=y
  ·by_cases e2:y=z
   ·rw[if_pos e1] at h;rw[if_pos e2] at h';rw[if_pos (e1.trans e2)];exact a0H a b c h h'
   ·rw[if_neg e2] at h';rw[if_neg (fun q=>e2 (e1.symm.trans q)),e1];exact h'
  ·rw[if_neg e1] at h;have h1:=yH h
   by_cases e2:y=z
   ·rw[if_neg (fun q=>e1 (q.trans e2.symm)),<-e2];exact h
   ·rw[if_neg e2] at h';have h2:=yH h';rw[if_neg (by omega)]
    exact qE (by omega)
theorem a3v:∀a b c:List Int,HT.lexLt a c=true->HT.lexLt a b=true\/HT.lexLt b c=true
 | [],[],_,h=>.inr h
 | [],_::_,_,_=>.inl rfl
 | _::_,_,[],h=>by cases h
 | _::_,[],_::_,_=>.inr rfl
 | x::a,y::b,z::c,h=>by
  rw[HT.lexLt_cons] at h ⊢;rw[HT.lexLt_cons]
  by_cases e1:x=y
  ·by_cases e2:y=z
   ·rw[if_pos (e1.trans e2)] at h;rw[if_pos e1,if_pos e2];exact a3v a b c h
   ·rw[if_neg (fun q=>e2 (e1.symm.trans q))] at h;rw[if_neg e2,<-e1];exact .inr h
  ·rw[if_neg e1]
   by_cases e2:x=z
   ·have e3:¬y=z:=fun q=>e1 (e2.trans q.symm);rw[if_neg e3];rcases Int.lt_or_gt_of_ne e1 with q|q
    ·exact .inl (qE q)
    ·exact .inr (qE (by omega))
   ·rw[if_neg e2] at h;have h1:=yH h;rcases Int.lt_or_gt_of_ne e1 with q|q
    ·exact .inl (qE q)
    ·rw[if_neg (show ¬y=z by omega)];exact .inr (qE (by omega))
theorem a1j:∀a b:List Int,HT.lexLt a b=false->HT.lexLt b a=false->a=b
 | [],[],_,_=>rfl
 | [],_::_,h,_=>by cases h
 | _::_,[],_,h=>by cases h
 | x::a,y::b,h,h'=>by
  rw[HT.lexLt_cons] at h h'
  by_cases e:x=y
  ·rw[if_pos e] at h;rw[if_pos e.symm] at h';rw[e,a1j a b h h']
  ·rw[if_neg e] at h;rw[if_neg (fun q=>e q.symm)] at h';have h1:=of_decide_eq_false h;have h2:=of_decide_eq_false h';walk_at "o"
def lexO:KeyOrd:=⟨List Int,HT.lexLt,a3u,a0H,a3v,a1j⟩
inductive Tups (h:Heap):List Value->List (List Int)->Prop where
 | nil:Tups h [] []
 | cons {a:Addr} {its:Array Value} {k:List Int} {vs:List Value} {ks:List (List Int)} (t:IsTup h a its) (i:IntsAre its.toList k) (ne:k≠[]) (r:Tups h vs ks):Tups h (.ref a::vs) (k::ks)
theorem Tups.len {h:Heap}{vs:List Value}{ks:List (List Int)}(t:Tups h vs ks):vs.length=ks.length:=by
 induction t with
 | nil=>rfl
 | cons _ _ _ _ ih=>simp[ih]
theorem Tups.on {h h':Heap}{vs:List Value}{ks:List (List Int)}(t:Tups h vs ks)(k:∀a o,(.ref a)∈vs->h.get? a=some o->h'.get? a=some o):Tups h' vs ks:=by
 induction t with
 | nil=>exact .nil
 | cons x i ne r ih=>
  obtain⟨o,e,c⟩:=x;exact .cons ⟨o,k _ o zR e,c⟩ i ne (ih fun a o m e=>k a o (zN _ m) e)
theorem Tups.at {h:Heap}{vs:List Value}{ks:List (List Int)}(t:Tups h vs ks):∀{i:Nat},i<vs.length->∃a its,vs.getD i .none= .ref a/\IsTup h a its/\IntsAre its.toList (ks.getD i [])/\ks.getD i []≠[]:=by
 induction t with
 | nil=>intro i hi;simp at hi
 | cons x i ne r ih=>
  intro j hj;cases j with
  | zero=>exact⟨_,_,rfl,x,i,ne⟩
  | succ j=>exact ih (i:=j) (by simpa using hj)
section
variable {prog:Program}{w:World}{A:Around}{E:Value->Shared->Prop}{s:Shared}{h₀:Heap}{L D:Addr}{m:Str->Option Value}{vs:List Value}{ks:List (List Int)}
theorem a6Y {fin:Bool}{Q:Bool->Shared->Prop}:∀{us ws:List Value} {ns ms:List Int} {i:Nat},IntsAre us ns->IntsAre ws ms->fin=decide (us.length<ws.length)->
  Q (HT.lexLt ns ms) s->KatLex prog w A true fin Q (us.zip ws) i s
 | [],[],_,_,i,h1,h2,ef,q=>by
  cases h1;cases h2;rw[zip_nil_left];exact kat_nil (by rw[ef];exact q)
 | [],_::_,_,_,i,h1,h2,ef,q=>by
  cases h1;cases h2;rw[zip_nil_left];exact kat_nil (by rw[ef];simpa [HT.lexLt] using q)
 | _::_,[],_,_,i,h1,h2,ef,q=>by
  cases h1;cases h2;rw[List.zip_nil_right];exact kat_nil (by rw[ef];simpa [HT.lexLt] using q)
 | _::us,_::ws,_,_,i,h1,h2,ef,q=>by
  cases h1 with
  | cons a t h1=>
   cases h2 with
   | cons c u h2=>
    rw[jT];rw[HT.lexLt_cons] at q;refine kat_cons (SeqAt.EqAt.int_int a t c u prog w _ _ ?_)
    by_cases e:a=c
    ·rw[if_pos e] at q;rw[show(a==c)=true by simpa using e]
     exact kat_yes (a6Y h1 h2 (by rw[ef];simp) q)
    ·rw[if_neg e] at q;rw[show(a==c)=false by simpa using e]
     refine kat_no ?_;cases hb:(true&&i==0) with
     | true=>exact oneLt_int q
     | false=>exact kat_one _ _ (lt_int q)
theorem katTups {h:Heap}{vs:List Value}{ks:List (List Int)}(t:Tups h vs ks):∃fs,KatTups h vs fs/\fs.length=ks.length/\∀v∈fs,∃(i:Int) (u:Tok),v= .int i u:=by
 induction t with
 | nil=>exact⟨[],.nil,rfl,fun v hv=>by cases hv⟩
 | @cons a its k vs ks x i ne r ih=>
  obtain⟨fs,h1,h2,h3⟩:=ih;obtain⟨o,e,c,n,d⟩:=x;obtain⟨its⟩:=its;cases i with
  | nil=>exact absurd rfl ne
  | cons n0 t0 r'=>exact⟨_,.cons e c d (by rfl) h1,by simp[h2],fun v hv=>(zO.mp hv).elim (fun z=>⟨_,_,z⟩) (h3 v)⟩
theorem a7z {s:Shared}(T:Tups s.heap vs ks)(i j:Nat)(C:Bool->Shared->Prop)(hi:i<vs.length)(hj:j<vs.length)(q:C (HT.lexLt (ks.getD i []) (ks.getD j [])) s):kas_ask prog w A (tuples' true) vs i j C s:=by
 obtain⟨a,its,ea,⟨o,h1,h2,n,h3⟩,ia,_⟩:=T.at hi;obtain⟨b,its2,eb,⟨o2,g1,g2,n2,g3⟩,ib,_⟩:=T.at hj;unfold kas_ask;rw[ea,eb];exact kat_lt h1 h3 g1 g3 (a6Y ia ib (by simp) q)
theorem a4z {Q:Value->Shared->Prop}(F:Fr h₀ L s.heap m)(hD:s.heap.get? D=some (listOf vs.toArray 0))(hDL:D≠L)(hD0:h₀.get? D=none)(T:Tups s.heap vs ks)(nD:Value.ref D∉vs)(nL:Value.ref L∉vs)(k0:∀b o,h₀.get? b=some o->s.heap.get? b=some o)(h2:2<=vs.length)(h64:vs.length<64)
  (q:∀(h':Heap) (p:Array Nat) (e:Nat),Fr h₀ L h' m->(∀b o,b≠L->b≠D->s.heap.get? b=some o->h'.get? b=some o)->h'.get? D=some (listOf (p.toList.map fun i=>vs.getD i .none).toArray e)->PB vs.length p->SoTo (O:=lexO) (fun i=>ks.getD i []) p vs.length->Q .none {s with heap:=h'}):
  wpAny (model prog w) A (call (.builtin "list.sort") [.ref D]) Q E s:=by
 have kept:=fun{h':Heap} (F':Fr h₀ L h' m) (N':News h₀ L h' (L2.rest h₀ s.heap L D))=>L2.a1l (d:=D) k0 F' N';refine kat_lsort (vs:=vs) F (L2.a72 hDL hD0 hD) (.head L2.a32) (by simp) h2 h64 fun e1 h' F' N'=>?_
 have K':=kept F' fun p hp=>N' p (zN _ hp);have T':Tups h' vs ks:=T.on fun a o ma e=>K' a o (fun z=>nL (z▸ma)) (fun z=>nD (z▸ma)) e;obtain⟨fs,f1,f2,f3⟩:=katTups T';refine kat_kind (s:={s with heap:=h'}) (T:=.type "int") f1 (by rw[f2,<-T.len];walk_at "o") (fun v hv=>by obtain⟨i,u,rfl⟩:=f3 v hv;exact Looks.of_pure rfl) (by decide) ?_
 have tb:(Value.type "int" != Value.type "tuple")=true:=by decide
 rw[tb];refine a4d (s:={s with heap:=h'}) (n:=vs.length) (lt:=ltK (O:=lexO) fun i=>ks.getD i []) (fun i j C hi hj c=>a7z (s:={s with heap:=h'}) T' i j C hi hj c) _ (a5S (by walk_at "o") fun p hp hs=>?_)
 refine KasFin.intro F' N' (.head L2.a32) fun h3 c F3 N3=>?_;exact q h3 p c F3 (kept F3 fun p hp=>N3 p (zN _ hp)) (N3 _ zR).1 hp hs
theorem a2O {Q:Value->Shared->Prop}(hD:s.heap.get? D=some (listOf vs.toArray 0))(h2:vs.length<2)
  (q:∀(h':Heap) (e:Nat),(∀b o,b≠D->s.heap.get? b=some o->h'.get? b=some o)->h'.get? D=some (listOf vs.toArray e)->Q .none {s with heap:=h'}):
  wpAny (model prog w) A (call (.builtin "list.sort") [.ref D]) Q E s:=by
 refine qI slot_list_sort ⟨_,hD,rfl⟩ entry_list_sort ?_ (args_list_sort _);rw[list_sort_plain];have lt:D<s.heap.objs.size:=zS hD;refine zA (listItems_at hD rfl (zA (listUpdate_at hD rfl ?_)));obtain⟨e1,k1⟩:∃e1,(s.heap.update D (PySem.Obj.mapSeq fun _=> #[])).get? D=some (seqObj "list" #[] e1):=⟨_,yD hD (fun _=> #[])⟩;refine zA (seqEpoch_at k1 rfl (zA (wpAny_newTuple (zA (wpAny_newList (qM ?_))))));have k2:(((s.heap.update D (PySem.Obj.mapSeq fun _=> #[])).push (seqObj "tuple" vs.toArray 0)).push (seqObj "list" #[] 0)).get? D=some (seqObj "list" #[] e1):=zC _ (zC _ k1);show wpAny (model prog w) _ _ _ E {s with heap:=((s.heap.update D (PySem.Obj.mapSeq fun _=> #[])).push (seqObj "tuple" vs.toArray 0)).push (seqObj "list" #[] 0)}
 dsimp only;have sz:vs.toArray.size<2:=by simpa using h2
 rw[if_pos sz,if_pos sz];refine zA (zB ?_);rw[StateT.run_pure];refine zA (zB ?_);dsimp only;have out:(arrOf (SortSt.mk' general' (vs.toArray.zip vs.toArray) #[] 7 none)).map (·.2)=vs.toArray:=by
  show(vs.toArray.zip vs.toArray).map (·.2)=vs.toArray;have e:(vs.toArray.zip vs.toArray)=(vs.zip vs).toArray:=by simp
  rw[e,List.map_toArray];congr 1;exact List.map_snd_zip (zE _)
 rw[out];refine zA (seqEpoch_at k2 rfl (zA (listUpdate_at k2 rfl ?_ (hsz2:=by rw[qY];walk_at "o"))))
 simp only[bne_self_eq_false,qQ,jK];obtain⟨e2,k3⟩:∃e2,((((s.heap.update D (PySem.Obj.mapSeq fun _=> #[])).push (seqObj "tuple" vs.toArray 0)).push (seqObj "list" #[] 0)).update D (PySem.Obj.mapSeq fun _=>vs.toArray)).get? D=some (seqObj "list" vs.toArray e2):=⟨_,yD k2 (fun _=>vs.toArray)⟩;refine zB ⟨_,rfl,q _ e2 (fun b o hb e=>?_) k3⟩;rw[xD _ _ _ _ hb];refine zC _ (zC _ ?_);rw[xD _ _ _ _ hb];exact e
end
abbrev kleB (a b:List Int):Bool:=!HT.lexLt b a
def sortK (ks:List (List Int)):List (List Int):=ks.mergeSort kleB
theorem X5 (ks:List (List Int)):(sortK ks).Perm ks:=List.mergeSort_perm ks _
theorem a1I (ks:List (List Int)):(sortK ks).Pairwise fun a b=>HT.lexLt b a=false:=by
 have:=List.pairwise_mergeSort (le:=kleB) (fun a b c h1 h2=>by
  simp only[kleB,Bool.not_eq_true'] at *;exact KeyOrd.kle_trans (O:=lexO) h1 h2) (fun a b=>by
  simp only[kleB,Bool.or_eq_true,Bool.not_eq_true'];cases q:HT.lexLt b a with
  | false=>exact .inl rfl
  | true=>exact .inr (KeyOrd.klt_asymm (O:=lexO) q)) ks
 exact this.imp fun h=>by simpa [kleB] using h
theorem a0G:∀{l1 l2:List (List Int)},l1.Perm l2->(l1.Pairwise fun a b=>HT.lexLt b a=false)->(l2.Pairwise fun a b=>HT.lexLt b a=false)->l1=l2
 | [],l2,h,_,_=>(List.nil_perm.mp h).symm
 | a::l1,[],h,_,_=>by have:=h.length_eq;simp at this
 | a::l1,b::l2,h,h1,h2=>by
  have h1':=List.pairwise_cons.mp h1;have h2':=List.pairwise_cons.mp h2;have e:a=b:=by
   have ma:a∈b::l2:=h.mem_iff.mp zR;have mb:b∈a::l1:=h.mem_iff.mpr zR;rcases zO.mp ma with z|z
   ·exact z
   ·rcases zO.mp mb with y|y
    ·exact y.symm
    ·exact a1j a b (h2'.1 a z) (h1'.1 b y)
  subst e;rw[a0G ((List.perm_cons a).mp h) h1'.2 h2'.2]
inductive Al (K:PySem.W.Frag) (H:Hp):List Addr->List (List Int)->Prop where
 | nil:Al K H [] []
 | cons {a:Addr} {k:List Int} {as:List Addr} {ks:List (List Int)} (q:SqT K H a (k.map V.int)) (r:Al K H as ks):Al K H (a::as) (k::ks)
section
variable {K:PySem.W.Frag}{H:Hp}
theorem Al.len {as:List Addr}{ks:List (List Int)}(h:Al K H as ks):as.length=ks.length:=by
 induction h with
 | nil=>rfl
 | cons _ _ ih=>simp[ih]
theorem Al.at {as:List Addr}{ks:List (List Int)}(h:Al K H as ks):∀{i:Nat},i<as.length->SqT K H (as.getD i 0) ((ks.getD i []).map V.int):=by
 induction h with
 | nil=>intro i hi;simp at hi
 | cons q r ih=>
  intro i hi;cases i with
  | zero=>exact q
  | succ i=>exact ih (i:=i) (by simpa using hi)
theorem Al.pick {as:List Addr}{ks:List (List Int)}(h:Al K H as ks):∀{l:List Nat},(∀i∈l,i<as.length)->Al K H (l.map fun i=>as.getD i 0) (l.map fun i=>ks.getD i [])
 | [],_=>.nil
 | i::l,hl=>.cons (h.at (hl i zR)) (h.pick fun j hj=>hl j (zN _ hj))
theorem Al.den {O:Av}{as:List Addr}{ks:List (List Int)}(h:Al K H as ks):DenL K O H (ks.map tupI) (as.map V.ref):=by
 induction h with
 | nil=>exact g8
 | cons q r ih=>
  refine e8 ?_ ih;unfold tupI;rw[Den];exact⟨_,_,rfl,q,w6 _⟩
end
theorem X6 {K:PySem.W.Frag}{O:Av}{H:Hp}:∀{ds:List D} {ks:List (List Int)} {vs:List V},tupsOf ds=some ks->DenL K O H ds vs->∃as,vs=as.map V.ref/\Al K H as ks
 | [],ks,vs,e,l=>by rw[DenL] at l;subst l;cases e;exact⟨[],rfl,.nil⟩
 | d::ds,ks,vs,e,l=>by
  rw[DenL] at l;obtain⟨v,r,rfl,h,l⟩:=l;cases d<;>simp only[tupsOf] at e<;>try cases e
  rename_i xs;cases e1:intsOf xs with
  | none=>rw[e1] at e;cases e
  | some k=>
   rw[e1] at e;simp only[bind_some] at e;cases e2:tupsOf ds with
   | none=>rw[e2] at e;cases e
   | some ks'=>
    rw[e2] at e;cases e;obtain⟨as,rfl,a⟩:=X6 e2 l;rw[p6 e1,Den] at h;obtain⟨p,us,rfl,q,lu⟩:=h;rw[j9 lu] at q;exact⟨p::as,rfl,.cons q a⟩
section
variable {X:Cx}{pins:List (Addr×PySem.Obj)}{σ:L2.St}{H:Hp}{s:Shared}
theorem Al.tups {as:List Addr}{ks:List (List Int)}(I:Inv X pins σ H s)(h:Al X.K H as ks)(ne:∀k∈ks,k≠[]):Tups s.heap (as.map Value.ref) ks:=by
 induction h with
 | nil=>exact .nil
 | cons q r ih=>
  obtain⟨its,r1,p1,_⟩:=I.tuple q;exact .cons p1 (F4 r1) (ne _ zR) (ih fun k hk=>ne k (zN _ hk))
theorem T7:∀as:List Addr,Vals (as.map V.ref) (as.map Value.ref)
 | []=>.nil
 | a::as=>.cons rfl (T7 as)
theorem Q2:∀{as:List Addr} {us:List Value},Vals (as.map V.ref) us->us=as.map Value.ref
 | [],us,r=>by cases r;rfl
 | a::as,us,r=>by
  cases r with
  | cons h t=>cases h;rw[Q2 t];rfl
theorem a0C {A:Around}{E:Value->Shared->Prop}{as:List Addr}{ks:List (List Int)}{Q:VK}(I:Inv X pins σ H s)(a:Al X.K H as ks)(ne:∀k∈ks,k≠[])(h64:ks.length<64)
  (q:∀l bs,H l=none->Al X.K H bs (sortK ks)->Q (.ref l) (upd H l (.lst (bs.map V.ref)))):
  wpAny (model X.prog X.w) A (call (.builtin "list.sort") [.ref s.heap.objs.size]) (fun _ s'=>EP X pins σ Q (.ref s.heap.objs.size) s') E {s with heap:=s.heap.push (PySem.W.listOf (as.map Value.ref).toArray 0)}:=by
 have I2:Inv X pins σ H {s with heap:=s.heap.push (PySem.W.listOf (as.map Value.ref).toArray 0)}:=I.kept (t':=s.toks) fun b o e=>zC _ e
 obtain⟨m,F⟩:=I2.fr;have T:=a.tups I2 ne;have fr:H s.heap.objs.size=none:=I.hok.fresh (zE _);have hD:(s.heap.push (PySem.W.listOf (as.map Value.ref).toArray 0)).get? s.heap.objs.size=some (PySem.W.listOf (as.map Value.ref).toArray 0):=zL _ rfl;have dL:s.heap.objs.size≠X.env.locals:=xE I.lt;have al:=a.len;have fin:∀(h':Heap) (p:List Nat) (ec:Nat),Fr X.base X.env.locals h' m->(∀b o,b≠X.env.locals->b≠s.heap.objs.size->(s.heap.push (PySem.W.listOf (as.map Value.ref).toArray 0)).get? b=some o->h'.get? b=some o)->
   h'.get? s.heap.objs.size=some (PySem.W.listOf (p.map fun i=>Value.ref (as.getD i 0)).toArray ec)->p.Perm (List.range ks.length)->((p.map fun i=>ks.getD i []).Pairwise fun a b=>HT.lexLt b a=false)->EP X pins σ Q (.ref s.heap.objs.size) {s with heap:=h'}:=fun h' p ec F' kp hD' pp ps=>by
  have lt:∀i∈p,i<as.length:=fun i hi=>by have:=pp.mem_iff.mp hi;rw[al];simpa using this
  have ek:(p.map fun i=>ks.getD i [])=sortK ks:=by
   refine a0G (((pp.map _).trans ?_).trans (X5 ks).symm) ps (a1I ks)
   have:(List.range ks.length).map (fun i=>ks.getD i [])=ks:=by
    apply xQ;intro i
    by_cases hi:i<ks.length
    ·rw[zW,xO hi];simp[hi]
    ·rw[qS (by simp;walk_at "o"),qS (by walk_at "o")]
   rw[this]
  have pk:=a.pick lt;rw[ek] at pk;have kept:∀b o,b≠X.env.locals->s.heap.get? b=some o->h'.get? b=some o:=fun b o hb e=>kp b o hb (zG (zS e)) (zC _ e);have nD:∀b o,s.heap.get? b=some o->b≠s.heap.objs.size:=fun b o e=>zG (zS e);have nH:∀b u,H b=some u->b≠s.heap.objs.size:=fun b u e=>j8 e fr;have nLH:∀b u,H b=some u->b≠X.env.locals:=fun b u e z=>by rw[z,I.free] at e;cases e
  refine⟨.ref s.heap.objs.size,upd H s.heap.objs.size (.lst ((p.map fun i=>as.getD i 0).map V.ref)),?_,rfl,q _ _ fr pk⟩;refine I.step (g':=s.gens) (t':=s.toks) (d':=s.drawn) (ch:=[]) (fun _ z=>nomatch z) (fun b o hL _ _ e _=>kept b o hL e) (fun b o hL _ _ e _=>⟨o.slots,kept b o hL e⟩) (fun b o _ e n=>by rw[c6 (nD b o e)];exact n) (fun b o _ e=>?_)
   (fun b xs e=>by rw[c6 (nH _ _ e)];exact e) (fun b o u e=>by rw[c6 (nH _ _ e)];exact e) (fun b ps e=>⟨#[],by rw[c6 (nH _ _ e),e];simp⟩) (fun m' hm=>?_) (fun b u e=>?_) I.bare
  ·by_cases hL:b=X.env.locals
   ·obtain⟨o',_,_,e',_⟩:=F'.ns;rw[hL];exact⟨o',e'⟩
   ·exact⟨o,kept b o hL e⟩
  ·have e1:m'=m:=by
    have z1:(s.heap.push (PySem.W.listOf (as.map Value.ref).toArray 0)).Ns X.env.locals m':=by
     obtain⟨o,es,ep,e,r⟩:=hm;exact⟨o,es,ep,zC _ e,r⟩
    rw[z1.eq_nsMap,F.ns.eq_nsMap]
   rw[e1];exact F'.ns
  ·by_cases hb:b=s.heap.objs.size
   ·subst hb;rw[j5] at e;cases e;refine⟨?_,(p.map fun i=>as.getD i 0).map Value.ref,ec,T7 _,?_⟩
    ·rw[zD,zD,pp.length_eq,length_range,qY];walk_at "o"
    ·rw[hD'];simp[jB,Function.comp_def]
   ·rw[c6 hb] at e
    refine(I.hok b u e).stay (fun c v hc z=>kept c v (by
     rcases hc with w|w
     ·rw[w];exact nLH b u e
     ·exact nLH c _ w) z) (fun c z=>by rw[c6 (nH _ _ z)];exact z) fun c ys z=>by rw[c6 (nH _ _ z)];exact z
 have gr:∀p:List Nat,(∀i∈p,i<as.length)->(p.map fun i=>(as.map Value.ref).getD i .none)=p.map fun i=>Value.ref (as.getD i 0):=fun p hp=>yN fun i hi=>by simp[hp i hi]
 have tp:∀{vs:List Value} {ks:List (List Int)},Tups s.heap vs ks->∀a,Value.ref a∈vs->∃its,IsTup s.heap a its:=fun{vs ks} t=>by
  induction t with
  | nil=>intro a z;cases z
  | cons x i ne r ih=>
   intro a z;rcases zO.mp z with z|z
   ·cases z;exact⟨_,x⟩
   ·exact ih a z
 have tp:=tp (a.tups I ne)
 by_cases h2:ks.length<2
 ·refine a2O hD (by rw[zD,al];exact h2) fun h' e kp hD'=>fin h' (List.range ks.length) e ⟨?_,fun b o eb=>kp b o (fun z=>?_) (F.keep b o eb),F.above⟩ (fun b o _ hb eb=>kp b o hb eb) ?_ (List.Perm.refl _) ?_
  ·obtain⟨o,es,ep,e1,r⟩:=F.ns;exact⟨o,es,ep,kp _ o (jA dL) e1,r⟩
  ·have:=I.bk b o eb
   exact absurd (zS this) (by rw[z];exact jD _)
  ·rw[hD',<-al];congr 3;apply xQ;intro i
   by_cases hi:i<as.length
   ·rw[zW,zW,xO hi];simp[hi]
   ·rw[qS (by simp;walk_at "o"),qS (by simp;walk_at "o")]
  ·match ks,h2 with
   | [],_=>exact .nil
   | [k],_=>exact List.pairwise_singleton _ _
 ·refine a4z F hD dL ?_ T (fun z=>?_) (fun z=>?_) F.keep (by rw[zD,al];walk_at "o") (by rw[zD,al];walk_at "o") fun h' p e F' kp hD' hp hs=>?_
  ·cases q0:X.base.get? s.heap.objs.size with
   | none=>rfl
   | some o=>exact absurd (zS (I.bk _ o q0)) (jD _)
  ·obtain⟨its,o,e1,_⟩:=tp _ z;exact absurd (zS e1) (jD _)
  ·obtain⟨its,o,e1,_,n,d1⟩:=tp _ z;obtain⟨m2,⟨o2,es,ep,e2,d2,_⟩,_⟩:=id I.loc;rw[e1] at e2;cases e2;rw[d1] at d2;cases d2
  ·have pp:p.toList.Perm (List.range ks.length):=by
    have:=Array.perm_iff_toList_perm.mp hp.perm
    rw[zD,al] at this;simpa using this
   have sz:p.size=ks.length:=by rw[hp.size,zD,al]
   refine fin h' p.toList e F' kp ?_ pp ?_
   ·rw[hD',gr p.toList fun i hi=>by have:=pp.mem_iff.mp hi;rw[al];simpa using this]
   ·rw[xM];intro i j hi hj hij;have hj':j<p.size:=by simpa using hj
    have hi':i<p.size:=by simpa using hi
    have z:=hs i j (Nat.le_of_lt hij) (by rw[zD,al,<-sz];exact hj')
    simp only[List.getElem_map,Array.getElem_toList];unfold Ky at z;have g1:p.getD i 0=p[i]:=by simp[Array.getD,hi']
    have g2:p.getD j 0=p[j]:=by simp[Array.getD,hj']
    rw[g1,g2] at z;exact z
end
def SrcT (K:PySem.W.Frag) (H:Hp) (p:Addr) (ks:List (List Int)):Prop:=(∃as,SqL K H p (as.map V.ref)/\Al K H as ks)\/∃vs,H p=some (.dT ((ks.map fun k=>k.map Sum.inl).zip vs))/\ks.length=vs.length
theorem a9r (k:List Int):(k.map (Sum.inl:Int->Key)).map kV=k.map V.int:=by rw[jB];rfl
theorem a8H {K:PySem.W.Frag}{H:Hp}:∀{ks:List (List Int)} {vs:List V} {xs:List (List Key×Addr×Value)},ks.length=vs.length->KT H ((ks.map fun k=>k.map Sum.inl).zip vs) xs->Al K H (xs.map (·.2.1)) ks
 | [],vs,xs,hl,r=>by
  rw[xY,zip_nil_left] at r;cases r;exact .nil
 | k::ks,[],xs,hl,r=>by simp at hl
 | k::ks,v::vs,xs,hl,r=>by
  rw[zJ,jT] at r;cases r with
  | cons h t=>
   obtain⟨h1,h2,_⟩:=h;rw[zJ];refine .cons (.inl (.inl ?_)) (a8H (by simpa using hl) t)
   rw[h2,a9r]
section
variable {X:Cx}{e:Expr}{pos p:Pos}{fa:FA}
theorem a1L (hc:X.calm=true):CallR X (.builtin "sorted") (fun xs H Q=>∃p ks,xs=[.ref p]/\SrcT X.K H p ks/\ks.length<64/\(∀k∈ks,k≠[])/\∀l bs,H l=none->Al X.K H bs (sortK ks)->Q (.ref l) (upd H l (.lst (bs.map V.ref)))):=by
 intro pins s σ H xs us Q I r h;obtain⟨p,ks,rfl,src,h64,ne,q⟩:=h;obtain⟨u,rfl,ru⟩:=vals1 r;cases ru;refine Calls.call_function_entry kind_sorted plain_sorted entry_sorted (args_sorted1 _) ?_;unfold Builtin.«sorted»;refine zA (m:=checkCount "sorted" 1 1 _) (zB ?_);rcases src with ⟨as,hq,al⟩|⟨vs,hq,hl⟩
 ·have len:=al.len;obtain⟨its,rv,⟨o,m,h1,h2,_,h4⟩,hz⟩:=I.list hq;have ei:=Q2 rv;subst ei;have hL:s.heap.IsList p (as.map Value.ref).toArray:=⟨o,h1,h2,m,h4⟩;have sz:(as.map Value.ref).length<=sizeLine:=by rw[zD,len,qY];walk_at "o"
  refine zA (collect_list hL ?_ sz);refine zA (wpAny_newList ?_ sz);have I1:Inv X pins σ H {s with heap:=(s.heap.push (seqObj "list" #[] 0)).update s.heap.objs.size (PySem.Obj.mapSeq (· ++ (as.map Value.ref).toArray))}:=I.kept (t':=s.toks) fun b o e=>by
   rw[xD _ _ _ _ (zG (zS e))];exact zC _ e
  refine zA (qM (qB (a0C I1 al ne h64 q) (fun _ s' x=>?_) fun _ _ z=>z));exact zB ⟨_,rfl,x⟩
 ·obtain⟨z,hs,xs,rel,o,es,h1,h2,h3,h4,h5⟩:=(show ObjOk X.prog X.w H s.heap p (.dT ((ks.map fun k=>k.map Sum.inl).zip vs)) from I.hok p _ hq);have al:=a8H (K:=X.K) hl rel;have len:=al.len;have sz:es.size=ks.length:=by rw[<-len,zD,<-qD,h4,zD]
  have szl:es.size<=sizeLine:=by rw[sz,qY];walk_at "o"
  refine zA (PySem.W.kdu_collect (a33 (es:=es) hs) (show X.A.in1.handled=none from I.ok.hd hc) ⟨o,h1,h2,h3⟩ szl fun h' tk acc hk hacc=>?_);have ea:acc.toList=(xs.map (·.2.1)).map Value.ref:=by
   have e0:(xs.map (·.2.1)).map Value.ref=es.toList.map (·.key):=by rw[h4,jB,jB];rfl
   rw[e0];apply xQ;intro i;rw[jI,zW,jI]
   by_cases hi:i<es.size
   ·have hi2:i<acc.size:=by rw[hacc.1];exact hi
    obtain⟨e,he,hv⟩:=hacc.2 i acc[i] (by simp[hi2])
    rw[he,Array.getElem?_eq_getElem hi2,hv];rfl
   ·rw[jH (by rw[hacc.1];walk_at "o"),jH (by walk_at "o")];rfl
  rw[ea];refine zA (wpAny_newList ?_ (by rw[zD,len,<-sz];exact szl))
  have I1:Inv X pins σ H {s with heap:=h',toks:=tk}:=I.kept (t':=tk) hk
  refine zA (qM (qB (a0C I1 al ne h64 q) (fun _ s' x=>?_) fun _ _ z=>z));exact zB ⟨_,rfl,x⟩
def inlK:List Key->Option (List Int)
 | []=>some []
 | Sum.inl i::k=>(inlK k).map fun j=>i::j
 | Sum.inr _::_=>none
def inlKs:List (List Key)->Option (List (List Int))
 | []=>some []
 | k::ks=>(inlK k).bind fun j=>(inlKs ks).map fun js=>j::js
theorem a3B:∀{k:List Key} {j:List Int},inlK k=some j->k=j.map Sum.inl
 | [],j,e=>by cases e;rfl
 | Sum.inr _::_,j,e=>by cases e
 | Sum.inl i::k,j,e=>by
  rw[inlK] at e;cases e1:inlK k with
  | none=>rw[e1] at e;cases e
  | some js=>rw[e1] at e;cases e;rw[zJ,<-a3B e1]
theorem a2k:∀{ks:List (List Key)} {js:List (List Int)},inlKs ks=some js->ks=js.map fun k=>k.map Sum.inl
 | [],js,e=>by cases e;rfl
 | k::ks,js,e=>by
  rw[inlKs] at e;cases e1:inlK k with
  | none=>rw[e1] at e;cases e
  | some j=>
   cases e2:inlKs ks with
   | none=>rw[e1,e2] at e;cases e
   | some js'=>rw[e1,e2] at e;cases e;rw[zJ,<-a2k e2,<-a3B e1]
def keysOf:D->Option (List (List Int))
 | .dT ks _=>inlKs ks
 | .lst ds=>tupsOf ds
 | _=>none
def gSortT (d:D):Option W:=(keysOf d).bind fun ks=>if ks.length<64/\(∀k∈ks,k≠[]) then some (.o (.lst ((sortK ks).map tupI))) else none
def gSort (d:D):Option W:=match gSortI d with
 | some w=>some w
 | none=>gSortT d
theorem a24 {K:PySem.W.Frag}{A:Av}{H:Hp}{d:D}{ks:List (List Int)}{v:V}(e:keysOf d=some ks)(h:DenR K A H d v):∃p,v= .ref p/\SrcT K H p ks:=by
 cases d with
 | dT js xs=>
  obtain⟨a,vs,rfl,hq,hl,l⟩:=h;have ej:=a2k e;subst ej;exact⟨a,rfl,.inr ⟨vs,hq,by rw[<-b4 l,<-hl,zD]⟩⟩
 | lst ds=>
  obtain⟨a,vs,rfl,hq,l⟩:=h;obtain⟨as,rfl,al⟩:=X6 e l;exact⟨a,rfl,.inl ⟨as,hq,al⟩⟩
 | _=>cases e
theorem a5v:PrA X (k1 gSortT) (fun xs H Q=>∃p ks,xs=[.ref p]/\SrcT X.K H p ks/\ks.length<64/\(∀k∈ks,k≠[])/\∀l bs,H l=none->Al X.K H bs (sortK ks)->Q (.ref l) (upd H l (.lst (bs.map V.ref)))):=pr1 fun A d w v H Q e h q=>by
 unfold gSortT at e;cases e1:keysOf d with
 | none=>rw[e1] at e;cases e
 | some ks=>
  rw[e1] at e;simp only[bind_some] at e;split at e
  ·rename_i hl;cases e;obtain⟨a,rfl,src⟩:=a24 e1 h;exact⟨a,ks,rfl,src,hl.1,hl.2,fun l bs hp al=>q _ _ (g7 hp _) (v6 hp al.den)⟩
  ·cases e
theorem a7y:PrA X (k1 gSort) (fun xs H Q=>(∃(p:Addr) (ns:List Int),xs=[.ref p]/\SqL X.K H p (ns.map V.int)/\ns.length<64/\∀l,H l=none->Q (.ref l) (upd H l (.lst ((sortI ns).map V.int))))\/
  ∃p ks,xs=[.ref p]/\SrcT X.K H p ks/\ks.length<64/\(∀k∈ks,k≠[])/\∀l bs,H l=none->Al X.K H bs (sortK ks)->Q (.ref l) (upd H l (.lst (bs.map V.ref)))):=fun A ds w vs H Q hA e l q=>by
 match ds,e,l with
 | [d],e,l=>
  have e:gSort d=some w:=e;unfold gSort at e;cases e1:gSortI d with
  | some w'=>rw[e1] at e;cases e;exact .inl (a7a A [d] w vs H Q hA e1 l q)
  | none=>rw[e1] at e;exact .inr (a5v A [d] w vs H Q hA e l q)
theorem a0L {k:Nat}(hr:Room k X.A)(hc:X.calm=true)(hm:X.mg "sorted"=none)(ha:QA X [e] fa)(hv:bootBuiltins "sorted"=some (.builtin "sorted"):=by rfl)(hg:Gl X "sorted":=by rfl)
  (he:starEach [e] X.env=(false,eval e X.env)::starEach [] X.env:=by rfl):QX X (.Call (.Name "sorted" p) [e] [] pos) (fCall (k1 gSort) fa):=Y3 (a1M.or (a1L hc)) a7y hv hm ha hg (by decide) (by decide) he rfl
end
def putTo (k j:Nat) (p:List W×Ev):Option Ev:=(takeAll p.2 p.1).bind fun q=>(dkeys q.1).bind fun kk=>match q.2[j]? with
 | some (some (.v d))=>match ownAt q.2 k with
  | some (.dT ks zs)=>if ks.length<lim/\q.1.length<=lim then some (setOwn q.2 k (.dT (putKs ks kk) (putX ks zs kk d))) else none
  | _=>none
 | _=>none
def turnCD (k:Nat) (gf:FG) (t:FT) (fa:FA) (j:Nat):D->Ev->Option Ev:=fun x ρ=>(gf x ρ).bind fun ρ1=>(t ρ1).bind fun p=>if p.1=true then(fa p.2).bind (putTo k j) else some p.2
section
variable {X:Cx}{a b e o:Expr}{pos p p2:Pos}{f g h:FX}{t u:FT}{x:Str}
theorem a8d:OpR X (binaryOp .Mult) (fun x y H Q=>∃l k xs,x= .ref l/\y= .int k/\SqL X.K H l xs/\-(2^63)<=k/\k<2^63/\xs.length*k.toNat<=sizeLine/\∀p,H p=none->Q (.ref p) (upd H p (.lst (List.replicate k.toNat xs).flatten))):=by
 intro pins s σ H x y v u Q I rx ry h;obtain⟨l,k,xs,rfl,rfl,hH,h1,h2,hz,q⟩:=h;cases rx;obtain⟨t,rfl⟩:=ry;obtain⟨its,r,⟨⟨c1,d1,e1,s1⟩,n,e,k1,_,w1⟩,_⟩:=I.list hH;simp only at k1 w1;subst k1 w1;have hl:=r.length;have hlen:its.toArray.size*k.toNat<=sizeLine:=by rw[zV,<-hl];exact hz
 have hcap:¬its.toArray.size*k.toNat>(2^63-1)/8:=by
  have:(sizeLine:Nat)<=(2^63-1)/8:=by decide
  walk_at "o"
 have hfit:¬(!Builtin.List.listFitsIndex k)=true:=by rw[fitsIndex_both h1 h2];exact zP
 have hlong:¬Builtin.List.listTooLong (its.toArray.size*k.toNat)=true:=by rw[notLongL hlen];exact zP
 have hnew:List.foldl (fun x1 x2=>x1++x2) #[] (List.replicate (if its.toArray.isEmpty=true then 0 else k.toNat) its.toArray)=(List.replicate k.toNat its).flatten.toArray:=by
  have f0:∀m:Nat,List.foldl (fun x1 x2=>x1++x2) #[] (List.replicate m its.toArray)=(List.replicate m its).flatten.toArray:=fun m=>by
   have:=a0V its m []
   rw[nil_append] at this;exact this
  rw[f0];cases its with
  | nil=>simp
  | cons a r'=>rw[if_neg (by simp)]
 refine wpAny_binaryOp_repeat_ref (T:="list") (U:="int") (by decide) ⟨_,e,rfl⟩ (fun s'=>typeIs_int s' k t) noFill_list_mul F.fills_int_mul F.slot_int_rmul repeat_list F.slot_int_index.lookup
  (call_meets F.slot_int_rmul (typeIs_int s k t) F.entry_int_rmul (F.args_int_rmul_2 _ _) (lm_int_rmul_list_any k t l its.toArray n d1 s1)
   ⟨e,rfl,⟨_,e,rfl⟩,call_meets F.slot_list_mul ⟨_,e,rfl⟩ F.entry_list_mul (F.args_list_mul_2 _ _) (lm_list_mul_any l its.toArray n d1 s1 k t hfit hcap hlong) ⟨e,?_⟩⟩)
 rw[hnew];exact⟨.ref _,_,I.lnew (t':=s.toks) (r.rep k.toNat) (by rw[a7J,Nat.mul_comm];exact hz),rfl,q _ I.fresh⟩
def oRep (x y:D):Option W:=match x,y with
 | .lst xs,.int k=>if(-(2^63)<=k/\k<2^63)/\xs.length*k.toNat<=lim then some (.o (.lst (List.replicate k.toNat xs).flatten)) else none
 | _,_=>none
theorem a2s {K:PySem.W.Frag}{A:Av}{H:Hp}{xs:List D}{vs:List V}(l:DenL K A H xs vs):∀n:Nat,DenL K A H (List.replicate n xs).flatten (List.replicate n vs).flatten
 | 0=>by simp;exact g8
 | n+1=>by rw[xN,xN,flatten_cons,flatten_cons];exact k6 l (a2s l n)
theorem a9z (ha:QX X a f)(hb:QX X b g):QX X (.BinOp a .Mult b pos) (fBin oRep f g):=N0 a8d (by
 intro A x y w v u H Q _ e hx hy q;unfold oRep at e;split at e
 ·rename_i xs k;split at e
  ·rename_i hk;cases e;obtain⟨a,vs,rfl,hq,l⟩:=hx;exact⟨a,k,vs,rfl,g5 hy,hq,hk.1.1,hk.1.2,by rw[<-b4 l];exact qH hk.2 t6,fun p hp=>q _ _ (g7 hp _) (v6 hp (a2s l _))⟩
  ·cases e
 ·cases e) ha hb
def oBits:D->Option W
 | .int i=>some (.v (.int (Builtin.Int.intBits i:Nat)))
 | _=>none
def fDPutT (fd:FX) (fk:FA) (fv:FX):FS:=fun ρ=>(fv ρ).bind fun p=>(fd p.2).bind fun q=>match q.1 with
 | .r i=>(fk q.2).bind fun z=>(takeAll z.2 (p.1.fz::z.1)).bind fun y=>match y.1 with
  | d::ds=>(dkeys ds).bind fun k=>match ownAt y.2 i with
   | some (.dT ks xs)=>if ks.length<lim/\ds.length<=lim then some (.nx (setOwn y.2 i (.dT (putKs ks k) (putX ks xs k d)))) else none
   | _=>none
  | _=>none
 | _=>none
def fDPutK (fd fk fv:FX):FS:=fun ρ=>(fv ρ).bind fun p=>(fd p.2).bind fun q=>match q.1 with
 | .r i=>(fk q.2).bind fun z=>(takeAll z.2 [p.1.fz,z.1.fz]).bind fun y=>match y.1 with
  | [d,kd]=>(dkey kd).bind fun k=>match ownAt y.2 i with
   | some (.dK ks xs)=>if ks.length<lim then some (.nx (setOwn y.2 i (.dK (putKs ks k) (putX ks xs k d)))) else none
   | _=>none
  | _=>none
 | _=>none
theorem X8 {k:Nat}{i':Expr}{p2:Pos}(hr:Room k X.A)(hd:QX X o f)(ha:QX X i' h)(hv:QX X e g)(hs:swapsWith e (some (.Subscript o i' p2)) pos.line X.env=pure false:=by rfl):
  QS X (.Assign [.Subscript o i' p2] e pos) (fDPutK f h g):=by
 refine⟨PS.weak (a7n (a3I hr) hd.to ha.to hv.to hs) fun E σ H h0=>tSe h0 fun P O L ρ r rp e q=>?_⟩;unfold fDPutK at e;obtain⟨⟨w1,ρ1⟩,e1,e⟩:=obs e;dsimp only at e;obtain⟨⟨w2,ρ2⟩,e2,e⟩:=obs e;dsimp only at e;split at e
 ·rename_i i;obtain⟨⟨w3,ρ3⟩,e3,e⟩:=obs e;dsimp only at e;obtain⟨⟨dl,ρ4⟩,e4,e⟩:=obs e;dsimp only at e;split at e
  ·rename_i d kd;cases e5:dkey kd with
   | none=>rw[e5] at e;cases e
   | some kk=>
    rw[e5] at e;simp only[bind_some] at e;split at e
    ·rename_i ks xs e6;split at e
     ·rename_i hl;cases e;refine⟨P,O,L,ρ,w1,ρ1,rp,e1,fun v H1 H1' r1 s1 d1=>?_⟩;obtain⟨P',r1',k1⟩:=hold (r1.grow s1) (d1.fz r1 s1);refine⟨P',O,L,ρ1,_,ρ2,r1',e2,fun v2 H2 H2' r2 s2 d2=>?_⟩;have d2:σ[i]? =some (some v2):=d2;refine⟨P',O,L,ρ2,w3,ρ3,r2.grow s2,e3,fun u3 H3 H3' r3 s3 d3=>?_⟩;have d3':=d3.fz r3 s3;obtain⟨r3',dv⟩:=k1 _ H3' (r3.grow s3);obtain⟨r4,l4,_⟩:=m5 (vs:=[v,u3]) r3' e4 ⟨v,[u3],rfl,dv,u3,[],rfl,d3',rfl⟩;obtain⟨v',u',ev,hd',hk'⟩:=denL2 l4;cases ev;have ek:=X7 e5 (B6 hk');subst ek;obtain⟨w0,q0,ow⟩:=m3 e6;obtain⟨a,h1,vs,h4,hkl,lz⟩:=r4.obj q0 ow;rw[d2] at h1;cases h1;have hlv:ks.length=vs.length:=by rw[hkl,b4 lz]
      refine⟨a,_,rfl,DPut.k (k:=kk) h4 ?_,?_⟩
      ·rw[List.length_zip,hlv,Nat.min_self,<-hlv];exact zF hl t6
      ·rw[a7R hlv];have g0:∀u,Go (AvO O ρ4 σ) (AvO O ρ4 σ) (fun b=>b=a) H3' (upd H3' a u):=fun u=>⟨fun b o eb nb=>by rw[c6 nb];exact eb,fun b z=>by rw[z];exact⟨.inr ⟨i,w0,_,q0,ow,d2⟩,_,h4,trivial⟩,fun b z=>.inl z⟩
       exact q σ _ (r4.mut (d:=.dK (putKs ks kk) (putX ks xs kk d)) e6 d2 (fun b o eb nb=>by rw[c6 nb];exact eb) ⟨_,j5,a2o hkl,m6 (g0 _) _ _ (a56 lz hd')⟩)
     ·cases e
    ·cases e
  ·cases e
 ·cases e
end
def kd1:Key->D
 | .inl i=>.int i
 | .inr x=>.str x
def keyD (k:List Key):D:=.tup (k.map kd1)
theorem a75 {K:PySem.W.Frag}{A:Av}{H:Hp}(k:Key):Den K A H (kd1 k) (kV k):=by
 cases k with
 | inl i=>exact q8.mpr rfl
 | inr x=>exact W8.mpr rfl
theorem a1U {K:PySem.W.Frag}{A:Av}{H:Hp}:∀ks:List Key,DenL K A H (ks.map kd1) (ks.map kV)
 | []=>g8
 | k::ks=>by rw[zJ,zJ];exact e8 (a75 k) (a1U ks)
inductive KeysAt (H:Hp):List (List Key)->List Addr->Prop where
 | nil:KeysAt H [] []
 | cons {k:List Key} {ks:List (List Key)} {b:Addr} {bs:List Addr} (q:H b=some (.tup (k.map kV))) (r:KeysAt H ks bs):KeysAt H (k::ks) (b::bs)
theorem a09 {H:Hp}:∀{kvs:List (List Key×V)} {xs:List (List Key×Addr×Value)},KT H kvs xs->KeysAt H (kvs.map (·.1)) (xs.map (·.2.1))
 | _,_,.nil=>.nil
 | _,_,.cons h t=>.cons h.2.1 (a09 t)
theorem KeysAt.den {K:PySem.W.Frag}{A:Av}{H:Hp}:∀{ks:List (List Key)} {bs:List Addr},KeysAt H ks bs->DenL K A H (ks.map keyD) (bs.map V.ref)
 | _,_,.nil=>g8
 | _,_,.cons q r=>by
  rw[zJ,zJ];refine e8 ?_ r.den;unfold keyD;rw[Den];exact⟨_,_,rfl,.inl (.inl q),a1U _⟩
section
variable {X:Cx}{a e e' o:Expr}{es:List Expr}{pos p apos:Pos}{f h:FX}{u:FT}{fa:FA}{x:Str}
theorem a1P (hc:X.calm=true):CallR X (.type "list") (fun vs H Q=>∃(p:Addr) (kvs:List (List Key×V)),vs=[.ref p]/\H p=some (.dT kvs)/\∀l bs,H l=none->KeysAt H (kvs.map (·.1)) bs->Q (.ref l) (upd H l (.lst (bs.map V.ref)))):=by
 intro pins s σ H vs us Q I r h;obtain⟨p,kvs,rfl,hq,q⟩:=h;obtain⟨u,rfl,ru⟩:=vals1 r;cases ru;obtain⟨z,hs,xs,rel,o,es,h1,h2,h3,h4,h5⟩:=(show ObjOk X.prog X.w H s.heap p (.dT kvs) from I.hok p _ hq);have len:kvs.length=xs.length:=xX rel;have sz:es.size=xs.length:=by rw[<-qD,h4,zD]
 have szl:es.size<=sizeLine:=by rw[sz,<-len];exact z
 refine PySem.W.kdl_call (a33 (es:=es) hs) (I.ok.hd hc) ⟨o,h1,h2,h3⟩ szl fun h' tk acc c' hk hS hacc=>?_;have ea:acc.toList=(xs.map (·.2.1)).map Value.ref:=by
  have e0:(xs.map (·.2.1)).map Value.ref=es.toList.map (·.key):=by rw[h4,jB,jB];rfl
  rw[e0];apply xQ;intro i;rw[jI,zW,jI]
  by_cases hi:i<es.size
  ·have hi2:i<acc.size:=by rw[hacc.1];exact hi
   obtain⟨e,he,hv⟩:=hacc.2 i acc[i] (by simp[hi2])
   rw[he,Array.getElem?_eq_getElem hi2,hv];rfl
  ·rw[jH (by rw[hacc.1];walk_at "o"),jH (by walk_at "o")];rfl
 refine⟨.ref s.heap.objs.size,_,I.laid (t':=tk) (o:=.lst ((xs.map (·.2.1)).map V.ref)) hk (zE _) ⟨?_,acc.toList,c',?_,by rw[Array.toArray_toList];exact hS⟩,rfl,q _ _ (I.hok.fresh (zE _)) (a09 rel)⟩
 ·rw[zD,zD,<-len];exact z
 ·rw[ea];exact T7 _
def gListD:D->Option W
 | .dT ks _=>some (.o (.lst (ks.map keyD)))
 | d=>gList d
theorem a3a {α:Type}:∀{ks:List α} {vs:List V},ks.length=vs.length->(ks.zip vs).map (·.1)=ks
 | [],_,_=>by simp
 | _::_,[],h=>by simp at h
 | k::ks,v::vs,h=>by rw[jT,zJ,a3a (by simpa using h)]
theorem a6c:PrA X (k1 gListD) (fun xs H Q=>(∃p ys,xs=[.ref p]/\(SqL X.K H p ys\/SqT X.K H p ys)/\∀l,H l=none->Q (.ref l) (upd H l (.lst ys)))\/
  ∃(p:Addr) (kvs:List (List Key×V)),xs=[.ref p]/\H p=some (.dT kvs)/\∀l bs,H l=none->KeysAt H (kvs.map (·.1)) bs->Q (.ref l) (upd H l (.lst (bs.map V.ref)))):=fun A ds w vs H Q hA e l q=>by
 match ds,e,l with
 | [d],e,l=>
  have e:gListD d=some w:=e
  by_cases hd:∃ks xs,d= .dT ks xs
  ·obtain⟨ks,xs,rfl⟩:=hd;cases e;obtain⟨v,rfl,h⟩:=denRL1 l;obtain⟨a,us,rfl,hq,hl,lu⟩:=h;refine .inr ⟨a,_,rfl,hq,fun l bs hp hk=>q _ _ (g7 hp _) (v6 hp ?_)⟩;rw[a3a (by rw[hl,b4 lu])] at hk
   exact hk.den
  ·have e':gList d=some w:=by
    cases d<;>first|exact e|exact absurd ⟨_,_,rfl⟩ hd
   exact .inl (a73 A [d] w vs H Q hA e' l q)
theorem a5t (hc:X.calm=true)(hm:X.mg "list"=none)(ha:QA X (e::es) fa)(hv:bootBuiltins "list"=some (.type "list"):=by rfl)(hg:Gl X "list":=by rfl)
  (he:starEach (e::es) X.env=(false,eval e X.env)::starEach es X.env:=by rfl) (hpl:(backTo pos (starEach es X.env)).any (·.1)=false:=by rfl):QX X (.Call (.Name "list" p) (e::es) [] pos) (fCall (k1 gListD) fa):=a2e (a1z.or (a1P hc)) a6c hv hm ha hg (by decide) (by decide) he hpl
theorem a9P {id:String}{m:Str}{r:V->List V->Hp->VK->Prop}{op:List D->List D->Option (W×List D)}(hs0:Slot "list" m id)(ht0:typeOf (.builtin id)=pure (.type "method_descriptor"))(hm:MtR X id r)(hk:PrM X op r)(hw:∀xs ds w ys,op xs ds=some (w,ys)->∃d,w= .v d)
  (ho:QX X o f) (ha:QA X (e::es) fa) (hbase:attributeBase o m X.env (eval o X.env)=eval o X.env)
  (hfew:((backTo pos (starEach (e::es) X.env)).all (fun x=>!x.1)&&(backToKw pos (keywordEach [] X.env)).all (fun x=>x.1.isSome)&&decide ((e::es).length+([]:List Keyword).length+(if([]:List Keyword).isEmpty then 0 else 1)<30))=true)
  (hline:(apos.endLine==pos.line)=true) (hs:starEach (e::es) X.env=(false,eval e X.env)::starEach es X.env) (hpl:(backTo pos (starEach es X.env)).any (·.1)=false):QX X (.Call (.Attribute o m apos) (e::es) [] pos) (fMut op f fa):=
 ⟨PE.weak (a85 PySem.F.plainAttrs_list hs0 ht0 hm ho.to ha.to hbase hfew hline hs hpl) (a13 hk hw)⟩
def mExt (xs ds:List D):Option (W×List D):=match ds with
 | [d]=>(items d).bind fun ys=>if xs.length+ys.length<=lim then some (.v .non,xs++ys) else none
 | _=>none
end
section
variable {f g h:FX}{t:FT}{fa:FA}{ρ ρ1:Ev}{w z:W}{ws:List W}{d e x y:D}{ds xs ys:List D}{i j k:Nat}{m n:Int}{b:Bool}{kl:List (List Key)}{kk:List Key}{kq:List Key}{kx:Key}
theorem a5f:oIxG (.tup xs) d=oIx (.tup xs) d:=rfl
theorem a5n:oIxG (.lst xs) d=oIx (.lst xs) d:=rfl
theorem a9w (hk:dkey d=some kx)(hl:look kq xs kx=some e):oIxG (.dK kq xs) d=some (.v e):=by
 unfold oIxG;simp only[isDi,qW,lookG,hk,jJ,bind_some,hl]
theorem a7E {ns:List Int}(hi:intsOf xs=some ns):oInG b (.int n) (.tup xs)=some (nb b (decide (n∈ns))):=by
 unfold oInG;simp only[isDi,qQ,jK,items,bind_some,hi,jJ]
theorem a35 {ns:List Int}{js:List (List Int)}(hx:intsOf ds=some ns)(hi:tupsOf xs=some js):oInG b (.tup ds) (.lst xs)=some (nb b (decide (ns∈js))):=by
 unfold oInG;simp only[isDi,qQ,jK,hx,items,bind_some,hi,jJ]
theorem nb_f {k:Bool}:nb false k= .v (.bl k):=rfl
theorem nb_t {k:Bool}:nb true k= .v (.bl (!k)):=rfl
def ge2 (fa:FA):Option (W×Ev)->Option (W×Ev)
 | some p=>fGet (fun _=>some p) fa p.2
 | none=>none
def ge3 (fa:FA) (w:W) (ρ:Ev):Option D->Option (W×Ev)
 | some d=>if isDi d=true then(fa ρ).bind fun q=>(takeAll q.2 q.1).bind fun z=>(dr z.2 w.fz).bind fun x=>match z.1 with
  | [y,e]=>(lookG x y).map fun r=>(.v (r.getD e),z.2)
  | _=>none
  else none
 | none=>none
def ge4 (w:W):Option (List W×Ev)->Option (W×Ev)
 | some q=>(takeAll q.2 q.1).bind fun z=>(dr z.2 w.fz).bind fun x=>match z.1 with
  | [y,e]=>(lookG x y).map fun r=>(.v (r.getD e),z.2)
  | _=>none
 | none=>none
def ge5 (w:W):Option (List D×Ev)->Option (W×Ev)
 | some z=>(dr z.2 w.fz).bind fun x=>match z.1 with
  | [y,e]=>(lookG x y).map fun r=>(.v (r.getD e),z.2)
  | _=>none
 | none=>none
def ge6 (y e:D) (ρ:Ev):Option D->Option (W×Ev)
 | some x=>(lookG x y).map fun r=>(.v (r.getD e),ρ)
 | none=>none
theorem r_ge:fGet f fa ρ=ge2 fa (f ρ):=by unfold ge2;cases e:f ρ with
 | none=>unfold fGet;rw[e];rfl
 | some p=>unfold fGet;rw[e]
theorem r_ge2:ge2 fa (some (w,ρ))=ge3 fa w ρ (dr ρ w.fz):=by unfold ge2 ge3 fGet;dsimp only[bind_some];cases dr ρ w.fz<;>rfl
theorem r_ge3_T:ge3 fa w ρ (some (.dT kl xs))=ge4 w (fa ρ):=by unfold ge3 ge4;simp only[isDi,qW];cases fa ρ<;>rfl
theorem r_ge3_K:ge3 fa w ρ (some (.dK kq xs))=ge4 w (fa ρ):=by unfold ge3 ge4;simp only[isDi,qW];cases fa ρ<;>rfl
theorem r_ge4:ge4 w (some (ws,ρ))=ge5 w (takeAll ρ ws):=by unfold ge4 ge5;dsimp only;cases takeAll ρ ws<;>rfl
theorem r_ge5:ge5 w (some ([y,e],ρ))=ge6 y e ρ (dr ρ w.fz):=by unfold ge5 ge6;dsimp only;cases dr ρ w.fz<;>rfl
def dp2 (fd:FX) (fk:FA):Option (W×Ev)->Option R
 | some p=>fDPutT fd fk (fun _=>some p) p.2
 | none=>none
def dp3 (w:W) (fk:FA):Option (W×Ev)->Option R
 | some q=>match q.1 with
  | .r i=>(fk q.2).bind fun z=>(takeAll z.2 (w.fz::z.1)).bind fun y=>match y.1 with
   | d::ds=>(dkeys ds).bind fun k=>match ownAt y.2 i with
    | some (.dT ks xs)=>if ks.length<lim/\ds.length<=lim then some (.nx (setOwn y.2 i (.dT (putKs ks k) (putX ks xs k d)))) else none
    | _=>none
   | _=>none
  | _=>none
 | none=>none
def dp4 (w:W) (i:Nat):Option (List W×Ev)->Option R
 | some z=>(takeAll z.2 (w.fz::z.1)).bind fun y=>match y.1 with
   | d::ds=>(dkeys ds).bind fun k=>match ownAt y.2 i with
    | some (.dT ks xs)=>if ks.length<lim/\ds.length<=lim then some (.nx (setOwn y.2 i (.dT (putKs ks k) (putX ks xs k d)))) else none
    | _=>none
   | _=>none
 | none=>none
def dp5 (i:Nat):Option (List D×Ev)->Option R
 | some y=>match y.1 with
   | d::ds=>(dkeys ds).bind fun k=>match ownAt y.2 i with
    | some (.dT ks xs)=>if ks.length<lim/\ds.length<=lim then some (.nx (setOwn y.2 i (.dT (putKs ks k) (putX ks xs k d)))) else none
    | _=>none
   | _=>none
 | none=>none
def dp6 (i:Nat) (d:D) (ds:List D) (ρ:Ev):Option (List Key)->Option D->Option R
 | some k,some (.dT ks xs)=>if ks.length<lim/\ds.length<=lim then some (.nx (setOwn ρ i (.dT (putKs ks k) (putX ks xs k d)))) else none
 | _,_=>none
theorem r_dp:fDPutT f fa g ρ=dp2 f fa (g ρ):=by unfold dp2;cases e:g ρ with
 | none=>unfold fDPutT;rw[e];rfl
 | some p=>unfold fDPutT;rw[e]
theorem r_dp2:dp2 f fa (some (w,ρ))=dp3 w fa (f ρ):=by unfold dp2 dp3 fDPutT;dsimp only[bind_some];cases f ρ<;>rfl
theorem r_dp3:dp3 w fa (some (.r i,ρ))=dp4 w i (fa ρ):=by unfold dp3 dp4;dsimp only;cases fa ρ<;>rfl
theorem r_dp4:dp4 w i (some (ws,ρ))=dp5 i (takeAll ρ (w.fz::ws)):=by unfold dp4 dp5;dsimp only;cases takeAll ρ (w.fz::ws)<;>rfl
theorem r_dp5:dp5 i (some (d::ds,ρ))=dp6 i d ds ρ (dkeys ds) (ownAt ρ i):=by
 unfold dp5 dp6;dsimp only;cases dkeys ds with
 | none=>cases ownAt ρ i<;>rfl
 | some k=>
  dsimp only[bind_some];cases ownAt ρ i with
  | none=>rfl
  | some x=>cases x<;>rfl
theorem r_dp6:dp6 i d ds ρ (some kk) (some (.dT kl xs))=if kl.length<lim/\ds.length<=lim then some (.nx (setOwn ρ i (.dT (putKs kl kk) (putX kl xs kk d)))) else none:=rfl
theorem dks_0:dkeys []=some []:=rfl
theorem dks_i:dkeys (.int m::ds)=(dkeys ds).map fun ks=>Sum.inl m::ks:=by rw[dkeys];rfl
theorem r_dnT:fDNewT ρ=some (.o (.dT [] []),ρ):=rfl
theorem o_rep (h:(-(2^63)<=n/\n<2^63)/\xs.length*n.toNat<=lim):oRep (.lst xs) (.int n)=some (.o (.lst (List.replicate n.toNat xs).flatten)):=if_pos h
theorem o_bits:oBits (.int n)=some (.v (.int (Builtin.Int.intBits n:Nat))):=by cases n<;>exact rfl
theorem r_ext:mExt xs [d]=(items d).bind fun ys=>if xs.length+ys.length<=lim then some (.v .non,xs++ys) else none:=rfl
theorem b0j:gListD (.dT kl xs)=some (.o (.lst (kl.map keyD))):=rfl
theorem b0m:gListD (.lst xs)=some (.o (.lst xs)):=rfl
theorem a0U:gListD (.tup xs)=some (.o (.lst xs)):=rfl
theorem a7h {ks:List (List Int)}(hi:gSortI (.lst xs)=none)(ht:tupsOf xs=some ks)(h64:ks.length<64)(ne:∀k∈ks,k≠[]):gSort (.lst xs)=some (.o (.lst ((sortK ks).map tupI))):=by
 unfold gSort gSortT;rw[hi];simp only[keysOf,ht,bind_some];exact if_pos ⟨h64,ne⟩
theorem a4F {k:List Int}{ks:List (List Int)}:gSortI (.lst ((k::ks).map tupI))=none:=rfl
theorem a2d {ks:List (List Int)}(h64:ks.length<64)(ne:∀k∈ks,k≠[]):gSort (.lst (ks.map tupI))=some (.o (.lst ((sortK ks).map tupI))):=by
 cases ks with
 | nil=>simp[gSort,gSortI,intsOf,sortI,sortK]
 | cons k ks=>exact a7h a4F (F2 _) h64 ne
def td2 (k j:Nat) (t:FT) (fa:FA):Option Ev->Option Ev
 | some ρ1=>(t ρ1).bind fun p=>if p.1=true then(fa p.2).bind (putTo k j) else some p.2
 | none=>none
def td3 (k j:Nat) (fa:FA):Option (Bool×Ev)->Option Ev
 | some p=>if p.1=true then(fa p.2).bind (putTo k j) else some p.2
 | none=>none
def td4 (k j:Nat):Option (List W×Ev)->Option Ev
 | some p=>putTo k j p
 | none=>none
def pt2 (k j:Nat):Option (List D×Ev)->Option Ev
 | some q=>(dkeys q.1).bind fun kk=>match q.2[j]? with
  | some (some (.v d))=>match ownAt q.2 k with
   | some (.dT ks zs)=>if ks.length<lim/\q.1.length<=lim then some (setOwn q.2 k (.dT (putKs ks kk) (putX ks zs kk d))) else none
   | _=>none
  | _=>none
 | none=>none
def pt3 (k:Nat) (n:Nat) (ρ:Ev):Option (List Key)->Option (Option W)->Option D->Option Ev
 | some kk,some (some (.v d)),some (.dT ks zs)=>if ks.length<lim/\n<=lim then some (setOwn ρ k (.dT (putKs ks kk) (putX ks zs kk d))) else none
 | _,_,_=>none
theorem r_td {gf:FG}:turnCD k gf t fa j d ρ=td2 k j t fa (gf d ρ):=by unfold turnCD td2;cases gf d ρ<;>rfl
theorem r_td2:td2 k j t fa (some ρ)=td3 k j fa (t ρ):=by unfold td2 td3;dsimp only;cases t ρ<;>rfl
theorem r_td3:td3 k j fa (some (true,ρ))=td4 k j (fa ρ):=by unfold td3 td4;simp only[qW];cases fa ρ<;>rfl
theorem r_td4:td4 k j (some (ws,ρ))=pt2 k j (takeAll ρ ws):=by unfold td4 putTo pt2;dsimp only;cases takeAll ρ ws<;>rfl
theorem r_pt2:pt2 k j (some (ds,ρ))=pt3 k ds.length ρ (dkeys ds) ρ[j]? (ownAt ρ k):=by
 unfold pt2 pt3;dsimp only;cases dkeys ds with
 | none=>rfl
 | some kk=>
  dsimp only[bind_some];cases ρ[j]? with
  | none=>rfl
  | some o=>
   cases o with
   | none=>rfl
   | some w=>
    cases w with
    | v d=>
     cases ownAt ρ k with
     | none=>rfl
     | some x=>cases x<;>rfl
    | _=>rfl
theorem r_pt3 {n:Nat}:pt3 k n ρ (some kk) (some (some (.v d))) (some (.dT kl xs))=if kl.length<lim/\n<=lim then some (setOwn ρ k (.dT (putKs kl kk) (putX kl xs kk d))) else none:=rfl
end
abbrev Tie:=Int×Int×Int
def tieD (t:Tie):D:=.tup [.int t.1,.int t.2.1,.int t.2.2]
def webD (n:Int) (ts:List Tie):D:=.tup [.int n,.tup (ts.map tieD)]
structure WebOk (n:Int) (ts:List Tie):Prop where
 n1:1<=n/\n<=8
 t:∀t∈ts,0<=t.1/\t.1<t.2.1/\t.2.1<n/\1<=t.2.2/\t.2.2<=10^15
 nd:(ts.map fun t=>(t.1,t.2.1)).Nodup
 len:ts.length<=55
theorem B5 (ts:List Tie):lfL (ts.map tieD)=true:=m7 fun x hx=>by
 obtain⟨t,_,rfl⟩:=zY.mp hx;rfl
theorem Z5 (n:Int)(ts:List Tie):lf (webD n ts)=true:=by
 unfold webD;simp only[lf,lfL,B5,Bool.and_self]
theorem n6 {C:Prop}{b:D->FS}{xs:List D}{ρ:Ev}{r:Option R}(e:loopF b xs ρ=r)(I:Nat->Ev->Prop)(h0:I 0 ρ)(st:∀i x ρ,xs[i]? =some x->I i ρ->∃ρ',b x ρ=some (.nx ρ')/\I (i+1) ρ')(c:∀ρ',r=some (.nx ρ')->I xs.length ρ'->C):C:=by
 have key:∀(ys:List D) (k:Nat) (ρ:Ev),xs.drop k=ys->I k ρ->k<=xs.length->∃ρ',loopF b ys ρ=some (.nx ρ')/\I xs.length ρ':=by
  intro ys
  induction ys with
  | nil=>
   intro k ρ hk h hl
   have:k=xs.length:=by
    have:=List.drop_eq_nil_iff.mp hk;walk_at "o"
   exact⟨ρ,rfl,this▸h⟩
  | cons y ys ih=>
   intro k ρ hk h hl;have hx:xs[k]? =some y:=by
    have:=xG (·[0]?) hk
    simpa using this
   have lt:=(zK.mp hx).1;obtain⟨ρ1,e1,i1⟩:=st k y ρ hx h;obtain⟨ρ2,e2,i2⟩:=ih (k+1) ρ1 (by rw[<-List.drop_drop,hk];rfl) i1 lt
   exact⟨ρ2,by rw[loopF,e1];exact e2,i2⟩
 obtain⟨ρ',e',i⟩:=key xs 0 ρ (by simp) h0 (jW _)
 exact c ρ' (e.symm.trans e') i
theorem N4 {m:Int}{n i:Nat}{x:D}(h:(rngD m n)[i]? =some x):x= .int (m+i)/\i<n:=by
 unfold rngD at h;rw[zW] at h
 by_cases hi:i<n
 ·rw[xO hi] at h;cases h;exact⟨rfl,hi⟩
 ·rw[qS (by simpa using hi)] at h;cases h
def Sm (n:Int):Prop:=0<n/\n.natAbs<2^390
theorem Sm.pos {n:Int}(h:Sm n):0<n:=h.1
def Pot (b:Nat) (d:D):Prop:=∃r c s:Int,d= .lst [.int r,.int c,.int s]/\0<=c/\c<=b/\0<=s/\s<2147483647
theorem Pot.mono {b b':Nat}{d:D}(h:Pot b d)(hb:b<=b'):Pot b' d:=by
 obtain⟨r,c,s,e,h1,h2,h3⟩:=h;exact⟨r,c,s,e,h1,by walk_at "o",h3⟩
theorem Pot.lf {b:Nat}{d:D}(h:Pot b d):lfC d=true:=by obtain⟨r,c,s,rfl,_⟩:=h;rfl
section
variable {ρ:Ev}{i:Nat}{d:D}{xs:List D}
def fn2 (ρ:Ev):Option (Option W)->Option (List D×Ev)
 | some (some (.v d))=>(items d).map fun xs=>(xs,ρ)
 | some (some (.r _))=>none
 | some (some w)=>match w.own with
  | some (.lst xs)=>some (xs,ρ)
  | _=>none
 | _=>none
def fn3 (ρ:Ev):Option (List D)->Option (List D×Ev)
 | some xs=>some (xs,ρ)
 | none=>none
theorem r_fn:fiName i ρ=fn2 ρ ρ[i]?:=by
 unfold fiName fn2;cases ρ[i]? with
 | none=>rfl
 | some o=>cases o with
  | none=>rfl
  | some w=>cases w<;>rfl
theorem a6r:fn2 ρ (some (some (.v d)))=fn3 ρ (items d):=by
 show(items d).map _=_;unfold fn3;cases items d<;>rfl
theorem a6Z:fn2 ρ (some (some (.o (.lst xs))))=some (xs,ρ):=rfl
theorem r_fn_l:fn2 ρ (some (some (.l (.lst xs))))=some (xs,ρ):=rfl
theorem a8C:fn3 ρ (some xs)=some (xs,ρ):=rfl
end
mutual
def toP:D->PyData
 | .non=>.none
 | .bl b=>.bool b
 | .int i=>.int i
 | .str x=>.str x
 | .tup xs=>.tuple (toPs xs)
 | .lst xs=>.list (toPs xs)
 | _=>.none
def toPs:List D->List PyData
 | []=>[]
 | x::xs=>toP x::toPs xs
end
section
open Classical in
end
section
variable {X:Cx}{a:Expr}{f:FX}{pos:Pos}
theorem a7V {ta:TE}(ha:PE X a ta):PE X (.UnaryOp .Not a pos) (fun σ H Q=>ta σ H fun x H'=>∃k,TruV X.K x H' k/\Q (.bl (!k)) H'):=by
 intro pins s σ H Q I h;refine UnaryOp_ (thn (ha pins s σ H _ I h) fun v s1 ⟨x,H1,I1,r1,q1⟩=>?_);obtain⟨k,q1,q2⟩:=q1;exact not_of (qB (a5j pins s1 σ H1 x v (fun k' H'=>Q (.bl (!k')) H') I1 r1 ⟨k,q1,q2⟩) (fun b s2 ⟨H2,I2,q3⟩=>⟨.bl (!b),H2,I2,rfl,q3⟩) (fun _ _ z=>z))
def fNotT (f:FX):FX:=fun ρ=>(fTru f ρ).map fun p=>(.v (.bl (!p.1)),p.2)
theorem a8a (ha:QX X a f):QX X (.UnaryOp .Not a pos) (fNotT f):=⟨PE.weak (a7V ha.to) fun σ H Q h0=>tXe h0 fun P O L ρ w0 ρ' r e q=>by
 unfold fNotT fTru at e;cases e1:f ρ with
 | none=>rw[e1] at e;cases e
 | some p=>
  obtain⟨w,ρ1⟩:=p;rw[e1] at e;simp only[bind_some] at e;cases e2:dr ρ1 w.fz with
  | none=>rw[e2] at e;cases e
  | some d=>
   rw[e2] at e;simp only[bind_some] at e;cases e3:truth d with
   | none=>rw[e3] at e;cases e
   | some k'=>
    rw[e3] at e;cases e
    exact⟨P,O,L,ρ,w,_,r,e1,fun v H1 H' r1 s1 d1=>⟨k',a4e e3 (C4 (r1.grow s1) e2 (d1.fz r1 s1)),q _ H' H' (r1.grow s1) (Same.refl _) t8⟩⟩⟩
end
section
variable {f:FX}{ρ:Ev}{k:Bool}
def nt2:Option (Bool×Ev)->Option (W×Ev)
 | some p=>some (.v (.bl (!p.1)),p.2)
 | none=>none
theorem r_nt:fNotT f ρ=nt2 (tru2 (f ρ)):=by unfold fNotT;rw[a5r];unfold nt2;cases tru2 (f ρ)<;>rfl
theorem a8G:nt2 (some (k,ρ))=some (.v (.bl (!k)),ρ):=rfl
end
theorem WebOk.perm {n:Int}{ts us:List Tie}(h:WebOk n us)(p:ts.Perm us):WebOk n ts where
 n1:=h.n1
 t:=fun t ht=>h.t t (p.mem_iff.mp ht)
 nd:=(p.map _).nodup_iff.mpr h.nd
 len:=by rw[p.length_eq];exact h.len
structure Bq (m:Nat) (q:Rat):Prop where
 nn:0<=q
 le:q<=((10^12:Int):Rat)
 dn:q.den<2^m
theorem Bq.sz {m:Nat}{q:Rat}(h:Bq m q):Sz (m+41) q:=by
 refine⟨?_,zF h.dn (Nat.pow_le_pow_right (by decide) (by walk_at "o"))⟩
 have h1:=Rat.num_nonneg.mpr h.nn;have h2:=(Rat.le_iff _ _).mp h.le;rw[Rat.num_intCast,Rat.den_intCast] at h2;have h3:q.num<=10^12*(q.den:Int):=by
  have:q.num*((1:Nat):Int)=q.num:=by walk_at "o"
  rw[this] at h2;exact h2
 have h4:(q.num.natAbs:Int)<=10^12*(q.den:Int):=by walk_at "o"
 have h5:q.num.natAbs<=10^12*q.den:=by exact_mod_cast h4
 have h6:10^12*q.den<2^41*2^m:=Nat.mul_lt_mul'' (by decide) h.dn
 rw[<-Nat.pow_add,Nat.add_comm] at h6;walk_at "o"
theorem a2u {C:Prop}{c:FT}{b:FS}{ρ:Ev}{r:Option R}(e:whileV c b ρ=r)(I J:Ev->Prop)(μ:Ev->Nat)(h0:I ρ)(st:∀ρ,I ρ->(∃ρ1,c ρ=some (false,ρ1)/\J ρ1)\/∃ρ1 ρ2,c ρ=some (true,ρ1)/\b ρ1=some (.nx ρ2)/\I ρ2/\μ ρ2<μ ρ)(fin:∀ρ',r=some (.nx ρ')->J ρ'->C):C:=by
 have key:∀(k:Nat) (ρ:Ev),μ ρ<=k->I ρ->∃m ρ',whileF c b m ρ=some (.nx ρ')/\J ρ':=by
  intro k
  induction k with
  | zero=>
   intro ρ hk hi;rcases st ρ hi with ⟨ρ1,e1,j⟩|⟨ρ1,ρ2,e1,e2,i2,lt⟩
   ·exact⟨1,ρ1,by rw[whileF,e1];rfl,j⟩
   ·walk_at "o"
  | succ k ih=>
   intro ρ hk hi;rcases st ρ hi with ⟨ρ1,e1,j⟩|⟨ρ1,ρ2,e1,e2,i2,lt⟩
   ·exact⟨1,ρ1,by rw[whileF,e1];rfl,j⟩
   ·obtain⟨m,ρ',e3,j⟩:=ih ρ2 (by walk_at "o") i2
    exact⟨m+1,ρ',by rw[whileF,e1];simp only[bind_some,qW,e2];exact e3,j⟩
 obtain⟨m,ρ',e',j⟩:=key _ ρ (zE _) h0;exact fin ρ' (e.symm.trans (a4M e')) j
def up (m:Nat):List Int:=(List.range m).map fun(i:Nat)=>0+(i:Int)
theorem G3 (m:Nat):rngD 0 m=(up m).map D.int:=by unfold rngD up;rw[jB];rfl
theorem S5 {m:Nat}{x:Int}:x∈up m↔0<=x/\x<m:=by
 unfold up;rw[zY];constructor
 ·rintro⟨i,hi,rfl⟩;rw[xB] at hi;walk_at "o"
 ·intro h;exact⟨x.toNat,xB.mpr (by walk_at "o"),by walk_at "o"⟩
theorem v4 (m:Nat):(up m).length=m:=by unfold up;simp
def lm (m:Nat):List Nat:=(List.range 8).filter m.testBit
def tab (b:Bool) (m:Nat):SetTable:=if(lm m).length<5 then{mask:=7,place:=(lm m).toArray,dummies:= #[],finger:=0,led:=b,moves:=0,plain:=true} else{mask:=31,place:=(lm m).toArray,dummies:= #[],finger:=0,led:=b,moves:=1,plain:=true}
def tab1 (b:Bool) (m h:Nat):SetTable:={tab b m with place:=(lm (m ||| 2^h)).toArray}
def posM (m h:Nat):Nat:=((lm m).filter (· < h)).length
def slotM (m k:Nat):Nat:=if k=0 then 0 else(lm m).getD (k-1) 0+1
def intsN (l:List Nat):List Int:=l.map fun(n:Nat)=>(n:Int)
def AddOk (b:Bool) (m h:Nat):Prop:=m.testBit h=false->(tab b m).freeSlot h=some (h,false)/\(tab b m).put h=(tab1 b m h,posM m h)/\lm (m ||| 2^h)=(lm m).take (posM m h)++h::(lm m).drop (posM m h)/\(tab1 b m h).fits ((lm m).length+1)=true/\
 (tab1 b m h).tooFull=decide ((lm m).length=4)/\((lm m).length≠4->tab1 b m h=tab b (m ||| 2^h))/\((lm m).length=4->(tab1 b m h).relaid (intsN (lm (m ||| 2^h))).toArray 20=some (tab b (m ||| 2^h), #[0,1,2,3,4]))
instance (b:Bool) (m h:Nat):Decidable (AddOk b m h):=by unfold AddOk;infer_instance
theorem addOk0t:∀m<256,AddOk true m 0:=by decide +kernel
theorem addOk0f:∀m<256,AddOk false m 0:=by decide +kernel
theorem addOk1t:∀m<256,AddOk true m 1:=by decide +kernel
theorem addOk1f:∀m<256,AddOk false m 1:=by decide +kernel
theorem addOk2t:∀m<256,AddOk true m 2:=by decide +kernel
theorem addOk2f:∀m<256,AddOk false m 2:=by decide +kernel
theorem addOk3t:∀m<256,AddOk true m 3:=by decide +kernel
theorem addOk3f:∀m<256,AddOk false m 3:=by decide +kernel
theorem addOk4t:∀m<256,AddOk true m 4:=by decide +kernel
theorem addOk4f:∀m<256,AddOk false m 4:=by decide +kernel
theorem addOk5t:∀m<256,AddOk true m 5:=by decide +kernel
theorem addOk5f:∀m<256,AddOk false m 5:=by decide +kernel
theorem addOk6t:∀m<256,AddOk true m 6:=by decide +kernel
theorem addOk6f:∀m<256,AddOk false m 6:=by decide +kernel
theorem addOk7t:∀m<256,AddOk true m 7:=by decide +kernel
theorem addOk7f:∀m<256,AddOk false m 7:=by decide +kernel
theorem addOk {m h:Nat}(hm:m<256)(hh:h<8)(b:Bool):AddOk b m h:=by
 have hc:h=0\/h=1\/h=2\/h=3\/h=4\/h=5\/h=6\/h=7:=by walk_at "o"
 rcases hc with rfl|rfl|rfl|rfl|rfl|rfl|rfl|rfl<;>cases b
 ·exact addOk0f m hm
 ·exact addOk0t m hm
 ·exact addOk1f m hm
 ·exact addOk1t m hm
 ·exact addOk2f m hm
 ·exact addOk2t m hm
 ·exact addOk3f m hm
 ·exact addOk3t m hm
 ·exact addOk4f m hm
 ·exact addOk4t m hm
 ·exact addOk5f m hm
 ·exact addOk5t m hm
 ·exact addOk6f m hm
 ·exact addOk6t m hm
 ·exact addOk7f m hm
 ·exact addOk7t m hm
theorem O7:∀m<256,∀b,(tab b m).fits (lm m).length=true:=by decide +kernel
theorem a2A:∀m<256,∀k<9,k<=(lm m).length->SetTable.below (lm m).toArray (slotM m k)=k:=by decide +kernel
theorem or_lt:∀m<256,∀h<8,m ||| 2^h<256:=by decide +kernel
theorem or_in:∀m<256,∀h<8,m.testBit h=true->m ||| 2^h=m:=by decide +kernel
theorem M7 {m n:Nat}:n∈lm m↔n<8/\m.testBit n=true:=by unfold lm;rw[mem_filter,xB]
theorem T8 (m:Nat):(lm m).length<=8:=by unfold lm;exact qH (length_filter_le _ _) (by simp)
theorem lm_pw (m:Nat):(lm m).Pairwise (· < ·):=List.Pairwise.filter _ List.pairwise_lt_range
theorem a4X (b:Bool)(m:Nat):(tab b m).place=(lm m).toArray:=by unfold tab;split<;>rfl
theorem U8 (b:Bool)(m:Nat):(tab b m).plain=true:=by unfold tab;split<;>rfl
theorem a7m (b:Bool)(m:Nat):(tab b m).led=b:=by unfold tab;split<;>rfl
inductive EsOk:List (Int×Value)->List Nat->Prop where
 | nil:EsOk [] []
 | cons {e:Int×Value} {n:Nat} {es:List (Int×Value)} {l:List Nat} (h:e.1=(n:Int)/\∃t,e.2= .int n t) (r:EsOk es l):EsOk (e::es) (n::l)
abbrev byT (w:World):Bool:=w.params.followText "set-order"
def setObjM (es:Array (Int×Value)) (ep:Nat) (t:SetTable):PySem.Obj:={cls:=.type "set",dict:=none,data:=.set es ep t,slots:= #[]}
def SetM (w:World) (h:Heap) (a:Addr) (m:Nat):Prop:=m<256/\∃es ep,h.get? a=some (setObjM es ep (tab (!byT w) m))/\EsOk es.toList (lm m)
theorem hash8:∀n<8,hashInt (n:Nat)=(n:Nat):=by decide +kernel
section
variable {prog:Program}{w:World}{A:Around}{E:Value->Shared->Prop}{s:Shared}{a:Addr}{m n:Nat}{es:Array (Int×Value)}{l:List Nat}
theorem EsOk.len {es:List (Int×Value)}(h:EsOk es l):es.length=l.length:=by
 induction h with
 | nil=>rfl
 | cons _ _ ih=>rw[qL,qL,ih]
theorem EsOk.elems:∀{es:List (Int×Value)} {l:List Nat},EsOk es l->(∀n∈l,n<8)->ElemsOf (intKind prog w) es
 | _,_,.nil,_=>fun e he=>nomatch he
 | _,_,.cons (e:=e) (n:=n) ⟨h1,t,h2⟩ r,hl=>fun x hx=>by
  rcases zO.mp hx with rfl|hx
  ·refine⟨⟨(n:Int),by rw[h2];exact intKind_is _ _ _ _,?_⟩,by rw[h2];rfl⟩
   rw[h1];exact(hash8 n (hl n zR)).symm
  ·exact EsOk.elems r (fun k hk=>hl k (zN _ hk)) x hx
theorem EsOk.find:∀{es:List (Int×Value)} {l:List Nat},EsOk es l->(∃j,es.findIdx? (fun e=>(intKind prog w).is (n:Int) e.2)=some j)/\n∈l\/es.findIdx? (fun e=>(intKind prog w).is (n:Int) e.2)=none/\n∉l
 | _,_,.nil=>.inr ⟨rfl,fun h=>nomatch h⟩
 | _,_,.cons (e:=e) (n:=k) ⟨h1,t,h2⟩ r=>by
  have his:(intKind prog w).is (n:Int) e.2=decide (n=k):=by
   rw[h2,KeyKind.is_eq_decide (knd:=intKind prog w) (intKind_is _ _ _ _) (n:Int)]
   by_cases h:n=k
   ·subst h;simp
   ·rw[qG h,qG (by walk_at "o")]
  by_cases h:n=k
  ·subst h;exact .inl ⟨⟨0,by rw[List.findIdx?_cons,his,qE rfl];rfl⟩,zR⟩
  ·rw[List.findIdx?_cons,his,qG h];rcases EsOk.find r with ⟨⟨j,ej⟩,hm⟩|⟨ej,hm⟩
   ·exact .inl ⟨⟨j+1,by rw[ej];rfl⟩,zN _ hm⟩
   ·exact .inr ⟨by rw[ej];rfl,fun z=>(zO.mp z).elim h hm⟩
theorem EsOk.take:∀{xs:List (Int×Value)} {ys:List Nat} (k:Nat),EsOk xs ys->EsOk (xs.take k) (ys.take k)
 | _,_,0,_=>by rw[take_zero,take_zero];exact .nil
 | _,_,k+1,.nil=>by rw[List.take_nil,List.take_nil];exact .nil
 | _,_,k+1,.cons h t=>by rw[List.take_succ_cons,List.take_succ_cons];exact .cons h (EsOk.take k t)
theorem EsOk.drop:∀{xs:List (Int×Value)} {ys:List Nat} (k:Nat),EsOk xs ys->EsOk (xs.drop k) (ys.drop k)
 | _,_,0,h=>by rw[drop_zero,drop_zero];exact h
 | _,_,k+1,.nil=>by rw[List.drop_nil,List.drop_nil];exact .nil
 | _,_,k+1,.cons h t=>by rw[List.drop_succ_cons,List.drop_succ_cons];exact EsOk.drop k t
theorem EsOk.app:∀{xs xs':List (Int×Value)} {ys ys':List Nat},EsOk xs ys->EsOk xs' ys'->EsOk (xs++xs') (ys++ys')
 | _,_,_,_,.nil,h=>h
 | _,_,_,_,.cons h t,h'=>.cons h (EsOk.app t h')
theorem M5 {α:Type}(xs:Array α)(p:Nat)(x:α)(hp:p<=xs.size):(SetTable.insertAt xs p x).toList=xs.toList.take p++x::xs.toList.drop p:=by
 unfold SetTable.insertAt;simp[Array.toList_extract];rw[jQ (by simp)]
theorem a0v (es:Array (Int×Value))(h:es.size=5):(#[0,1,2,3,4]:Array Nat).filterMap (es[·]?)=es:=by
 obtain⟨l⟩:=es
 match l,h with
 | [a,b,c,d,e],_=>rfl
theorem addM {t:Tok}{Q:Bool->Shared->Prop}(hn:n<8)(S:SetM w s.heap a m)(q:∀r h',Heap.SameBut a s.heap h'->SetM w h' a (m ||| 2^n)->Q r {s with heap:=h'}):
  wpAny (model prog w) A (setAddHashed a (.int n t) (n:Int)) Q E s:=by
 obtain⟨hm,es,ep,ho,hes⟩:=S;have hl8:∀k∈lm m,k<8:=fun k hk=>(M7.mp hk).1;have hel:ElemsOf (intKind prog w) es.toList:=hes.elems hl8;have hsz:es.size=(lm m).length:=by rw[<-qD];exact hes.len
 have hf:(tab (!byT w) m).fits es.size=true:=by rw[hsz];exact O7 m hm _
 have hkey:(intKind prog w).is (n:Int) (.int n t)=true:=intKind_is _ _ _ _;have hb:es.size<scanBound:=by rw[hsz];exact Nat.lt_of_le_of_lt (T8 m) (by decide)
 have hh:hashInt (n:Nat)=(n:Nat):=hash8 n hn;unfold setAddHashed setAddHashedIn;refine qM (zA (wpAny_setState_of ho rfl hf ?_));dsimp only;rw[byScan_of (knd:=intKind prog w) (x:=.int n t) rfl hb hel];simp only[↓reduceIte];unfold setAddByScan;refine zA ?_;refine zA (yC ?_)
 have sc:=wpAny_setScan_of (A:=A) (E:=E) (prog:=prog) (w:=w) (knd:=intKind prog w) (s:=s) (adding:=true) hkey ho rfl hf hel (Q:=fun r s'=>s'=s/\(((∃j,r= .found j)/\n∈lm m)\/r= .absent/\n∉lm m)) (by
  rcases hes.find (prog:=prog) (w:=w) (n:=n) with ⟨⟨j,ej⟩,hin⟩|⟨ej,hin⟩
  ·rw[ej];exact⟨rfl,.inl ⟨⟨_,rfl⟩,hin⟩⟩
  ·rw[ej];exact⟨rfl,.inr ⟨rfl,hin⟩⟩)
 rw[show(intKind prog w).hash (n:Int)=(n:Int) from hh] at sc;refine zA (qB sc (fun r s' ⟨es',hr⟩=>es'▸?_) fun _ _ z=>z);clear es';have ese:s={s with heap:=s.heap}:=by cases s;rfl
 rcases hr with ⟨⟨j,rfl⟩,hin⟩|⟨rfl,hin⟩
 ·dsimp only;refine zB (zB ?_);rw[ese];refine q _ s.heap (Heap.SameBut.refl a s.heap) ?_;rw[or_in m hm n hn (M7.mp hin).2];exact⟨hm,es,ep,ho,hes⟩
 ·dsimp only;have hbit:m.testBit n=false:=by
   cases hb':m.testBit n with
   | false=>rfl
   | true=>exact absurd (M7.mpr ⟨hn,hb'⟩) hin
  obtain⟨a1,a2,a3,a4,a5,a6,a7⟩:=addOk hm hn (!byT w) hbit;have pl:posM m n<=es.size:=by rw[hsz];unfold posM;exact length_filter_le _ _
  have hL:layNew (tab (!byT w) m) es (n:Int) (.int n t)=(SetTable.insertAt es (posM m n) ((n:Int),.int n t),tab1 (!byT w) m n,false,false):=by
   have hs1:(SetTable.insertAt es (posM m n) ((n:Int),Value.int n t)).size=(lm m).length+1:=by
    rw[<-qD,M5 _ _ _ pl];simp only[zZ,qL,jX,jG,qD];walk_at "o"
   unfold layNew;rw[a1];dsimp only;rw[a2];dsimp only;rw[hs1];unfold SetTable.orStandIn;rw[if_pos a4,a4];rfl
  have hes1:EsOk (SetTable.insertAt es (posM m n) ((n:Int),.int n t)).toList (lm (m ||| 2^n)):=by
   rw[M5 _ _ _ pl,a3];exact(hes.take _).app (.cons ⟨rfl,t,rfl⟩ (hes.drop _))
  rw[hL];generalize hE1:SetTable.insertAt es (posM m n) ((n:Int),Value.int n t)=es1 at hes1;have hsz1:es1.size=(lm (m ||| 2^n)).length:=by rw[<-qD];exact hes1.len
  have hln:(lm (m ||| 2^n)).length=(lm m).length+1:=by rw[a3];simp only[zZ,qL,jX,jG];rw[hsz] at pl;walk_at "o"
  have hz1:es1.size<=sizeLine:=by rw[hsz1,qY];have:=T8 (m ||| 2^n);walk_at "o"
  have pl1:(tab1 (!byT w) m n).plain=true:=U8 _ _;dsimp only;refine zA (m:=pure ()) (zB ?_);rw[if_pos pl1];refine zA (m:=hashByValue 8 (.int n t)) ?_;rw[hashByValue_scannable 8 (x:=.int n t) rfl];refine zB ?_;have pk:plainKind (Value.int (n:Int) t)=true:=rfl;simp only[pk,qW];refine zA (wpAny_storeSet_of ho rfl ?_ hz1);have g1:(s.heap.update a (Obj.putSet es1 (tab1 (!byT w) m n))).get? a=some (setObjM es1 (ep+1) (tab1 (!byT w) m n)):=by
   have:=jL (Obj.putSet es1 (tab1 (!byT w) m n)) ho (by rw[putSet_of es1 _ rfl];rfl)
   rw[putSet_of es1 _ rfl] at this;exact this
  have sb1:=qO s.heap a (Obj.putSet es1 (tab1 (!byT w) m n));have hlt:=or_lt m hm n hn;rw[a5]
  by_cases h4:(lm m).length=4
  ·rw[qE h4];have h5:es1.size=5:=by rw[hsz1,hln,h4]
   have hR:relayAll (tab1 (!byT w) m n) es1 (SetTable.grown es1.size)=(es1,tab (!byT w) (m ||| 2^n),false):=by
    have hx:(es1.map (·.1))=(intsN (lm (m ||| 2^n))).toArray:=by
     have:∀{es:List (Int×Value)} {l:List Nat},EsOk es l->es.map (·.1)=intsN l:=fun h=>by
      induction h with
      | nil=>rfl
      | cons h _ ih=>rw[zJ,ih,h.1];rfl
     have:=this hes1
     rw[<-this];apply Array.ext';simp
    unfold relayAll;rw[hx,h5,show SetTable.grown 5=20 from rfl,a7 h4];dsimp only;rw[a0v es1 h5];have c1:coversAll #[0,1,2,3,4] 5=true:=by decide +kernel
    have c2:(tab (!byT w) (m ||| 2^n)).fits es1.size=true:=by rw[hsz1];exact O7 _ hlt _
    rw[c1,c2];rfl
   simp only[Bool.not_false,Bool.and_self,qW];rw[hR];dsimp only;refine zA (m:=pure ()) (zB ?_);refine zA (wpAny_storeSet_of g1 rfl ?_ hz1);refine zB (zB (q _ _ (sb1.trans (qO _ a _)) ⟨hlt,es1,ep+1+1,?_,hes1⟩))
   have:=jL (Obj.putSet es1 (tab (!byT w) (m ||| 2^n))) g1 (by rw[putSet_of es1 _ rfl];rfl)
   rw[putSet_of es1 _ rfl] at this;exact this
  ·rw[qG h4];simp only[Bool.and_false,qQ,jK];refine zB (zB (q _ _ sb1 ⟨hlt,es1,ep+1,?_,hes1⟩));rw[<-a6 h4];exact g1
end
def mAll (ns:List Nat):Nat:=ns.foldl (fun m n=>m ||| 2^n) 0
theorem a4G {ns:List Nat}{n i:Nat}(h:ns[i]? =some n):mAll (ns.take (i+1))=mAll (ns.take i) ||| 2^n:=by
 unfold mAll;rw[List.take_succ,h,List.foldl_append];rfl
theorem P2 {ns:List Nat}{k:Nat}:(mAll ns).testBit k=decide (k∈ns):=by
 unfold mAll;have key:∀(ns:List Nat) (m:Nat),(ns.foldl (fun m n=>m ||| 2^n) m).testBit k=(m.testBit k||decide (k∈ns)):=by
  intro ns
  induction ns with
  | nil=>intro m;simp
  | cons n ns ih=>
   intro m;rw[List.foldl_cons,ih,Nat.testBit_or,Nat.testBit_two_pow]
   by_cases h:n=k
   ·subst h;simp
   ·rw[qG h,Bool.or_false]
    have:(k∈n::ns)↔k∈ns:=by rw[zO];exact⟨fun z=>z.elim (fun e=>absurd e.symm h) id,.inr⟩
    rw[show decide (k∈n::ns)=decide (k∈ns) from decide_eq_decide.mpr this]
 rw[key ns 0];simp
section
variable {prog:Program}{w:World}{A:Around}{R:Result->Shared->Prop}{I:Addr}{fp wr:List Addr}{G:Array GenState->Array GenState->Prop}{P:Nat->Value->Prop}{St:Nat->Shared->Prop}
theorem updM {ns:List Nat}(h8:∀n∈ns,n<8)(W:WalksS prog w A.in1 I fp wr G ns.length P St)(S:Addr)(hSf:S∉fp)(hval:∀(i:Nat) (v:Value),P i v->∃(n:Nat) (t:Tok),ns[i]? =some n/\v=Value.int n t):
  ∀(k i:Nat) (s:Shared),ns.length-i=k->i<=ns.length->St i s->SetM w s.heap S (mAll (ns.take i))->
   (∀s',Moved (S::wr) G s s'->SetM w s'.heap S (mAll ns)->R (.ok (.ret .none)) s')->codeAny (model prog w) A (.builtin "set.update.loop" ⟨[.ref S,.ref I],[]⟩) R s:=by
 have hSw:S∉wr:=fun h=>hSf (W.sub _ h);have hsub:∀b∈wr,b∈S::wr:=fun b hb=>zN _ hb;intro k
 induction k with
 | zero=>
  intro i s hk hi hst hS hR;have hin:i=ns.length:=by walk_at "o"
  subst hin;refine codeAny_builtin F.entry_set_update_loop ?_;rw[Around.under_plainId F.plain_set_update_loop _];show wpAny _ A.in1 (pyNext (.ref I) >>=_) _ _ s;refine zA (W.done s _ _ hst fun s' hm=>?_);show wpAny _ A.in1 (ret Value.none) _ _ s';rw[take_length] at hS;obtain⟨hl,es,ep,ho,rest⟩:=hS;exact zB (hR s' (hm.mono hsub) ⟨hl,es,ep,hm.heap S _ hSw ho,rest⟩)
 | succ k ih=>
  intro i s hk hi hst hS hR;have hlt:i<ns.length:=by walk_at "o"
  refine codeAny_builtin F.entry_set_update_loop ?_;rw[Around.under_plainId F.plain_set_update_loop _];show wpAny _ A.in1 (pyNext (.ref I) >>=_) _ _ s;refine zA (W.item i s _ _ hlt hst fun v s' hP hst' hm=>?_);obtain⟨n,t,hn,rfl⟩:=hval i v hP;have hn8:n<8:=h8 n (qR hn);have hS':SetM w s'.heap S (mAll (ns.take i)):=by
   obtain⟨hl,es,ep,ho,rest⟩:=hS;exact⟨hl,es,ep,hm.heap S _ hSw ho,rest⟩
  show wpAny _ A.in1 (holding [Value.int n t] (setAdd S (.int n t)) >>=_) _ _ s';refine zA (qM ?_);unfold setAdd;refine qM ?_;refine zA ((intKind prog w).pyHash (k:=(n:Int)) (intKind_is _ _ _ _) ?_);rw[show(intKind prog w).hash (n:Int)=(n:Int) from hash8 n hn8];refine addM (s:={s' with toks:=s'.toks+1}) hn8 hS' fun r h' hsb hS2=>?_
  rw[<-a4G hn] at hS2;refine zB ⟨plainId_quiet F.plain_set_update_loop _,ih (i+1) _ (by walk_at "o") hlt (W.frame _ s' _ _ hst' (Nat.le_succ _) fun b hb o e=>?_) hS2 fun s'' hm'' hS''=>?_⟩
  ·rw[hsb.2 b (fun h:b=S=>hSf (by rw[<-h];exact hb))];exact e
  ·refine hR s'' (Moved.trans W.gtrans ((hm.mono hsub).then_heap (Nat.le_succ _) fun b o hb e=>?_) hm'') hS'';rw[hsb.2 b (fun h:b=S=>hb (by rw[h];exact zR))];exact e
end
theorem a0w:isSubtype (.type "tuple") (.type "set")=pure false:=by rw[xP];kernel_rfl
theorem L9:isSubtype (.type "tuple") (.type "frozenset")=pure false:=by rw[xP];kernel_rfl
section
variable {prog:Program}{w:World}{A:Around}{E:Value->Shared->Prop}{s:Shared}
theorem P6 {a:Value}{Q₁:Value->Shared->Prop}
  (h:Q₁ (.ref s.heap.objs.size) {s with heap:=s.heap.push (setObjM #[] 0 (.fresh 0 0 (!byT w)))}):
  codeAny (model prog w) A (.call (.builtin "set.__new__") ⟨[.type "set",a],[]⟩) (wants Q₁ E) s:=by
 refine codeAny_of_tree ?_;show wpAny _ A.in1 (do checkBuiltinCall "set.__new__" ⟨[.type "set",a],[]⟩;again (.builtin "set.__new__" ⟨[.type "set",a],[]⟩)) _ _ s
 refine zA (wpAny_of_eq (F.newCall_set_1 a) (zB ⟨plainId_quiet F.plain_set_new _,codeAny_builtin F.entry_set_new ?_⟩));rw[Around.under_plainId F.plain_set_new _];unfold Builtin.«set.__new__» Builtin.Frozenset.newClass;have hsub:=sub_set_self;obtain⟨hp,g,d,tk,os⟩:=s;dsimp only
 wp_walk
 refine wpAny_askSetting (zB ?_);dsimp only;simp only[newObj];refine zA (wpAny_alloc (zB ?_));exact zB h
theorem a1h {l:Addr}{items:Array Value}{ns:List Nat}{Q:Value->Shared->Prop}(hh:A.handled=none)(hl:s.heap.IsTuple l items)(h8:∀n∈ns,n<8)(hsz:items.size=ns.length)(hi:∀(i:Nat) (v:Value),items[i]? =some v->∃(n:Nat) (t:Tok),ns[i]? =some n/\v=Value.int n t)
  (h:∀(h':Heap) (tk:Nat),SetM w h' s.heap.objs.size (mAll ns)->(∀b o,b<s.heap.objs.size->s.heap.get? b=some o->h'.get? b=some o)->Q (.ref s.heap.objs.size) {s with heap:=h',toks:=tk}):
  wpAny (model prog w) A (call (.type "set") [.ref l]) Q E s:=by
 obtain⟨c,tl,hmro⟩:=F.called_set.mro;have hmade:=F.called_set.made;have hsub:=F.called_set.sub;refine wpAny_call (codeAny_of_tree ?_);show wpAny _ _ (callAny (.type "set") _) _ _ _;refine zB ⟨Code.quiet_builtin _ (by decide +kernel),codeAny_builtin F.entry_type_call ?_⟩
 rw[Around.under_plain (weight_type_call_type "set" [.ref l] []) rfl];have h1:=F.called_set.notType;have h2:=F.called_set.canCreate;have hct:=F.typeCall_set_1 (.ref l)
 repeat(any_goals(first|assumption|wp_step))
 refine yK (P6 (a:=.ref l) (E:=E) (Q₁:=fun obj s₁=>obj= .ref s.heap.objs.size/\s₁={s with heap:=s.heap.push (setObjM #[] 0 (.fresh 0 0 (!byT w)))}) ⟨rfl,rfl⟩) fun r s₁ hr=>?_
 cases r with
 | error e=>exact hr
 | ok fl=>
  cases fl with
  | ret obj=>
   obtain⟨rfl,rfl⟩:=hr;have hS:(s.heap.push (setObjM #[] 0 (.fresh 0 0 (!byT w)))).get? s.heap.objs.size=some (setObjM #[] 0 (.fresh 0 0 (!byT w))):=zL _ rfl;have hT:Shared.TypeIs {s with heap:=s.heap.push (setObjM #[] 0 (.fresh 0 0 (!byT w)))} (.ref s.heap.objs.size) "set":=⟨_,hS,rfl⟩
   have hli:=F.called_set.init.lookup;have hbi:=F.called_set.init.bind (.ref s.heap.objs.size)
   repeat(any_goals(first|assumption|wp_step))
   refine yK (codeAny_call_builtin (R:=wants (fun r s₂=>r= .none/\∃h' tk,s₂={s with heap:=h',toks:=tk}/\SetM w h' s.heap.objs.size (mAll ns)/\
     (∀b o,b<s.heap.objs.size->s.heap.get? b=some o->h'.get? b=some o)) E) F.called_set.init.plain F.entry_set_init (check_set_init_1 hT ?_)) fun r₂ s₂ hr₂=>?_
   ·have hlS:l<s.heap.objs.size:=by obtain⟨o,e,_⟩:=hl;exact zS e
    obtain⟨ol,hol,hcl,nl,hdl⟩:=id hl;obtain⟨ocls,odict,odata,oslots⟩:=ol;simp only at hcl hdl;subst hcl;subst hdl;have hol':(s.heap.push (setObjM #[] 0 (.fresh 0 0 (!byT w)))).get? l=some {cls:=.type "tuple",dict:=odict,data:=.seq items nl,slots:=oslots}:=zC _ hol;have hsls:=a0w;have hslf:=L9;have hne:(Value.type "tuple" == Value.type "dict")=false:=by decide
    have hl1:(s.heap.push (setObjM #[] 0 (.fresh 0 0 (!byT w)))).IsTuple l items:=⟨_,hol',rfl,nl,rfl⟩;have hS':(s.heap.push (setObjM #[] 0 (.fresh 0 0 (!byT w)))).get? s.heap.objs.size=some {cls:=.type "set",dict:=none,data:=.set #[] 0 (.fresh 0 0 (!byT w)),slots:= #[]}:=hS;unfold Builtin.«set.__init__» noKeywords Builtin.Frozenset.updateFrom;generalize hPI:pyIter=PI
    wp_walk
    subst hPI;refine iter_tuple (t:=l) (items:=items) ⟨_,hol',rfl,nl,rfl⟩ ?_;refine zA (wpAny_runValue ?_);have hh3:A.in1.in1.in1.handled=none:=by simp[hh]
    have hneI:l≠(s.heap.push (setObjM #[] 0 (.fresh 0 0 (!byT w)))).objs.size:=by
     rw[jR];exact zG (xI hlS)
    have hSf:s.heap.objs.size∉[(s.heap.push (setObjM #[] 0 (.fresh 0 0 (!byT w)))).objs.size,l]:=by
     rw[jR];simp only[zO,qA,jS,yG,not_or];exact⟨zG (jU _),xE hlS⟩
    have W:=(Walks.tuple (prog:=prog) (w:=w) hh3 _ l hneI items).toS;rw[hsz] at W;refine updM h8 W s.heap.objs.size hSf (fun i v hv=>hi i v hv) (ns.length-0) 0 _ rfl (jW _) ?hSt ?hS0 ?hR
    case hSt=>exact⟨⟨_,zL _ rfl,rfl,rfl⟩,⟨_,zC _ hol',rfl,nl,rfl⟩⟩
    case hS0=>
     refine⟨by rw[take_zero];decide, #[],0,?_,?_⟩
     ·rw[take_zero];exact zC _ hS
     ·rw[take_zero];exact .nil
    case hR=>
     intro s' hm hS';obtain⟨h',g',d',tk',os'⟩:=s';have eg:g'=s.gens:=hm.gens;have ed:d'=s.drawn:=hm.drawn;have eo:os'=s.os:=hm.os;subst eg;subst ed;subst eo;show wpAny _ _ _ _ _ _;refine zB ?_;show wpAny _ _ (ret Value.none) _ _ _;refine zB ⟨rfl,h',tk',rfl,hS',fun b o hb e=>?_⟩;have hb1:b≠s.heap.objs.size:=zG hb;have hb2:b≠(s.heap.push (setObjM #[] 0 (.fresh 0 0 (!byT w)))).objs.size:=by
      rw[jR];exact zG (xI hb)
     exact hm.heap b o (by simp only[zO,qA,jS,yG,not_or];exact⟨hb1,hb2⟩) (zC _ (zC _ e))
   ·cases r₂ with
    | error e=>exact hr₂
    | ok fl₂=>
     cases fl₂ with
     | ret r=>
      obtain⟨rfl,h',tk,rfl,hS',hk'⟩:=hr₂
      repeat(any_goals(first|assumption|wp_step))
      exact h _ _ hS' hk'
     | _=>exact hr₂.elim
  | _=>exact hr.elim
end
theorem X2:entryFor table "set.__iter__"=some Builtin.«frozenset.__iter__»:=
 entryFor_alias (id':="frozenset.__iter__") (by kernel_rfl) rfl (by decide +kernel) (by kernel_rfl)
theorem t7:Slot "set_iterator" "__next__" "set_iterator.__next__":=
 .of (owner:="set_iterator") (n:="__next__") (by rw[typeLookup_type,builtinLookup_eq_fast];kernel_rfl) (by decide +kernel) (by decide +kernel) (by decide +kernel)
  (by first|exact .inl (by decide +kernel)|exact .inr (by decide +kernel)) (by rw[xP];kernel_rfl)
theorem T0:entryFor table "set_iterator.__next__"=some Builtin.«set_iterator.__next__»:=entryFor_of_fast (by kernel_rfl)
theorem W6 (a:Value):argsOk "set_iterator.__next__" ⟨[a],[]⟩:=by unfold argsOk;kernel_rfl
abbrev IsSetIt (h:Heap) (it a:Addr) (slot i n ep:Nat):Prop:=
 h.get? it=some {cls:=.type "set_iterator",dict:=none,data:=.fields #[rawInt slot,rawInt i,.ref a,rawInt n,rawInt ep],slots:= #[]}
def SRaw (w:World) (h:Heap) (a:Addr) (es:Array (Int×Value)) (ep m:Nat):Prop:=m<256/\es.size=(lm m).length/\h.get? a=some (setObjM es ep (tab (!byT w) m))
def ordM (w:World) (a:Addr) (es:Array (Int×Value)) (ep:Nat):Array (Int×Value):=if byT w then pickOrder (w.params.setOrder a ep) es else es
section
variable {prog:Program}{w:World}{A:Around}{E:Value->Shared->Prop}{s:Shared}{it a:Addr}{es:Array (Int×Value)}{i ep m slot:Nat}
theorem SRaw.fits (S:SRaw w s.heap a es ep m):(tab (!byT w) m).fits es.size=true:=by rw[S.2.1];exact O7 m S.1 _
theorem SRaw.typeIs (S:SRaw w s.heap a es ep m):s.TypeIs (.ref a) "set":=⟨_,S.2.2,rfl⟩
theorem SRaw.on {h h':Heap}(S:SRaw w h a es ep m)(k:∀o,h.get? a=some o->h'.get? a=some o):SRaw w h' a es ep m:=⟨S.1,S.2.1,k _ S.2.2⟩
theorem T2 {Q:Bool->Shared->Prop}(q:Q (byT w) s):wpAny (model prog w) A setsByText Q E s:=by
 unfold setsByText;exact zA (wpAny_askSetting (zB q))
theorem a6T {Q:Value->Shared->Prop}(S:SRaw w s.heap a es ep m)
  (q:Q (.ref s.heap.objs.size) {s with heap:=s.heap.push {cls:=.type "set_iterator",data:=.fields #[rawInt (0:Nat),rawInt (0:Nat),.ref a,rawInt es.size,rawInt ep]}}):wpAny (model prog w) A (pyIter (.ref a)) Q E s:=by
 have T:=S.typeIs;have ho:=S.2.2;have hf:=S.fits;refine wpAny_pyIter_slot T F.slot_set_iter (qI F.slot_set_iter T X2 ?_ (F.args_set_iter_1 _));unfold Builtin.«frozenset.__iter__»;refine zA (m:=Builtin.Frozenset.slot0 "__iter__" _) (zB ?_);refine zA (m:=Builtin.Frozenset.sizeOf a) ?_;unfold Builtin.Frozenset.sizeOf;refine zA (wpAny_setEntries_of ho rfl hf (zB ?_));refine zA (m:=setDrawn a) ?_;unfold setDrawn;refine zA (wpAny_setState_of ho rfl hf ?_);refine zA (T2 (zB ?_));show wpAny _ _ (if(!byT w&&(!(tab (!byT w) m).plain&&decide (es.size>1)))=true then _ else _) _ _ s;rw[U8];simp only[Bool.not_true,Bool.false_and,Bool.and_false,qQ,jK];refine zA (zB ?_);refine zA (m:=setEpoch a) (wpAny_setEpoch_of ho rfl hf ?_);exact zA (qF (zB ⟨_,rfl,"set_iterator",_,⟨_,zL _ rfl,rfl⟩,t7.lookup,q⟩))
theorem a2t {Q:Option (Value×Nat)->Shared->Prop}(S:SRaw w s.heap a es ep m)(hi:i<9)(hil:i<=(lm m).length)(hs:byT w=false->slot=slotM m i)
  (q:∀r,(r=none/\(ordM w a es ep)[i]? =none\/∃e slot',r=some (e.2,slot')/\(ordM w a es ep)[i]? =some e/\(byT w=false->slot'=slotM m (i+1)))->Q r s):wpAny (model prog w) A (setNext a slot i ep) Q E s:=by
 have ho:=S.2.2;have hf:=S.fits;unfold setNext;refine zA (wpAny_setState_of ho rfl hf ?_);refine zA (T2 ?_);cases hb:byT w with
 | true=>
  simp only[qW];rw[if_neg (by simp)]
  refine zA ?_;unfold setWalk;refine zA (wpAny_setState_of ho rfl hf ?_);refine zA (T2 ?_);rw[hb];simp only[qW];refine zA (wpAny_askSetting (zB (zB ?_)));have eo:ordM w a es ep=pickOrder (w.params.setOrder a ep) es:=by unfold ordM;rw[hb];rfl
  rw[eo,hb] at q;show Q (((pickOrder (w.params.setOrder a ep) es)[i]?).map fun e=>(e.2,slot)) s;cases he:(pickOrder (w.params.setOrder a ep) es)[i]? with
  | none=>exact q _ (.inl ⟨rfl,he⟩)
  | some e=>exact q _ (.inr ⟨e,slot,rfl,he,fun z=>nomatch z⟩)
 | false=>
  simp only[qQ,jK];show wpAny _ _ (if(!(tab (!false) m).plain&&decide (es.size>1))=true then _ else _) _ _ s;rw[U8];simp only[Bool.not_true,Bool.false_and,qQ,jK];refine zA ?_;show wpAny _ _ (if(!(tab (!false) m).led && !es.isEmpty)=true then _ else _) _ _ s;rw[a7m];simp only[Bool.not_false,Bool.not_true,Bool.false_and,qQ,jK];refine zB ?_;refine zB ?_;have eo:ordM w a es ep=es:=by unfold ordM;rw[hb];rfl
  rw[eo] at q;have hbl:SetTable.below (lm m).toArray slot=i:=by rw[hs hb];exact a2A m S.1 i hi hil
  simp only[a4X,hbl]
  by_cases hlt:i<(lm m).length
  ·have hlt':i<es.size:=by rw[S.2.1];exact hlt
   have he:es[i]? =some es[i]:=by simp[hlt']
   have hp:(lm m).toArray[i]? =some (lm m)[i]:=by simp[hlt]
   rw[he,hp];refine q _ (.inr ⟨_,_,rfl,he,fun _=>?_⟩);unfold slotM;rw[if_neg (by walk_at "o"),Nat.add_sub_cancel,zH,zM hlt];rfl
  ·have he:es[i]? =none:=by rw[Array.getElem?_eq_none_iff,S.2.1];walk_at "o"
   rw[he];exact q _ (.inl ⟨rfl,he⟩)
theorem a1X {Q:Option Value->Shared->Prop}(hh:A.handled=none)(hit:IsSetIt s.heap it a slot i es.size ep)(S:SRaw w s.heap a es ep m)(hne:a≠it)(hil:i<=(lm m).length)(hs:byT w=false->slot=slotM m i)
  (q1:∀e h' slot',(ordM w a es ep)[i]? =some e->IsSetIt h' it a slot' (i+1) es.size ep->(byT w=false->slot'=slotM m (i+1))->Heap.SameBut it s.heap h'->Q (some e.2) {s with heap:=h'})
  (q2:∀h',(ordM w a es ep)[i]? =none->Heap.ExtBut it s.heap h'->Q none {s with heap:=h'}):wpAny (model prog w) A (pyNext (.ref it)) Q E s:=by
 have ho:=S.2.2;have hf:=S.fits;have T:s.TypeIs (.ref it) "set_iterator":=⟨_,hit,rfl⟩;unfold pyNext;refine zA (wpAny_attempt (qK (name:=Str.ofString "__next__") T t7 (qI t7 T T0 ?_ (W6 _))));unfold Builtin.«set_iterator.__next__»;refine zA (m:=slotArgs "__next__" 0 _) (zB ?_);refine zA (wpAny_fieldsOf hit rfl ?_);dsimp only;refine zA (wpAny_setEntries_of ho rfl hf ?_);rw[if_neg (by simp)]
 show wpAny _ _ (setNext a slot i ep >>=_) _ _ s;refine zA (a2t S (by have:=T8 m;walk_at "o") hil hs fun r hr=>?_)
 rcases hr with ⟨rfl,he⟩|⟨e,slot',rfl,he,hs'⟩
 ·dsimp only;refine zA (jN hit (by simp) fun h1 e1 s1=>?_)
  refine zA (m:=newExc (.type "StopIteration") []) ?_;simp only[newExc,newTuple];refine zA (qF ?_ (by size_fits))
  refine zA (m:=firstArgMember _ _) (wpAny_of_eq (a:=Value.none) (by first|rfl|(simp only[firstArgMember];rfl)) (qF ?_ (by size_fits)))
  simp only[raiseNew];refine zA (wpAny_handled ?_);rw[show A.in1.handled=none from hh];refine zA (zB (wpAny_throw ?_));refine zA (wpAny_isInstance (b:=true) (T:="StopIteration") ⟨_,zL _ rfl,rfl⟩ isSubtype_stop ?_);exact zB (q2 _ he ((s1.extBut.push _).push _))
 ·dsimp only;refine zA (jN hit (by simp) fun h1 e1 s1=>?_)
  have e1':IsSetIt h1 it a slot' i es.size ep:=e1;refine zA (m:=setField (.ref it) 1 (rawInt ((i:Int)+1))) (jN e1' (by simp) fun h2 e2 s2=>?_)
  have e2':IsSetIt h2 it a slot' (i+1) es.size ep:=e2;exact zB ⟨_,rfl,zB (q1 e h2 slot' he e2' hs' (s1.trans s2))⟩
end
open PySem PySem.Spec PyProof.Rows L2 PySem.W
theorem a3r {α:Type}(next:Nat->Nat):∀(fuel k:Nat) (left:List α) (out:Array α),left.length=fuel->(pickOrder.go next fuel k left out).toList.Perm (out.toList++left)
 | 0,k,left,out,h=>by
  obtain rfl:=List.length_eq_zero_iff.mp h;unfold pickOrder.go;rw[append_nil]
 | fuel+1,k,left,out,h=>by
  unfold pickOrder.go;have hlt:next k%left.length<left.length:=Nat.mod_lt _ (by walk_at "o")
  rw[zM hlt];dsimp only;refine(a3r next fuel (k+1) (left.eraseIdx (next k%left.length)) (out.push left[next k%left.length]) (by rw[List.length_eraseIdx_of_lt hlt];walk_at "o")).trans ?_
  rw[Array.toList_push,yL];refine List.Perm.append_left _ ?_;rw[List.eraseIdx_eq_take_drop_succ];refine(List.perm_middle (l₁:=left.take (next k%left.length)) (a:=left[next k%left.length]) (l₂:=left.drop (next k%left.length+1))).symm.trans (.of_eq ?_);rw[<-xL hlt,List.take_append_drop]
theorem a00 (w:World)(a:Addr)(es:Array (Int×Value))(ep:Nat):(ordM w a es ep).toList.Perm es.toList:=by
 unfold ordM
 split
 ·unfold pickOrder;exact a3r _ es.size 0 es.toList #[] qD
 ·exact .refl _
theorem L8 (w:World)(a:Addr)(es:Array (Int×Value))(ep:Nat):(ordM w a es ep).size=es.size:=by
 rw[<-qD,(a00 w a es ep).length_eq,qD]
section
variable {prog:Program}{w:World}{A:Around}{E:Value->Shared->Prop}{s:Shared}{it a:Addr}{es:Array (Int×Value)}{i ep m:Nat}
def StM (w:World) (it a:Addr) (es:Array (Int×Value)) (ep m i:Nat) (h:Heap):Prop:=(∃slot,IsSetIt h it a slot i es.size ep/\(byT w=false->slot=slotM m i))/\SRaw w h a es ep m
theorem a2B {slot n:Nat}{Q:Value->Shared->Prop}(h:IsSetIt s.heap it a slot i n ep)(q:Q (.ref it) s):wpAny (model prog w) A (pyIter (.ref it)) Q E s:=by
 have T:s.TypeIs (.ref it) "set_iterator":=⟨_,h,rfl⟩;have sl:Slot "set_iterator" "__iter__" "set_iterator.__iter__":=
  .of (owner:="set_iterator") (n:="__iter__") (by rw[typeLookup_type,builtinLookup_eq_fast];kernel_rfl) (by decide +kernel) (by decide +kernel) (by decide +kernel)
   (by first|exact .inl (by decide +kernel)|exact .inr (by decide +kernel)) (by rw[xP];kernel_rfl)
 have en:entryFor table "set_iterator.__iter__"=some Builtin.«dict_keyiterator.__iter__»:=entryFor_alias (id':="dict_keyiterator.__iter__") (by kernel_rfl) rfl (by decide +kernel) (by kernel_rfl)
 have ar:argsOk "set_iterator.__iter__" ⟨[.ref it],[]⟩:=by unfold argsOk;kernel_rfl
 refine wpAny_pyIter_slot T sl (qI sl T en ?_ ar);show wpAny _ _ (ret (.ref it)) _ _ s;exact zB ⟨_,rfl,"set_iterator",_,T,t7.lookup,q⟩
theorem a4r (hh:A.handled=none)(I a:Addr)(hne:a≠I)(es:Array (Int×Value))(ep m:Nat):
  Walks prog w A I [I,a] [I] es.size (fun i v=>∃e,(ordM w a es ep)[i]? =some e/\v=e.2) (StM w I a es ep m) where
 sub:=fun b hb=>by simp at hb;simp[hb]
 frame:=fun i h h' st hk=>by
  obtain⟨⟨slot,st1,st2⟩,S⟩:=st;exact⟨⟨slot,hk I (by simp) _ st1,st2⟩,S.on fun o e=>hk a (by simp) o e⟩
 item:=fun i s Q E hi st hQ=>by
  obtain⟨⟨slot,st1,st2⟩,S⟩:=st;have hz:=S.2.1;refine a1X hh st1 S hne (by walk_at "o") st2 (fun e h' slot' he e2 hs' sb=>hQ _ h' s.toks ⟨e,he,rfl⟩ ⟨⟨slot',e2,hs'⟩,S.on fun o e=>(sb.2 a hne).trans e⟩ fun b o hb e=>(sb.2 b (fun z=>hb (by simp[z]))).trans e) fun h' he _=>?_
  rw[Array.getElem?_eq_none_iff,L8] at he;walk_at "o"
 done:=fun s Q E st hQ=>by
  obtain⟨⟨slot,st1,st2⟩,S⟩:=st;have hz:=S.2.1;refine a1X hh st1 S hne (by walk_at "o") st2 (fun e h' slot' he _ _ _=>?_) fun h' he x=>hQ h' s.toks fun b o hb e=>x b o (fun z=>hb (by simp[z])) e
  have:(ordM w a es ep)[es.size]? =none:=by rw[Array.getElem?_eq_none_iff,L8];exact zE _
  rw[this] at he;cases he
 self:=fun _ _ _ _ st hQ=>by
  obtain⟨⟨slot,st1,st2⟩,S⟩:=st;exact a2B st1 hQ
theorem a6L {Q:Bool->Shared->Prop}(hT:s.TypeIs (.ref a) "set")(h:Q false s):wpAny (model prog w) A (Builtin.List.listLengthHint (.ref a)) Q E s:=by
 have lk:typeLookup (.type "set") "__len__"=pure (some (.builtin "set.__len__")):=by rw[typeLookup_type,builtinLookup_eq_fast];kernel_rfl
 unfold Builtin.List.listLengthHint;refine zA (wpAny_specialOf hT lk ?_);generalize hid:("set.__len__":String)=id0
 wp_delta
 rw[show splitId id0=some ("set","__len__") from by subst hid;decide +kernel]
 subst hid;refine zA (wpAny_isInstance (T:="set") (b:=true) hT (by rw[xP];kernel_rfl) ?_)
 refine wpAny_ite_split (fun hab=>absurd hab (by decide)) (fun _=>?_)
 refine wpAny_ite_split (fun _=>?_) (fun hab=>absurd (by decide +kernel) hab)
 refine zA (wpAny_typeOf hT ?_);exact zB h
theorem a7I:KdlSrc prog w "set" a a es.size (fun i v=>∃e,(ordM w a es ep)[i]? =some e/\v=e.2) (fun h=>SRaw w h a es ep m) where
 type:=fun _ x=>x.typeIs
 there:=fun _ x=>⟨zS x.2.2,zS x.2.2⟩
 keep:=fun _ _ x hk=>x.on fun o e=>hk a (.inl rfl) o e
 notList:=by decide
 notTuple:=by decide
 hint:=fun _ _ _ _ x q=>a6L x.typeIs q
 iter:=fun _ _ hh x=>⟨_,_,(fun _ _ q=>a6T x q),a4r hh _ a (zG (zS x.2.2)) es ep m,⟨⟨0,zL _ rfl,fun _=>rfl⟩,x.on fun o e=>zC _ e⟩⟩
end
theorem EsOk.fst:∀{es:List (Int×Value)} {l:List Nat},EsOk es l->es.map (·.1)=intsN l
 | _,_,.nil=>rfl
 | _,_,.cons h r=>by rw[zJ,EsOk.fst r,h.1];rfl
theorem EsOk.int:∀{es:List (Int×Value)} {l:List Nat},EsOk es l->∀e∈es,∃t,e.2= .int e.1 t
 | _,_,.nil,_,h=>nomatch h
 | _,_,.cons h r,e,he=>by
  rcases zO.mp he with rfl|he
  ·obtain⟨h1,t,h2⟩:=h;exact⟨t,by rw[h1];exact h2⟩
  ·exact EsOk.int r e he
theorem a2m:∀{es:List (Int×Value)},(∀e∈es,∃t,e.2= .int e.1 t)->IntsAre (es.map (·.2)) (es.map (·.1))
 | [],_=>.nil
 | e::es,h=>by
  obtain⟨t,ht⟩:=h e zR;rw[zJ,zJ,ht];exact .cons _ t (a2m fun x hx=>h x (zN _ hx))
theorem a6G (m:Nat):(intsN (lm m)).Pairwise (·<=·):=by
 unfold intsN;exact xS.mpr ((lm_pw m).imp fun h=>by walk_at "o")
section
variable {X:Cx}{e:Expr}{p:Pos}
theorem a1s (hc:X.calm=true):CallR X (.builtin "sorted") (fun xs H Q=>∃p m,xs=[.ref p]/\H p=some (.ext fun h=>SetM X.w h p m)/\∀l,H l=none->Q (.ref l) (upd H l (.lst ((intsN (lm m)).map V.int)))):=by
 intro pins s σ H xs us Q I r h;obtain⟨p,m,rfl,hp,q⟩:=h;obtain⟨u,rfl,ru⟩:=vals1 r;cases ru;obtain⟨⟨hm,es,ep,ho,hes⟩,_,_⟩:=(show ObjOk X.prog X.w H s.heap p (.ext fun h=>SetM X.w h p m) from I.hok p _ hp);have hsz:es.size=(lm m).length:=by rw[<-qD];exact hes.len
 have l8:=T8 m;refine Calls.call_function_entry kind_sorted plain_sorted entry_sorted (args_sorted1 _) ?_;unfold Builtin.«sorted»;refine zA (m:=checkCount "sorted" 1 1 _) (zB ?_);refine zA (PySem.W.kdu_collect (a7I (m:=m) (ep:=ep) (es:=es)) (show X.A.in1.handled=none from I.ok.hd hc) ⟨hm,hsz,ho⟩ (by rw[hsz,qY];walk_at "o") fun G tk acc hk hacc=>?_)
 have ea:acc.toList=(ordM X.w p es ep).toList.map (·.2):=by
  apply xQ;intro i;rw[jI,zW,jI]
  by_cases hi:i<es.size
  ·have hi2:i<acc.size:=by rw[hacc.1];exact hi
   obtain⟨e,he,hv⟩:=hacc.2 i acc[i] (by simp[hi2])
   rw[he,Array.getElem?_eq_getElem hi2,hv];rfl
  ·rw[jH (by rw[hacc.1];walk_at "o"),jH (by rw[L8];walk_at "o")];rfl
 have op:=a00 X.w p es ep;have hI:IntsAre acc.toList ((ordM X.w p es ep).toList.map (·.1)):=by
  rw[ea];exact a2m fun e he=>hes.int e (op.mem_iff.mp he)
 have hP0:((ordM X.w p es ep).toList.map (·.1)).Perm (intsN (lm m)):=by rw[<-hes.fst];exact op.map _
 have hlen:acc.toList.length<=8:=by rw[ea,zD,qD,L8];walk_at "o"
 generalize hA:acc.toList=its at hI hlen ⊢;refine zA (wpAny_newList ?_ (by rw[qY];walk_at "o"))
 have I1:Inv X pins σ H {s with heap:=G,toks:=tk}:=I.kept (t':=tk) hk
 have ho:(G.push (seqObj "list" its.toArray 0)).get? G.objs.size=some (seqObj "list" its.toArray 0):=zL _ rfl;refine zA (qM ?_);refine qI PyProof.Rows.slot_list_sort ⟨_,ho,rfl⟩ PyProof.Rows.entry_list_sort (list_sort_tree (n:=0) (vs:=its) ho hI (by walk_at "o") fun out ns' hI' hp' hP=>⟨.none,rfl,?_⟩) (PyProof.Rows.args_list_sort _)
 have es':ns'=intsN (lm m):=PySem.W.lks_uniq (hp'.trans hP0) hP (a6G m);subst es';have g1:=yD ho (fun _=> #[]);have g2:=yD (zC (seqObj "list" #[] 0) (zC (seqObj "tuple" its.toArray 0) g1)) (fun _=>out);have kept:∀b o,G.get? b=some o->(sortedHeap (G.push (seqObj "list" its.toArray 0)) G.objs.size its out).get? b=some o:=fun b o e=>by
  have ne:b≠G.objs.size:=zG (zS e);unfold sortedHeap;rw[xD _ _ _ _ ne];refine zC _ (zC _ ?_);rw[xD _ _ _ _ ne];exact zC _ e
 refine zB ⟨_,rfl,.ref G.objs.size,_,I1.laid (t':=tk) (o:=.lst ((intsN (lm m)).map V.int)) kept (zE _) ?_,rfl,q _ (I1.hok.fresh (zE _))⟩;obtain⟨ep',g3⟩:∃ep',(sortedHeap (G.push (seqObj "list" its.toArray 0)) G.objs.size its out).get? G.objs.size=some (seqObj "list" out.toList.toArray ep'):=⟨_,by rw[Array.toArray_toList];exact g2⟩
 exact⟨by rw[zD];unfold intsN;rw[zD,qY];walk_at "o",out.toList,_,F5 hI',g3⟩
theorem S6:∀{ns:List Nat} {its:List Value},Vals ((intsN ns).map V.int) its->its.length=ns.length/\∀(i:Nat) (v:Value),its[i]? =some v->∃(n:Nat) (t:Tok),ns[i]? =some n/\v=Value.int n t
 | [],_,.nil=>⟨rfl,fun i v h=>by simp at h⟩
 | n::ns,_,.cons (b:=u) r t=>by
  obtain⟨h1,h2⟩:=S6 t;obtain⟨tk,rfl⟩:=(show ∃tk,u=Value.int n tk from r);refine⟨by rw[qL,qL,h1],fun i v h=>?_⟩
  cases i with
  | zero=>cases h;exact⟨n,tk,rfl,rfl⟩
  | succ i=>exact h2 i v h
theorem a4t (hc:X.calm=true):CallR X (.type "set") (fun xs H Q=>∃p ns,xs=[.ref p]/\SqT X.K H p ((intsN ns).map V.int)/\(∀n∈ns,n<8)/\∀l,H l=none->Q (.ref l) (upd H l (.ext fun h=>SetM X.w h l (mAll ns)))):=by
 intro pins s σ H xs us Q I r h;obtain⟨p,ns,rfl,hp,h8,q⟩:=h;obtain⟨u,rfl,ru⟩:=vals1 r;cases ru;obtain⟨its,rv,ht,_⟩:=I.tuple hp;obtain⟨hl,hi⟩:=S6 rv;refine a1h (ns:=ns) (I.ok.hd hc) ht h8 (by simpa using hl) (fun i v e=>hi i v (by simpa using e)) fun h' tk hS hk=>?_
 have kp:∀b o,s.heap.get? b=some o->h'.get? b=some o:=fun b o e=>hk b o (zS e) e;refine⟨.ref s.heap.objs.size,_,I.laid (t':=tk) (o:=.ext fun h=>SetM X.w h s.heap.objs.size (mAll ns)) kp (zE _) ⟨hS,?_,fun h1 h2 x k=>?_⟩,rfl,q _ (I.hok.fresh (zE _))⟩
 ·obtain⟨_,es,ep,ho,_⟩:=hS;exact⟨_,ho⟩
 ·obtain⟨hm,es,ep,ho,r⟩:=x;exact⟨hm,es,ep,k _ ho,r⟩
end
theorem Z7:∀bs:List Bool,(bs.map V.bl).all flatV=true
 | []=>rfl
 | n::ns=>by rw[zJ,all_cons,Z7 ns];rfl
theorem Vals.take {xs:List V}{us:List Value}(n:Nat)(r:Vals xs us):Vals (xs.take n) (us.take n):=by
 induction r generalizing n with
 | nil=>simp;exact .nil
 | cons h t ih=>
  cases n with
  | zero=>exact .nil
  | succ n=>exact .cons h (ih n)
theorem Vals.drop {xs:List V}{us:List Value}(n:Nat)(r:Vals xs us):Vals (xs.drop n) (us.drop n):=by
 induction r generalizing n with
 | nil=>simp;exact .nil
 | cons h t ih=>
  cases n with
  | zero=>exact .cons h t
  | succ n=>exact ih n
def insL {α:Type} (xs:List α) (i:Nat) (x:α):List α:=xs.take i++x::xs.drop i
theorem a5D {α:Type}(xs:List α)(i:Nat)(x:α):(insL xs i x).length=xs.length+1:=by
 unfold insL;rw[zZ,qL,jX,jG];walk_at "o"
def rIns:V->List V->Hp->VK->Prop:=fun x vs H Q=>∃l xs y i,x= .ref l/\vs=[.int i,y]/\H l=some (.lst xs)/\xs.length<sizeLine/\(0<=i/\i<2^62)/\Q .non (upd H l (.lst (insL xs i.toNat y)))
section
variable {X:Cx}{o e:Expr}{es:List Expr}{pos apos:Pos}{f:FX}{fa:FA}
theorem a9B:MtR X "list.insert" rIns:=by
 intro pins s σ H x vs v us Q I rx rv ⟨l,xs,y,i,ex,ev,hH,hz,hi,q⟩;subst ex ev;cases rx;cases rv with
 | cons r1 rv=>
  cases rv with
  | cons r2 rv=>
   cases rv;obtain⟨t,rfl⟩:=r1;rename_i u2;obtain⟨z,its,n,r,hl,el⟩:=I.lstM hH;have hlen:=r.length;refine call_meets F.slot_list_insert ⟨_,el,rfl⟩ F.entry_list_insert (F.args_list_insert_3 _ _ _) (PySem.AutoListH.list_insert_list_int_val_1 l its.toArray n i t u2 (fun w=>?_) (by rw[zV];walk_at "o")) ⟨el,?_⟩
   ·unfold Builtin.List.listFitsIndex at w;rw[qE (show -(2^63:Int)<=i by walk_at "o"),qE (show i<2^63 by walk_at "o")] at w
    cases w
   ·refine⟨.non,_,I.lset (its':=insL its i.toNat u2) hH el ?_ ?_ (by rw[a5D];walk_at "o"),rfl,q⟩
    ·dsimp only;rw[if_neg (by walk_at "o")]
     apply Array.toList_inj.mp;unfold insL
     by_cases hc:i.toNat<=its.length
     ·rw[show min i.toNat its.toArray.size=i.toNat by rw[zV];walk_at "o"]
      simp[Array.toList_extract,List.extract];exact jQ (by rw[jG];exact zE _)
     ·rw[show min i.toNat its.toArray.size=its.length by rw[zV];walk_at "o",jQ (by walk_at "o"),List.drop_eq_nil_of_le (by walk_at "o")]
      simp[Array.toList_extract,List.extract]
    ·unfold insL;exact(Vals.take _ r).append (.cons r2 (Vals.drop _ r))
def mIns (xs ds:List D):Option (W×List D):=match ds with
 | [.int i,d]=>if(0<=i/\i<2^62)/\xs.length<lim then some (.v .non,insL xs i.toNat d) else none
 | _=>none
theorem b0b:PrM X mIns rIns:=fun A a xs ds w ys us vs H Q h l l' e q _=>by
 unfold mIns at e;split at e
 ·rename_i i d;split at e
  ·rename_i hi;cases e;rw[DenL] at l';obtain⟨v1,r,rfl,h1,l'⟩:=l';obtain⟨v,rfl,hv⟩:=denL1 l';refine⟨a,us,v,i,rfl,by rw[q8.mp h1],h,by rw[<-b4 l];exact zF hi.2 t6,hi.1,q _ _ ?_ O5⟩
   exact k6 (U4 _ l) (e8 hv (T5 _ l))
  ·cases e
 ·cases e
theorem a9Z:∀xs ds w ys,mIns xs ds=some (w,ys)->∃d,w= .v d:=fun xs ds w ys e=>by
 unfold mIns at e;split at e
 ·split at e
  ·cases e;exact⟨_,rfl⟩
  ·cases e
 ·cases e
theorem a4I (ho:QX X o f)(ha:QA X (e::es) fa)(hbase:attributeBase o "insert" X.env (eval o X.env)=eval o X.env:=by rfl)
  (hfew:((backTo pos (starEach (e::es) X.env)).all (fun x=>!x.1)&&(backToKw pos (keywordEach [] X.env)).all (fun x=>x.1.isSome)&&decide ((e::es).length+([]:List Keyword).length+(if([]:List Keyword).isEmpty then 0 else 1)<30))=true:=by rfl)
  (hline:(apos.endLine==pos.line)=true:=by rfl) (hs:starEach (e::es) X.env=(false,eval e X.env)::starEach es X.env:=by rfl) (hpl:(backTo pos (starEach es X.env)).any (·.1)=false:=by rfl):QX X (.Call (.Attribute o "insert" apos) (e::es) [] pos) (fMut mIns f fa):=
 a9P PySem.F.slot_list_insert PySem.F.type_list_insert a9B b0b a9Z ho ha hbase hfew hline hs hpl
theorem r_ins {xs:List D}{i:Int}{d:D}:mIns xs [.int i,d]=if(0<=i/\i<2^62)/\xs.length<lim then some (.v .non,insL xs i.toNat d) else none:=rfl
end
theorem a2l {K:PySem.W.Frag}{A:Av}{H:Hp}:∀{ds:List D} {vs:List V},DenL K A H ds vs->DenL K A H ds.reverse vs.reverse
 | [],_,h=>by rw[DenL] at h;subst h;exact g8
 | d::ds,_,h=>by
  rw[DenL] at h;obtain⟨v,r,rfl,q,l⟩:=h;rw[reverse_cons,reverse_cons];exact k6 (a2l l) (e8 q g8)
section
open Classical in
end
def ownC (names:List (Str×NameKind)) (x:Str):Bool:=names.any fun q=>q.1==x&&q.2 == .cell
theorem a0O {n x:Str}{k:NameKind}{r:List (Str×NameKind)}:ownC ((n,k)::r) x=((n==x&&k == .cell)||ownC r x):=rfl
theorem a0o:∀{names:List (Str×NameKind)} {n:Nat} {acc:List (Str×Addr)} {x:Str},ownC names x=false->(cellsFrom n names acc).lookup x=acc.lookup x
 | [],_,_,_,_=>rfl
 | (m,k)::r,n,acc,x,h=>by
  rw[a0O,Bool.or_eq_false_iff] at h;unfold cellsFrom
  split
  ·rename_i hk;rw[a0o h.2,yF]
   have:(x==m)=false:=by
    cases q:x==m with
    | false=>rfl
    | true=>
     have e:x=m:=by simpa using q
     have z:=h.1;rw[e,hk] at z;simp at z
   rw[this]
  ·exact a0o h.2
theorem a8W:∀{names:List (Str×NameKind)} {n:Nat} {acc:List (Str×Addr)} {x:Str},ownC names x=true->∃c,(cellsFrom n names acc).lookup x=some c
 | [],_,_,_,h=>by cases h
 | (m,k)::r,n,acc,x,h=>by
  cases q:ownC r x with
  | true=>unfold cellsFrom;split<;>exact a8W q
  | false=>
   rw[a0O,q,Bool.or_false,jV] at h;unfold cellsFrom;rw[if_pos h.2,a0o q,yF];have e:m=x:=by simpa using h.1
   subst e;simp
theorem a3X:∀{names:List (Str×NameKind)} {n:Nat} {acc:List (Str×Addr)} {x:Str} {c:Addr},(cellsFrom n names acc).lookup x=some c->n<=c\/acc.lookup x=some c
 | [],_,_,_,_,h=>.inr h
 | (m,k)::r,n,acc,x,c,h=>by
  unfold cellsFrom at h;split at h
  ·rcases a3X h with z|z
   ·exact .inl (by walk_at "o")
   ·rw[yF] at z;cases q:x==m with
    | true=>rw[q] at z;cases z;exact .inl (zE _)
    | false=>rw[q] at z;exact .inr z
  ·exact a3X h
theorem a2V:∀{names:List (Str×NameKind)} {n:Nat} {acc:List (Str×Addr)},(∀x c,acc.lookup x=some c->c<n)->(∀x y c,acc.lookup x=some c->acc.lookup y=some c->x=y)->∀x y c,(cellsFrom n names acc).lookup x=some c->(cellsFrom n names acc).lookup y=some c->x=y
 | [],_,_,_,h=>h
 | (m,k)::r,n,acc,hl,hi=>by
  unfold cellsFrom
  split
  ·refine a2V (fun x c e=>?_) fun x y c e1 e2=>?_
   ·rw[yF] at e;cases q:x==m with
    | true=>rw[q] at e;cases e;exact jU _
    | false=>rw[q] at e;exact xI (hl x c e)
   ·rw[yF] at e1 e2;cases q1:x==m with
    | true=>
     rw[q1] at e1;cases e1;cases q2:y==m with
     | true=>
      have a:x=m:=by simpa using q1
      have b:y=m:=by simpa using q2
      rw[a,b]
     | false=>rw[q2] at e2;exact absurd (hl y _ e2) (jD _)
    | false=>
     rw[q1] at e1;cases q2:y==m with
     | true=>rw[q2] at e2;cases e2;exact absurd (hl x _ e1) (jD _)
     | false=>rw[q2] at e2;exact hi x y c e1 e2
  ·exact a2V hl hi
theorem a1K:∀{names:List (Str×NameKind)} {h:Heap} {acc:List (Str×Addr)},(∀x c,acc.lookup x=some c->∃v,h.IsCell c v)->∀x c,(cellsFrom h.objs.size names acc).lookup x=some c->∃v,(pushCells h names).IsCell c v
 | [],_,_,h=>h
 | (m,k)::r,h,acc,hc=>by
  unfold cellsFrom pushCells
  split
  ·have z:=a1K (names:=r) (h:=h.push {cls:=.type "cell",data:=.cell none}) (acc:=(m,h.objs.size)::acc) fun x c e=>by
    rw[yF] at e;cases q:x==m with
    | true=>rw[q] at e;cases e;exact⟨none,_,zL _ rfl,rfl⟩
    | false=>
     rw[q] at e;obtain⟨v,w⟩:=hc x c e;exact⟨v,w.keeps fun b o e=>zC _ e⟩
   rwa [jR] at z
  ·exact a1K hc
theorem a14 {M:Model}{A:Around}{E:Value->Shared->Prop}{s:Shared}{scope:Scope}{globals:Addr}{closure:List (Str×Addr)}{qual:Str}{func:Option Addr}{code:Value}{around:Env}{builtins:Addr}{Q:Env->Shared->Prop}
  (hQ:Q (newEnv scope s.heap.objs.size globals (cellsFrom (s.heap.objs.size+1) scope.names closure) qual func code (some around) builtins) {s with heap:=pushCells (s.heap.push {cls:=.type "dict",data:=.dict #[]}) scope.names}):
  wpAny M A (newFunctionEnv scope globals closure [] qual func code (some around) builtins) Q E s:=by
 simp only[newFunctionEnv,isSome_some,qW];refine zA (wpAny_alloc ?_);refine zA (wpAny_layCells _ (fun name kind cells=>by cases hkc:kind==NameKind.cell<;>simp[hkc]) _ _ _ _ ?_)
 rw[show({s with heap:=s.heap.push {cls:=.type "dict",data:=.dict #[]}}:Shared).heap.objs.size=s.heap.objs.size+1 from jR ..]
 refine zA ?_;rw[List.forIn_nil];exact zB (zB hQ)
def blkC (X:Cx) (scope:Scope) (cl:List (Str×Addr)) (s2:Shared) (H2:Hp) (fp:List Addr) (C:Addr) (N:List Str):Cx where
 prog:=X.prog
 w:=X.w
 K:=X.K
 mg:=X.mg
 base:=X.base
 A:=X.A
 N:=N
 s₀:=s2
 H₀:=H2
 env:=compEnvC scope (cellsFrom (C+1) scope.names cl) C X.env
 outer:=X.stack
 stack:=X.stack
 ex:=fp
 fn:=ownC scope.names
 calm:=X.calm
 pn:=[]
 xe:=fun _ _=>False
structure BlkC (X:Cx) (scope:Scope) (cl:List (Str×Addr)) (N:List Str) (js:List (Option Nat)):Prop where
 clos:closureFor scope X.env=pure cl
 kind:scope.kind= .function
 apart:∀y c,cl.lookup y=some c->ownC scope.names y=false
 nms:∀y∈scope.names,y.2= .local->scope.names.lookup y.1=some .local
 cap:Cap X (relabel scope X.env) cl N js
 sub:∀y c,cl.lookup y=some c->X.env.cells.lookup y=some c
 has:∀y,((relabel scope X.env).names.lookup y=some .cell\/(relabel scope X.env).names.lookup y=some .free)->(∃c,cl.lookup y=some c)\/ownC scope.names y=true
 acc:∀k,(relabel scope X.env).names.lookup accN≠some k
section
variable {X:Cx}{pins:List (Addr×PySem.Obj)}{σ:L2.St}{H2:Hp}{s2 s4:Shared}{scope:Scope}{cl:List (Str×Addr)}{N:List Str}{js:List (Option Nat)}{fp:List Addr}{Dd C:Addr}{m:Str->Option Value}
theorem BlkC.lo (b:BlkC X scope cl N js){n:Nat}{x:Str}{c:Addr}(e:(cellsFrom n scope.names cl).lookup x=some c):n<=c\/X.env.cells.lookup x=some c:=(a3X e).imp id (b.sub x c)
theorem BlkC.lt (I:Inv X pins σ H2 s2){x:Str}{c:Addr}(e:X.env.cells.lookup x=some c):c<s2.heap.objs.size:=by
 obtain⟨v,z⟩:=I.cell x c e;exact z.lt
theorem a8b (I:Inv X pins σ H2 s2)(b:BlkC X scope cl N js)(f2:∀y∈fp,FpOk X pins H2 y)(fl:∀y∈fp,y<s2.heap.objs.size)(hC:s2.heap.objs.size<=C):(blkC X scope cl s2 H2 fp C (N++[accN])).Ok where
 mod:=I.ok.mod
 kind:=b.kind
 glob:=I.ok.glob
 blt:=I.ok.blt
 above:=hC
 inj:=a2V (fun x c e=>xI (zF (BlkC.lt I (b.sub x c e)) hC)) fun x y c e1 e2=>I.ok.inj x y c (b.sub x c e1) (b.sub y c e2)
 has:=fun x h=>by
  rcases b.has x h with ⟨c,e⟩|e
  ·exact⟨c,(a0o (b.apart x c e)).trans e⟩
  ·exact a8W e
 cab:=fun x c h e=>by
  rcases a3X e with z|z
  ·exact qH hC (yJ z)
  ·have h':ownC scope.names x=true:=h;rw[b.apart x c z] at h';cases h'
 hd:=I.ok.hd
 frames:=I.ok.frames
 stk:=.inl rfl
 exf:=fun y hy=>⟨zG (zF (fl y hy) hC),fun x c e=>by
  rcases b.lo e with z|z
  ·exact xE (zF (fl y hy) (qH hC (yJ z)))
  ·exact(f2 y hy).2.2.2.2.1 x c z⟩
 bs:=I.bs
 bsz:=qH I.ok.bsz I.sz
 noex:=fun y o e hy=>by
  rcases(f2 y hy).2.2.2.1 with z|z
  ·exact I.ok.noex y o e z
  ·exact absurd (zF (zS e) (qH I.ok.bsz z)) (jD _)
 exfs:=fun y hy z=>(zO.mp (I.stkSub y z)).elim (f2 y hy).2.1 (f2 y hy).2.2.1
 funs:=I.stack
 frf:=I.stkFree
theorem a5X (I:Inv X pins σ H2 s2)(b:BlkC X scope cl N js)(f2:∀y∈fp,FpOk X pins H2 y)(fl:∀y∈fp,y<s2.heap.objs.size)(hC:s2.heap.objs.size<=C)(hD:s2.heap.objs.size<=Dd)(ne:Dd<C)
  (ho:s4.os=s2.os) (hg:AllBare s4.gens) (kp:∀y o,s2.heap.get? y=some o->s4.heap.get? y=some o) (hn:s4.heap.Ns C m) (hk:HOk X.prog X.w (upd H2 Dd (.lst [])) s4.heap)
  (hc:∀x c,(cellsFrom (C+1) scope.names cl).lookup x=some c->∃v,s4.heap.IsCell c v):
  Inv (blkC X scope cl s2 H2 fp C (N++[accN])) [] (capS js σ++[some (.ref Dd)]) (upd H2 Dd (.lst [])) s4:=by
 have nD:∀y o,s2.heap.get? y=some o->y≠Dd:=fun y o e=>zG (zF (zS e) hD);have nH:∀y u,H2 y=some u->y≠Dd:=fun y u e=>zG (zF (I.hok.lt e) hD);have cD:∀x c,(cellsFrom (C+1) scope.names cl).lookup x=some c->c≠Dd:=fun x c e=>by
  rcases b.lo e with z|z
  ·exact xE (zF ne (yJ z))
  ·exact zG (zF (BlkC.lt I z) hD)
 refine⟨a8b I b f2 fl hC,ho,hg,⟨fun y o e _ _ _=>kp y o e,fun y o e _ _ _=>⟨o.slots,kp y o e⟩,fun y o e n _=>?_,fun y o e _=>⟨o,kp y o e⟩,fun y xs e=>?_,fun y o u e=>?_,fun y ps e=>?_⟩,⟨m,hn,fun i x v e1 e2 e3=>?_⟩,hc,?_,fun x c e=>?_,fun p hp=>absurd (show p∈([]:List (Addr×PySem.Obj)) from hp) (by simp),hk,?_⟩
 ·rw[c6 (nD y o e)];exact n
 ·rw[c6 (nH _ _ e)];exact e
 ·rw[c6 (nH _ _ e)];exact e
 ·have e':H2 y=some (.tbl ps):=e;exact⟨#[],by rw[c6 (nH _ _ e'),e'];simp⟩
 ·have hl:js.length=N.length:=b.cap.len
  by_cases hi:i<N.length
  ·have e1':N[i]? =some x:=by
    have z:(N++[accN])[i]? =some x:=e1;rw[zQ hi] at z;exact z
   rw[zQ (by unfold capS;simp;walk_at "o")] at e2
   unfold capS at e2;rw[zW] at e2;cases ej:js[i]? with
   | none=>rw[ej] at e2;cases e2
   | some o=>
    rw[ej] at e2;cases o with
    | none=>cases e2
    | some j=>
     obtain⟨c1,c2,c3,c4⟩:=b.cap.get e1' ej;simp only[jJ,bind_some] at e2;have e2':σ[j]? =some (some v):=by
      cases q:σ[j]? with
      | none=>rw[q] at e2;cases e2
      | some o=>rw[q] at e2;simp at e2;rw[e2]
     obtain⟨m2,_,hl2⟩:=I.loc;obtain⟨u,r,lk⟩:=hl2 j x v c1 e2' (.inr (.inl c2));refine⟨u,r,.inr ⟨.inl c3,?_⟩⟩;rcases lk with ⟨k,_⟩|⟨_,c,e,z⟩
     ·have k':X.env.scope.names.lookup x=some .local:=k;rw[c2] at k';cases k'
     ·exact⟨c,(a0o (b.apart x c (c4.trans e))).trans (c4.trans e),z.keeps kp⟩
  ·have hx:x=accN:=by
    have z:(N++[accN])[i]? =some x:=e1;rw[zT (by walk_at "o")] at z
    cases q:i-N.length with
    | zero=>rw[q] at z;simp at z;exact z.symm
    | succ k=>rw[q] at z;simp at z
   subst hx;rcases e3 with z|z|z
   ·exact absurd z (b.acc _)
   ·exact absurd z (b.acc _)
   ·exact absurd z (b.acc _)
 ·show upd H2 Dd (.lst []) C=none;rw[c6 (xE ne)];exact I.hok.fresh hC
 ·rw[c6 (cD x c e)];rcases b.lo e with z|z
  ·exact I.hok.fresh (qH hC (yJ z))
  ·exact I.freeC x c z
 ·show(capS js σ++[some (V.ref Dd)]).length=(N++[accN]).length;unfold capS;simp[b.cap.len]
end
section
variable {X:Cx}{scope:Scope}{cl:List (Str×Addr)}{N:List Str}{js:List (Option Nat)}
theorem a8c (cap:Cap X (relabel scope X.env) cl N js)(clos:closureFor scope X.env=pure cl)(sub:AllC X cl)(has:(relabel scope X.env).names.all (fun p=>(p.2 != .cell&&p.2 != .free)||(cl.lookup p.1).isSome||ownC scope.names p.1)=true)(apart:cl.all (fun p=>!ownC scope.names p.1)=true)(kind:scope.kind= .function:=by rfl)
  (nms:scope.names.all (fun y=>y.2 != .local||scope.names.lookup y.1==some .local)=true:=by decide +kernel) (acc:(relabel scope X.env).names.lookup accN=none:=by rfl):BlkC X scope cl N js where
 clos:=clos
 kind:=kind
 apart:=fun y c h=>by have:=jY.mp apart (y,c) (D9 h);simpa using this
 nms:=fun y hy hl=>by have:=jY.mp nms y hy;rw[hl] at this;simpa using this
 cap:=cap
 sub:=sub.sub
 has:=fun y h=>by
  have key:∀k,(relabel scope X.env).names.lookup y=some k->k= .cell\/k= .free->(∃c,cl.lookup y=some c)\/ownC scope.names y=true:=fun k e hk=>by
   have:=jY.mp has (y,k) (D9 e)
   rcases hk with rfl|rfl<;>simpa [jP] using this
  rcases h with h|h
  ·exact key _ h (.inl rfl)
  ·exact key _ h (.inr rfl)
 acc:=fun k e=>by rw[acc] at e;cases e
variable {s2:Shared}{H2:Hp}{fp:List Addr}{C:Addr}{M:List Str}{P:List (D×V)}{O:Av}{L:List (Option Nat×Addr)}{ρ:Ev}{σ:L2.St}{H:Hp}
theorem a7v (r:Rep (blk X scope cl s2 H2 fp C M) P O L ρ σ H):Rep (blkC X scope cl s2 H2 fp C M) P O L ρ σ H:=⟨r.1,r.2,r.3,r.4,r.5,r.6,r.7,r.8,r.9,r.10⟩
theorem a7A (r:Rep (blkC X scope cl s2 H2 fp C M) P O L ρ σ H):Rep (blk X scope cl s2 H2 fp C M) P O L ρ σ H:=⟨r.1,r.2,r.3,r.4,r.5,r.6,r.7,r.8,r.9,r.10⟩
end
section
variable {X:Cx}{pins:List (Addr×PySem.Obj)}{σ:L2.St}{H2:Hp}{s2:Shared}{scope:Scope}{cl:List (Str×Addr)}{N:List Str}{js:List (Option Nat)}{fp:List Addr}{it:Addr}{tn:Nat->Heap->Prop}{J:It}{elt tg iter:Expr}{ifs:List Expr}{pos:Pos}{P:List (D×V)}{O:Av}{L:List (Option Nat×Addr)}{ρ ρe:Ev}{xs:List D}{gf:FG}{t:FT}{fe:FX}{Qq:Value->Shared->Prop}{use:Option (Value->Sem Unit)}{li:Option (Nat×Nat)}
theorem a4l (hcalm:X.calm=true)(I2:Inv X pins σ H2 s2)(T:Turn X.prog X.w X.K tg J fp it tn)(st2:tn 0 s2.heap)(f2:∀y∈fp,FpOk X pins H2 y)(b:BlkC X scope cl N js)(r:Rep X P O L ρ σ H2)(hl:LiOk li js ρ)(wk:WksB li X.K P O ρ σ H2 xs J)
  (hg:∀C,QG (blkC X scope cl s2 H2 fp C (N++[accN])) tg gf) (ht:∀C,Tst (blkC X scope cl s2 H2 fp C (N++[accN])) ifs t) (he:∀C,QX (blkC X scope cl s2 H2 fp C (N++[accN])) elt fe)
  (e:loopC (turnC js.length gf t fe) xs (capE (li.map (·.2)) js ρ++[some (.l (.lst []))])=some ρe)
  (fin:∀(Dd C:Addr) (σe:L2.St) (He:Hp) (s1:Shared),H2 Dd=none->s2.heap.objs.size<=C->Inv (blkC X scope cl s2 H2 fp C (N++[accN])) [] σe He s1->Rep (blkC X scope cl s2 H2 fp C (N++[accN])) P (fun b=>AvO O ρ σ b/\¬Capd ρ σ js b) ((some js.length,Dd)::lentL li σ) ρe σe He->
   compPost (model X.prog X.w) X.A X.xe use Qq (.ref Dd) C (.ok .next) s1):
  wpAny (model X.prog X.w) X.A (newList []) (fun acc s3=>wpAny (model X.prog X.w) X.A (newFunctionEnv scope X.env.globals cl [] X.env.qual none .none (some X.env)) (fun cenv s4=>
   codeAny (model X.prog X.w) X.A (.compStart (.ListComp elt [⟨tg,iter,ifs,0⟩] scope pos) 0 (.ref it) acc {cenv with scope:=relabel scope X.env}) (compPost (model X.prog X.w) X.A X.xe use Qq acc cenv.locals) s4) X.xe s3) X.xe s2:=by
 have fl:∀y∈fp,y<s2.heap.objs.size:=fun y hy=>by obtain⟨o,eo,_⟩:=T.obj _ _ st2 y hy;exact zS eo
 refine qF (a14 ?_);dsimp only;generalize hH:s2.heap.push {cls:=.type "list",dict:=none,data:=.seq ([]:List Value).toArray}=H3;generalize hh':pushCells (H3.push {cls:=.type "dict",data:=.dict #[]}) scope.names=h';have kpc:∀y o,(H3.push {cls:=.type "dict",data:=.dict #[]}).get? y=some o->h'.get? y=some o:=fun y o e=>hh'▸pushCells_keeps scope.names _ y o e;have hC:H3.objs.size=s2.heap.objs.size+1:=by rw[<-hH,jR]
 have ne:s2.heap.objs.size≠H3.objs.size:=by rw[hC];exact zG (jU _)
 have leC:s2.heap.objs.size<=H3.objs.size:=by rw[hC];exact Nat.le_succ _
 have kp3:∀y o,s2.heap.get? y=some o->H3.get? y=some o:=fun y o e=>hH▸zC _ e;have kp4:∀y o,H3.get? y=some o->h'.get? y=some o:=fun y o e=>kpc y o (zC _ e);have hns:h'.Ns H3.objs.size (fun _=>none):=(Heap.Ns.new ..).keeps kpc;have hDn:H2 s2.heap.objs.size=none:=I2.hok.fresh (zE _);have ok3:HOk X.prog X.w (upd H2 s2.heap.objs.size (.lst [])) H3:=I2.hok.laid kp3 (zE _) ⟨jW _,[],0,.nil,by rw[<-hH];exact zL _ rfl⟩
 have I4:=a5X (s4:={s2 with heap:=h'}) (Dd:=s2.heap.objs.size) (C:=H3.objs.size) I2 b f2 fl leC (zE _) (by rw[hC];exact jU _) rfl I2.bare (fun y o e=>kp4 y o (kp3 y o e)) hns (ok3.kept kp4) (by
  have z:=a1K (names:=scope.names) (h:=H3.push {cls:=.type "dict",data:=.dict #[]}) (acc:=cl) fun x c e=>by
   obtain⟨v,q⟩:=I2.cell x c (b.sub x c e);exact⟨v,q.keeps fun y o e=>zC _ (kp3 y o e)⟩
  rw[jR] at z;rw[<-hh']
  exact z)
 have R4:=a7v <| a3G (d0:=.lst []) (o0:=.lst []) (fun _ _ e=>⟨[],e,g8⟩) (scope:=scope) (cl:=cl) (N:=N) (s2:=s2) (fp:=fp) (C:=H3.objs.size) (Dd:=s2.heap.objs.size) r hl hDn;have hfree:∀{H':Hp},(∀y∈fp,H' y=none)->∀y∈fp,FpOk (blkC X scope cl s2 H2 fp H3.objs.size (N++[accN])) [] H' y:=fun hn y hy=>
  ⟨hn y hy,zG (zF (fl y hy) leC),fun z=>(zO.mp (I2.stkSub y z)).elim (f2 y hy).2.1 (f2 y hy).2.2.1,.inl hy,fun x c ec=>by
   rcases b.lo ec with z|z
   ·exact xE (zF (fl y hy) (qH leC (yJ z)))
   ·exact(f2 y hy).2.2.2.2.1 x c z,fun p hp=>absurd (show p∈([]:List (Addr×PySem.Obj)) from hp) (by simp)⟩
 obtain⟨gg,pg,kg⟩:=(hg H3.objs.size).to;have loop:∀s5:Shared,s5={s2 with heap:=h'}->
   codeAny (model X.prog X.w) X.A (.compLoop (.ListComp elt [⟨tg,iter,ifs,0⟩] scope pos) 0 (.ref it) (.ref s2.heap.objs.size) (compEnvC scope (cellsFrom (H3.objs.size+1) scope.names cl) H3.objs.size X.env))
    (compPost (model X.prog X.w) X.A X.xe use Qq (.ref s2.heap.objs.size) H3.objs.size) s5:=by
  rintro s5 rfl
  let Y:=blkC X scope cl s2 H2 fp H3.objs.size (N++[accN])
  let O':Av:=fun b=>AvO O ρ σ b/\¬Capd ρ σ js b
  let L':=(some js.length,s2.heap.objs.size)::lentL li σ
  refine a0N (fun n s=>∃i σ' H' ρ',n=xs.length-i/\i<=xs.length/\Inv Y [] σ' H' s/\tn i s.heap/\(∀y∈fp,H' y=none)/\Rep Y P O' L' ρ' σ' H'/\loopC (turnC js.length gf t fe) (xs.drop i) ρ'=some ρe) ?_ xs.length
   ⟨0,_,_,_,by simp,jW _,I4,T.keep 0 _ _ st2 fun y hy o eo=>kp4 y o (kp3 y o eo),fun y hy=>by rw[c6 (zG (fl y hy))];exact(f2 y hy).1,R4,by simpa using e⟩
  rintro n s ⟨i,σ',H',ρ',rfl,hi,I,st,fr,rp,el⟩;obtain⟨wi,ws⟩:=wk Y O' L' ρ' σ' H' rfl rfl rp (fun b z=>z.1) (fun z i b m=>by subst z;exact(zO.mp m).elim (fun m=>by cases m;exact hDn) (fun m=>by cases m))
  by_cases hlt:i<xs.length
  ·obtain⟨go,yl⟩:=wi i xs[i] (by simp[hlt])
   refine qB (T.item Y rfl rfl rfl hcalm i [] s σ' H' Fa I (hfree fr) st go) (fun r s1 ⟨u,hr,h1⟩=>?_) fun _ _ z=>z;subst hr;refine qB h1 (fun _ s3 ⟨x,H5,I5,r5,y5,st5,fr5⟩=>?_) fun _ _ z=>z;obtain⟨sm5,dx⟩:=yl x H5 y5
   replace rp:=rp.grow sm5
   rw[xL hlt,loopC] at el;cases e1:turnC js.length gf t fe xs[i] ρ' with
   | none=>rw[e1] at el;cases el
   | some ρt=>
    rw[e1] at el;simp only[bind_some] at el;unfold turnC at e1;cases e2:gf xs[i] ρ' with
    | none=>rw[e2] at e1;cases e1
    | some ρ1=>
     rw[e2] at e1;simp only[bind_some] at e1;obtain⟨⟨k,ρ2⟩,e3,e1⟩:=obs e1;dsimp only at e1;have I5':=I5.pinned (hfree fr5) (T.obj _ _ st5);have gq:=kg P O' L' xs[i] x ρ' ρ1 σ' H5 (fun σ2 Hh=>Rep Y P O' L' ρ1 σ2 Hh) rp dx e2 (fun σ2 H2' rp2=>rp2);refine qB (pg _ s3 σ' H5 x u _ I5' r5 gq) (fun _ s6 ⟨σ6,H6,I6,rp6⟩=>?_) fun _ _ z=>z;have back:∀{s7:Shared} {H7:Hp} {ρ7:Ev},Inv Y ([]++pinsAt fp s3.heap) σ6 H7 s7->Rep Y P O' L' ρ7 σ6 H7->loopC (turnC js.length gf t fe) (xs.drop (i+1)) ρ7=some ρe->
       ∃m,m<xs.length-i/\∃i σ' H' ρ',m=xs.length-i/\i<=xs.length/\Inv Y [] σ' H' s7/\tn i s7.heap/\(∀y∈fp,H' y=none)/\Rep Y P O' L' ρ' σ' H'/\loopC (turnC js.length gf t fe) (xs.drop i) ρ'=some ρe:=fun{s7 H7 ρ7} I7 rp7 e7=>by
      refine⟨xs.length-(i+1),by walk_at "o",i+1,σ6,H7,ρ7,rfl,hlt,I7.unpinned,T.keep _ _ _ st5 fun y hy o eo=>(I7.pin (y,o) (qP _ (qP _ (w4 hy eo)))).1,fun y hy=>?_,rp7,e7⟩
      obtain⟨o,eo,_⟩:=T.obj _ _ st5 y hy;exact(I7.pin (y,o) (qP _ (qP _ (w4 hy eo)))).2.1
     refine qB ((ht H3.objs.size).to _ s6 σ6 H6 P O' L' ρ1 ρ2 k (fun k' Hh=>k'=k/\Rep Y P O' L' ρ2 σ6 Hh) I6 rp6 e3 (fun H' rr=>⟨rfl,rr⟩)) (fun ok s7 ⟨H7,I7,hk,rp7⟩=>?_) fun _ _ z=>z;subst hk;cases ok with
     | false=>
      rw[if_neg zP] at e1 ⊢;cases e1;exact back I7 rp7 el
     | true=>
      rw[if_pos rfl] at e1 ⊢;obtain⟨⟨w,ρ3⟩,e4,e1⟩:=obs e1;simp only[appTo] at e1;obtain⟨⟨ds,ρ4⟩,e5,e1⟩:=obs e1;dsimp only at e1;split at e1
      ·rename_i d zs e6;split at e1
       ·rename_i hl;cases e1;refine qB ((he H3.objs.size).to _ s7 σ6 H7 (fun v H8=>Rep Y P O' L' ρ4 σ6 H8/\Den X.K (AvO O' ρ4 σ6) H8 d v) I7 ⟨P,O',L',ρ2,w,ρ3,rp7,e4,fun v H8 H8' r8 s8 d8=>?_⟩) (fun u8 s8 ⟨v8,H8,I8,r8,rp8,d8⟩=>?_) fun _ _ z=>z
        ·obtain⟨r9,l9,_⟩:=m5 (vs:=[v]) (r8.grow s8) e5 ⟨v,[],rfl,d8.fz r8 s8,rfl⟩;obtain⟨v',ev,h'⟩:=denL1 l9;cases ev;exact⟨r9,h'⟩
        ·obtain⟨d0,q1,q2⟩:=rp8.lnd js.length s2.heap.objs.size zR;have e6':=e6;unfold ownAt at e6';rw[q1] at e6';cases e6';obtain⟨a,h1,vs,h4,lz⟩:=rp8.obj q1 rfl;rw[q2] at h1;cases h1;have h9:=V3 (X:=Y) _ s8 σ6 H8 (.ref s2.heap.objs.size) [v8] (.ref s2.heap.objs.size) [u8] (fun v H9=>H9=upd H8 s2.heap.objs.size (.lst (vs++[v8]))) I8 rfl (.cons r8 .nil) ⟨_,vs,v8,rfl,rfl,h4,by rw[<-b4 lz];exact zF hl t6,rfl⟩
         refine qB h9 (fun _ s9 ⟨v9,H9,I9,_,e9⟩=>?_) fun _ _ z=>z;subst e9;have g0:Go (AvO O' ρ4 σ6) (AvO O' ρ4 σ6) (fun b=>b=s2.heap.objs.size) H8 (upd H8 s2.heap.objs.size (.lst (vs++[v8]))):=⟨fun b o eb nb=>by rw[c6 nb];exact eb,fun b z=>by rw[z];exact⟨.inr ⟨js.length,_,_,q1,rfl,q2⟩,_,h4,trivial⟩,fun b z=>.inl z⟩
         exact back I9 (rp8.mut (d:=.lst (zs++[d])) e6 q2 (fun b o eb nb=>by rw[c6 nb];exact eb) ⟨_,j5,m6 g0 _ _ (k6 lz (e8 d8 g8))⟩) el
       ·cases e1
      ·cases e1
  ·have hie:i=xs.length:=by walk_at "o"
   subst hie;refine qB (T.done Y rfl rfl rfl hcalm _ [] s σ' H' Fa I (hfree fr) st ws) (fun r s1 ⟨hr,I1⟩=>?_) fun _ _ z=>z;subst hr;rw[List.drop_eq_nil_of_le (zE _),loopC] at el;cases el;exact fin _ _ σ' H' s1 hDn leC I1 rp
 exact codeAny_compStart_list (loop _ rfl) (T.self _ 0 _ _ _ (T.keep 0 _ _ st2 fun y hy o eo=>kp4 y o (kp3 y o eo)) (loop _ rfl))
theorem a42 {C:Addr}{σe:L2.St}{He:Hp}{s1:Shared}{h9:Heap}(I2:Inv X pins σ H2 s2)(f2:∀y∈fp,FpOk X pins H2 y)(leC:s2.heap.objs.size<=C)(I1:Inv (blkC X scope cl s2 H2 fp C (N++[accN])) [] σe He s1)(hs9:∀y,y≠C->h9.get? y=s1.heap.get? y):
  Inv X pins σ He {s1 with heap:=h9}:=by
 have neC:∀y,He y≠none->y≠C:=fun y z w=>z (by rw[w];exact I1.free)
 have inS:∀y o,s2.heap.get? y=some o->y≠C:=fun y o e0=>zG (zF (zS e0) leC);have B:=I1.base
 have un:Un (frs X.stack) fp H2 He s2.heap h9:=⟨fun y o e0 n hb hx=>(hs9 y (inS y o e0)).trans (B.keep y o e0 n hb hx),fun y o e0 n hb hx=>by
   obtain⟨sl',z⟩:=B.slot y o e0 n hb hx;exact⟨sl',(hs9 y (inS y o e0)).trans z⟩,B.free,fun y o e0 hx=>by
   obtain⟨o',z⟩:=B.there y o e0 hx
   exact⟨o',(hs9 y (inS y o e0)).trans z⟩,B.tups,B.frzs,B.tbls⟩
 have hok:HOk X.prog X.w He h9:=fun y u0 q0=>(I1.hok y u0 q0).stay (fun c v hc z=>(hs9 c (neC c (by
   rcases hc with w|w
   ·rw[w,q0];exact fun z=>nomatch z
   ·rw[w];exact fun z=>nomatch z))).trans z) (fun _ z=>z) fun _ _ z=>z
 exact I2.call' (s':={s1 with heap:=h9}) (ch:=fp) I1.os un hok I1.bare (fun y hy=>⟨(f2 y hy).2.2.2.1,(f2 y hy).2.1,(f2 y hy).2.2.2.2.1,(f2 y hy).2.2.2.2.2⟩)
end
section
variable {X:Cx}{pins:List (Addr×PySem.Obj)}{σ σe:L2.St}{H2 He:Hp}{s2:Shared}{scope:Scope}{cl:List (Str×Addr)}{N:List Str}{js:List (Option Nat)}{fp:List Addr}{Dd C:Addr}{elt tg iter:Expr}{ifs:List Expr}{pos:Pos}{P:List (D×V)}{O:Av}{L:List (Option Nat×Addr)}{ρ ρe:Ev}{w:W}{ys:List D}{fi:FI}{gf:FG}{t:FT}{fe:FX}{li:Option (Nat×Nat)}
theorem a4R {Q:VK}{Qq:Value->Shared->Prop}{use:Option (Value->Sem Unit)}{H:Hp}{s:Shared}{newPos:Pos}(hc:X.calm=true)(b:BlkC X scope cl N js)(hj:liJ li js=true)(hi:QIB X li tg iter fi)
  (hg:∀s2 H2 fp C,QG (blkC X scope cl s2 H2 fp C (N++[accN])) tg gf) (ht:∀s2 H2 fp C,Tst (blkC X scope cl s2 H2 fp C (N++[accN])) ifs t) (he:∀s2 H2 fp C,QX (blkC X scope cl s2 H2 fp C (N++[accN])) elt fe) (hs:∀x,foldedSetIterable iter X.env x=pure x)
  (I:Inv X pins σ H s) (h:tX X (fComp fi li js gf t fe) σ H Q)
  (fin:∀(C:Addr) (v:V) (He:Hp) (s1:Shared),Q v He->(∀h9:Heap,(∀y,y≠C->h9.get? y=s1.heap.get? y)->Inv X pins σ He {s1 with heap:=h9})->FpOk X pins He C->(∃m,s1.heap.Ns C m)->∀vv,RelV v vv->compPost (model X.prog X.w) X.A X.xe use Qq vv C (.ok .next) s1):
  wpAny (model X.prog X.w) X.A (comprehension (.ListComp elt [⟨tg,iter,ifs,0⟩] scope pos) scope X.env newPos (newList []) false (eval iter X.env) use) Qq X.xe s:=by
 obtain⟨P,O,L,ρ,w,ρ',r,e,q⟩:=h;unfold fComp at e;obtain⟨⟨xs,ρ1⟩,e1,e⟩:=obs e;dsimp only at e;split at e
 ·rename_i hb;cases e2:loopC (turnC js.length gf t fe) xs (capE (li.map (·.2)) js ρ1++[some (.l (.lst []))]) with
  | none=>rw[e2] at e;cases e
  | some ρe=>
   rw[e2] at e;simp only[bind_some] at e;split at e
   ·rename_i ys ey;have hl:=a8M hj hb;refine wpAny_comprehension_free rfl hs b.clos b.kind b.nms ?_;refine qB (hi.to pins s σ H _ I ⟨P,O,L,ρ,xs,ρ1,r,e1,fun J H1 P' r1 hh wk=>(⟨P',r1,hh,wk⟩:∃P',Rep X P' O L ρ1 σ H1/\Holds P' P/\WksB li X.K P' O ρ1 σ H1 xs J)⟩) (fun v s1 h1=>qB h1 (fun itv s2 h2=>?_) fun _ _ z=>z) fun _ _ z=>z;obtain⟨it,fp,tn,J,H2,rfl,I2,T,st2,f2,P',r1,hh,wk⟩:=h2;refine a4l hc I2 T st2 f2 b r1 hl wk (hg s2 H2 fp) (ht s2 H2 fp) (he s2 H2 fp) e2 fun Dd C σe He s3 hn leC I1 rp=>?_;obtain⟨Hx,rx,sx,dx⟩:=a3j r1 hl hn (a7A rp) ey e;obtain⟨m,hm,_⟩:=id I1.loc;refine fin C (.ref Dd) He s3 (q _ Hx He (rx.holds hh) sx dx) (fun h9 k9=>a42 I2 f2 leC I1 k9) ?_ ⟨m,hm⟩ (.ref Dd) rfl;exact I2.fpOk leC I1.free
   ·cases e
 ·cases e
theorem a49 (hc:X.calm=true)(b:BlkC X scope cl N js)(hi:QIB X li tg iter fi)(hg:∀s2 H2 fp C,QG (blkC X scope cl s2 H2 fp C (N++[accN])) tg gf)(ht:∀s2 H2 fp C,Tst (blkC X scope cl s2 H2 fp C (N++[accN])) ifs t)(he:∀s2 H2 fp C,QX (blkC X scope cl s2 H2 fp C (N++[accN])) elt fe)
  (hj:liJ li js=true:=by rfl) (hs:∀x,foldedSetIterable iter X.env x=pure x:=by intro _;rfl):QX X (.ListComp elt [⟨tg,iter,ifs,0⟩] scope pos) (fComp fi li js gf t fe):=⟨fun pins s σ H Q I h=>by
 rw[eval_ListComp];refine a4R (use:=none) hc b hj hi hg ht he hs I h fun C v He s1 hq back fp ⟨m,hm⟩ vv rv=>?_
 exact⟨m,hm,fun h9 k9=>⟨v,He,back h9 fun y ny=>k9.2 y ny,rv,hq⟩⟩⟩
end
section
variable {f g h:FX}{ρ:Ev}{w z:W}{d e:D}{xs:List D}{i:Nat}{m:Int}{kq:List Key}
def ek2 (fd fk:FX):Option (W×Ev)->Option R
 | some p=>fDPutK fd fk (fun _=>some p) p.2
 | none=>none
def ek3 (w:W) (fk:FX):Option (W×Ev)->Option R
 | some q=>match q.1 with
  | .r i=>(fk q.2).bind fun z=>(takeAll z.2 [w.fz,z.1.fz]).bind fun y=>match y.1 with
   | [d,kd]=>(dkey kd).bind fun k=>match ownAt y.2 i with
    | some (.dK ks xs)=>if ks.length<lim then some (.nx (setOwn y.2 i (.dK (putKs ks k) (putX ks xs k d)))) else none
    | _=>none
   | _=>none
  | _=>none
 | none=>none
def ek4 (w:W) (i:Nat):Option (W×Ev)->Option R
 | some z=>(takeAll z.2 [w.fz,z.1.fz]).bind fun y=>match y.1 with
   | [d,kd]=>(dkey kd).bind fun k=>match ownAt y.2 i with
    | some (.dK ks xs)=>if ks.length<lim then some (.nx (setOwn y.2 i (.dK (putKs ks k) (putX ks xs k d)))) else none
    | _=>none
   | _=>none
 | none=>none
def ek5 (i:Nat):Option (List D×Ev)->Option R
 | some y=>match y.1 with
   | [d,kd]=>(dkey kd).bind fun k=>match ownAt y.2 i with
    | some (.dK ks xs)=>if ks.length<lim then some (.nx (setOwn y.2 i (.dK (putKs ks k) (putX ks xs k d)))) else none
    | _=>none
   | _=>none
 | none=>none
def ek6 (i:Nat) (d:D) (m:Int) (ρ:Ev):Option D->Option R
 | some (.dK ks xs)=>if ks.length<lim then some (.nx (setOwn ρ i (.dK (putKs ks (.inl m)) (putX ks xs (.inl m) d)))) else none
 | _=>none
theorem r_ek:fDPutK f h g ρ=ek2 f h (g ρ):=by unfold ek2;cases e:g ρ with
 | none=>unfold fDPutK;rw[e];rfl
 | some p=>unfold fDPutK;rw[e]
theorem a5T:ek2 f h (some (w,ρ))=ek3 w h (f ρ):=by unfold ek2 ek3 fDPutK;dsimp only[bind_some];cases f ρ<;>rfl
theorem a5s:ek3 w h (some (.r i,ρ))=ek4 w i (h ρ):=by unfold ek3 ek4;dsimp only;cases h ρ<;>rfl
theorem a6K:ek4 w i (some (z,ρ))=ek5 i (takeAll ρ [w.fz,z.fz]):=by unfold ek4 ek5;dsimp only;cases takeAll ρ [w.fz,z.fz]<;>rfl
theorem a6s:ek5 i (some ([d,.int m],ρ))=ek6 i d m ρ (ownAt ρ i):=by
 unfold ek5 ek6;rfl
theorem a5I:ek6 i d m ρ (some (.dK kq xs))=if kq.length<lim then some (.nx (setOwn ρ i (.dK (putKs kq (.inl m)) (putX kq xs (.inl m) d)))) else none:=rfl
end
def mK (m:List (Int×Int)):List Key:=m.map fun p=>.inl p.1
def mV (m:List (Int×Int)):List D:=m.map fun p=>.int p.2
def lookM:List (Int×Int)->Int->Option Int
 | [],_=>none
 | p::m,k=>if p.1=k then some p.2 else lookM m k
def putM:List (Int×Int)->Int->Int->List (Int×Int)
 | [],k,v=>[(k,v)]
 | p::m,k,v=>if p.1=k then(k,v)::m else p::putM m k v
theorem a1B:∀(m:List (Int×Int)) (k:Int),look (mK m) (mV m) (.inl k)=(lookM m k).map .int
 | [],k=>rfl
 | p::m,k=>by
  show(if(Sum.inl p.1:Key)= .inl k then some (D.int p.2) else look (mK m) (mV m) (.inl k))=_;rw[a1B m k,lookM]
  by_cases e:p.1=k
  ·rw[if_pos e,if_pos (by rw[e])];rfl
  ·rw[if_neg e,if_neg fun z=>e (Sum.inl.inj z)]
theorem a1t {m:List (Int×Int)}{k:Int}:(Sum.inl k:Key)∈mK m↔k∈m.map (·.1):=by
 unfold mK;constructor
 ·intro h;obtain⟨p,hp,e⟩:=zY.mp h;exact zY.mpr ⟨p,hp,Sum.inl.inj e⟩
 ·intro h;obtain⟨p,hp,e⟩:=zY.mp h;exact zY.mpr ⟨p,hp,by rw[<-e]⟩
theorem a1Q:∀{m:List (Int×Int)} {k v:Int},k∉m.map (·.1)->putM m k v=m++[(k,v)]
 | [],k,v,_=>rfl
 | p::m,k,v,h=>by
  rw[zJ,zO,not_or] at h;rw[putM,if_neg fun z=>h.1 z.symm,a1Q h.2];rfl
theorem a3d:∀{m:List (Int×Int)} {k v:Int},k∉m.map (·.1)->List.zipWith (fun(k':Key) (x:D)=>if k'= .inl k then D.int v else x) (mK m) (mV m)=mV m
 | [],k,v,_=>rfl
 | p::m,k,v,h=>by
  rw[zJ,zO,not_or] at h;show(if(Sum.inl p.1:Key)= .inl k then D.int v else D.int p.2)::List.zipWith _ (mK m) (mV m)=_;rw[if_neg fun z=>h.1 (Sum.inl.inj z).symm,a3d h.2];rfl
theorem a2i:∀{m:List (Int×Int)} {k v:Int},(m.map (·.1)).Nodup->k∈m.map (·.1)->mK (putM m k v)=mK m/\mV (putM m k v)=List.zipWith (fun(k':Key) (x:D)=>if k'= .inl k then D.int v else x) (mK m) (mV m)
 | [],k,v,_,h=>by cases h
 | p::m,k,v,nd,h=>by
  rw[zJ] at nd h;obtain⟨n1,n2⟩:=yA.mp nd;rw[putM]
  by_cases e:p.1=k
  ·rw[if_pos e];rw[e] at n1;refine⟨?_,?_⟩
   ·show(Sum.inl k:Key)::mK m= .inl p.1::mK m;rw[e]
   ·show D.int v::mV m=(if(Sum.inl p.1:Key)= .inl k then D.int v else D.int p.2)::List.zipWith _ (mK m) (mV m);rw[if_pos (by rw[e]),a3d n1]
  ·rw[if_neg e];obtain⟨h1,h2⟩:=a2i (v:=v) n2 ((zO.mp h).resolve_left fun z=>e z.symm);refine⟨?_,?_⟩
   ·show(Sum.inl p.1:Key)::mK (putM m k v)= .inl p.1::mK m;rw[h1]
   ·show D.int p.2::mV (putM m k v)=(if(Sum.inl p.1:Key)= .inl k then D.int v else D.int p.2)::List.zipWith _ (mK m) (mV m);rw[if_neg fun z=>e (Sum.inl.inj z),h2]
theorem a2J {m:List (Int×Int)}{k v:Int}(nd:(m.map (·.1)).Nodup):putKs (mK m) (.inl k)=mK (putM m k v)/\putX (mK m) (mV m) (.inl k) (D.int v)=mV (putM m k v):=by
 unfold putKs putX
 by_cases h:k∈m.map (·.1)
 ·obtain⟨h1,h2⟩:=a2i (v:=v) nd h;rw[if_pos (a1t.mpr h),if_pos (a1t.mpr h),h1,h2];exact⟨rfl,rfl⟩
 ·rw[if_neg fun z=>h (a1t.mp z),if_neg fun z=>h (a1t.mp z),a1Q h];refine⟨?_,?_⟩
  ·unfold mK;rw[jC];rfl
  ·unfold mV;rw[jC];rfl
theorem a4L {m:List (Int×Int)}{k v:Int}:∀{j:Int},j∈(putM m k v).map (·.1)↔j=k\/j∈m.map (·.1):=by
 induction m with
 | nil=>intro j;simp[putM]
 | cons p m ih=>
  intro j;rw[putM]
  by_cases e:p.1=k
  ·rw[if_pos e,zJ,zJ,zO,zO,e];grind
  ·rw[if_neg e,zJ,zJ,zO,zO,ih];grind
theorem M8:∀{m:List (Int×Int)} {k v:Int},(m.map (·.1)).Nodup->((putM m k v).map (·.1)).Nodup
 | [],k,v,_=>by simp[putM]
 | p::m,k,v,nd=>by
  rw[zJ] at nd;obtain⟨n1,n2⟩:=yA.mp nd;rw[putM]
  by_cases e:p.1=k
  ·rw[if_pos e,zJ];exact yA.mpr ⟨by rw[e] at n1;exact n1,n2⟩
  ·rw[if_neg e,zJ];exact yA.mpr ⟨fun z=>(a4L.mp z).elim e n1,M8 n2⟩
theorem u4:∀{m:List (Int×Int)} {k v j:Int},lookM (putM m k v) j=if k=j then some v else lookM m j
 | [],k,v,j=>rfl
 | p::m,k,v,j=>by
  rw[putM,lookM]
  by_cases e:p.1=k
  ·rw[if_pos e,lookM]
   by_cases ej:k=j
   ·rw[if_pos ej,if_pos ej]
   ·rw[if_neg ej,if_neg ej,if_neg (by rw[e];exact ej)]
  ·rw[if_neg e,lookM,u4]
   by_cases ej:k=j
   ·rw[if_pos ej,if_pos ej,if_neg (by rw[<-ej];exact e)]
   ·rw[if_neg ej,if_neg ej]
theorem Z1:∀{m:List (Int×Int)} {k:Int},k∈m.map (·.1)->∃v,lookM m k=some v
 | [],k,h=>by cases h
 | p::m,k,h=>by
  rw[lookM]
  by_cases e:p.1=k
  ·exact⟨_,if_pos e⟩
  ·rw[if_neg e];exact Z1 ((zO.mp (by rw[zJ] at h;exact h)).resolve_left fun z=>e z.symm)
def val:List Bool->Nat
 | []=>0
 | b::bs=>(if b then 1 else 0)+2*val bs
section
variable {X:Cx}{a b:Expr}{f g:FX}{pos:Pos}
def oInB (neg:Bool) (x y:D):Option W:=match x with
 | .bl i=>(items y).bind fun ys=>(boolsOf ys).map fun ns=>nb neg (decide (i∈ns))
 | _=>none
theorem a0Z (b:Bool):∀bs:List Bool,inV (.bl b) (bs.map V.bl)=decide (b∈bs)
 | []=>rfl
 | c::bs=>by
  have ih:=a0Z b bs;unfold inV at ih ⊢;rw[zJ,any_cons,ih];show((c==b)||decide (b∈bs))=decide (b∈c::bs);cases c<;>cases b<;>simp
theorem kInB {neg:Bool}:Pr2 X (oInB neg) (rIn X.K neg):=by
 intro A x y w v u H Q _ e hx hy q;cases x with
 | bl i=>
  simp only[oInB] at e;cases e1:items y with
  | none=>rw[e1] at e;cases e
  | some ys=>
   rw[e1] at e;simp only[bind_some] at e;obtain⟨ns,e2,e⟩:=oms e;cases e;obtain⟨p,vs,rfl,hq,l⟩:=A6 e1 hy;rw[N2 e2] at l;rw[C3 l] at hq;rw[W9 hx];exact⟨p,ns.map V.bl,rfl,hq,rfl,Z7 ns,by rw[a0Z];exact q _ H (Same.refl H) t8⟩
 | _=>cases e
theorem a4O (ha:QX X a f)(hb:QX X b g)(hm:behindInMarks .NotIn b=false:=by rfl):QX X (.Compare a [.NotIn] [b] pos) (fBin (oInB true) f g):=a2F P9 kInB ha hb hm
theorem a7W {neg i:Bool}{bs:List Bool}:oInB neg (.bl i) (.lst (bs.map .bl))=some (nb neg (decide (i∈bs))):=by
 unfold oInB;dsimp only;rw[show items (.lst (bs.map D.bl))=some (bs.map .bl) from rfl,bind_some,J5];rfl
end
section
variable {X:Cx}{e:Expr}{f:FX}{pos:Pos}{ρ:Ev}{w:W}
def fAug (i:Nat) (f:FX):FS:=fun ρ=>match ρ[i]? with
 | some (some (.v (.int a)))=>(f ρ).bind fun p=>(dr p.2 p.1.fz).bind fun d=>match d with
  | .int b=>(bindW p.2 i (.v (.int (a+b)))).map .nx
  | _=>none
 | _=>none
theorem a92 (i:Nat){x:Str}{pos':Pos}(hN:X.N.Nodup)(ha:QX X e f)(hi:X.N[i]? =some x:=by rfl)(hx:Loc X.env.scope x:=by first|exact Or.inl rfl|exact Or.inr rfl)(hf:X.fn x=true\/X.env.scope.names.lookup x=some .local:=by first|exact .inl rfl|exact .inr rfl):
  QS X (.AugAssign (.Name x pos') .Add e pos) (fAug i f):=⟨PS.weak (a9v hN hi hx ha.to a7S hf) fun E σ H h0=>tSe h0 fun P O L ρ r rp e q=>by
 unfold fAug at e;split at e
 ·rename_i a e0;obtain⟨⟨w1,ρ1⟩,e1,e⟩:=obs e;dsimp only at e;cases e2:dr ρ1 w1.fz with
  | none=>rw[e2] at e;cases e
  | some d=>
   rw[e2] at e;simp only[bind_some] at e;cases d<;>simp only at e<;>try cases e
   rename_i b;obtain⟨ρ2,e3,e⟩:=oms e;cases e;obtain⟨u,hu,hv⟩:=rp.slot i _ e0;have hv:Den X.K (AvO O ρ σ) H (.int a) u:=hv;rw[q8.mp hv] at hu;refine⟨_,hu,P,O,L,ρ,w1,ρ1,rp,e1,fun v H1 H1' r1 s1 d1=>?_⟩;have r1g:=r1.grow s1;have dx:=g5 (C4 r1g e2 (d1.fz r1 s1));exact⟨a,b,rfl,dx,q _ H1' (a3J r1g (Same.refl _) (z6 (H:=H1')) e3)⟩
 ·cases e⟩
def au4 (i:Nat) (a:Int) (ρ:Ev):Option D->Option R
 | some (.int b)=>asgO i (some (.v (.int (a+b)),ρ))
 | _=>none
def au3 (i:Nat) (a:Int):Option (W×Ev)->Option R
 | some p=>au4 i a p.2 (dr p.2 p.1.fz)
 | none=>none
def au2 (i:Nat) (f:FX) (ρ:Ev):Option (Option W)->Option R
 | some (some (.v (.int a)))=>au3 i a (f ρ)
 | _=>none
theorem r_au {i:Nat}:fAug i f ρ=au2 i f ρ ρ[i]?:=by
 unfold fAug au2
 split
 ·rename_i a e;unfold au3;cases f ρ with
  | none=>rfl
  | some p=>
   rw[bind_some];dsimp only;unfold au4;cases dr p.2 p.1.fz with
   | none=>rfl
   | some d=>cases d<;>rfl
 ·rfl
theorem r_au2 {i:Nat}{a:Int}:au2 i f ρ (some (some (.v (.int a))))=au3 i a (f ρ):=id rfl
theorem r_au3 {i:Nat}{a:Int}:au3 i a (some (w,ρ))=au4 i a ρ (dr ρ w.fz):=id rfl
theorem r_au4 {i:Nat}{a b:Int}:au4 i a ρ (some (.int b))=asgO i (some (.v (.int (a+b)),ρ)):=id rfl
end
section
variable {prog:Program}{w:World}{A:Around}{E:Value->Shared->Prop}{s:Shared}
theorem a5L {α β:Type}{f:α->Option β}{g:α->β}:∀(l:List α),(∀x∈l,f x=some (g x))->l.filterMap f=l.map g
 | [],_=>rfl
 | x::l,h=>by rw[filterMap_cons,h x zR,zJ];dsimp only;rw[a5L l fun y hy=>h y (zN _ hy)]
theorem a6m (xs:Array Value):((List.range xs.size).filterMap fun(m:Nat)=>xs[((xs.size:Int)-1+(m:Int) * -1).toNat]?).toArray=xs.toList.reverse.toArray:=by
 congr 1;apply xQ;intro i;have e:(List.range xs.size).filterMap (fun(m:Nat)=>xs[((xs.size:Int)-1+(m:Int) * -1).toNat]?)=(List.range xs.size).map (fun m=>xs.getD (xs.size-1-m) .none):=by
  refine a5L _ fun m hm=>?_;have hm':m<xs.size:=by simpa using hm
  have e1:((xs.size:Int)-1+(m:Int) * -1).toNat=xs.size-1-m:=by walk_at "o"
  have e2:xs.size-1-m<xs.size:=by walk_at "o"
  rw[e1];simp[Array.getD,e2]
 rw[e]
 by_cases h:i<xs.size
 ·have e2:xs.size-1-i<xs.size:=by walk_at "o"
  rw[zW,xO h,List.getElem?_reverse (by simpa using h)]
  simp[Array.getD,e2]
 ·rw[qS (by simp;walk_at "o"),qS (by simp;walk_at "o")]
theorem a4W {t sl:Addr}{items:Array Value}{u:Tok}{Q:Value->Shared->Prop}(ht:IsTup s.heap t items)(hs:s.heap.IsSliceOf sl .none .none (.int (-1) u))
  (h:Q (.ref s.heap.objs.size) {s with heap:=s.heap.push {cls:=.type "tuple",data:=.seq items.toList.reverse.toArray}})
  (hsz:items.size<=sizeLine):wpAny (model prog w) A (getItem (.ref t) (.ref sl)) Q E s:=by
 have htake:sizeOk (.seq items.toList.reverse.toArray):=by
  show items.toList.reverse.toArray.size<=sizeLine;simpa using hsz
 obtain⟨os,hos,hcs,hds⟩:=id hs;have hTs:s.TypeIs (.ref sl) "slice":=⟨os,hos,hcs⟩;unfold getItem
 try with_reducible refine qM ?_
 first|refine zA (zB ?_)|skip
 refine zA (yI ht.typeIs (by decide) ?_)
 refine zA (qK (name:=Str.ofString "__getitem__") ht.typeIs qJ
  (qI qJ ht.typeIs entry_tuple_getitem ?_ (args_tuple_getitem _ _)))
 show wpAny _ _ (Builtin.Tuple.tupleItemsOf (.ref t) >>=_) _ _ s;refine zA (tupleItemsOf_ ht ?_);refine zA (wpAny_typeOf hTs ?_);rw[if_pos (by decide)]
 have ap:wpAny (model prog w) A.in1 (Builtin.Slice.sliceApplied (.ref sl) (pure (items.size:Int))) (fun r s'=>r=((items.size:Int)-1,-1,items.size)/\s'=s) (fun _ _=>False) s:=by
  unfold Builtin.Slice.sliceApplied Builtin.Slice.sliceFields;refine zA (zA (qZ hos hds (x:=.none) rfl (zA (qZ hos hds (x:=.none) rfl (zA (qZ hos hds (x:=.int (-1) u) rfl (zB ?_)))))));refine zA (slicePart_int ?_);show wpAny _ _ (if((-1:Int)==0)=true then _ else _) _ _ s;rw[if_neg (by decide)]
  refine zA (slicePart_none (zA (slicePart_none (zA (zB ?_)))));have e1:Builtin.Slice.sliceAdjust none none (-1) (items.size:Int)=((items.size:Int)-1,-1):=rfl;have e2:Builtin.Slice.slicePlaces ((items.size:Int)-1) (-1) (-1)=items.size:=by
   unfold Builtin.Slice.slicePlaces;rw[if_neg (by walk_at "o"),show(- -1:Int)=1 from rfl,Int.ediv_one]
   split<;>walk_at "o"
  show wpAny _ _ (match Builtin.Slice.sliceAdjust none none (-1) (items.size:Int) with|(lo,hi)=>pure (lo,(-1:Int),Builtin.Slice.slicePlaces lo hi (-1))) _ _ s
  rw[e1];show wpAny _ _ (pure ((items.size:Int)-1,(-1:Int),Builtin.Slice.slicePlaces ((items.size:Int)-1) (-1) (-1))) _ _ s;rw[e2];exact zB ⟨rfl,rfl⟩
 refine zA (qB ap (fun r s' ⟨er,es⟩=>?_) fun _ _ z=>z.elim);subst er es;show wpAny _ _ (if(((items.size:Int)-1)==0&&(-1:Int)==1&&items.size==items.size)=true then _ else _) _ _ _;rw[if_neg (by simp),a6m]
 first
  | exact zA (m:=Builtin.Tuple.tupleExact _) (qF (zB ⟨_,rfl,zB h⟩) htake)
  | exact zA (m:=Builtin.Tuple.tupleExact _) (qF (zA (zB (zB ⟨_,rfl,zB h⟩))) htake)
  | exact zA (zA (m:=Builtin.Tuple.tupleExact _) (qF (zB (zB ⟨_,rfl,zB h⟩)) htake))
  | exact zA (zA (m:=Builtin.Tuple.tupleExact _) (qF (zB ⟨_,rfl,zB h⟩) htake))
end
section
variable {X:Cx}{a e:Expr}{pos:Pos}{f:FX}
def fRev (f:FX):FX:=fun ρ=>(f ρ).bind fun p=>(dr p.2 p.1.fz).bind fun d=>match d with
 | .tup xs=>some (.v (.tup xs.reverse),p.2)
 | _=>none
theorem a91 {p1 p2 p3:Pos}{j:Nat}(ha:QX X a f):QX X (.Subscript a (.Slice none none (some (.UnaryOp .USub (.Constant (.int 1) j p1) p2)) p3) pos) (fRev f):=by
 refine⟨fun pins s σ H Q I h0=>tXe h0 fun P O L ρ w ρ' rp e q=>?_⟩;unfold fRev at e;obtain⟨⟨w1,ρ1⟩,e1,e⟩:=obs e;dsimp only at e;cases e2:dr ρ1 w1.fz with
 | none=>rw[e2] at e;cases e
 | some x=>
  rw[e2] at e;simp only[bind_some] at e;cases x<;>simp only at e<;>try cases e
  rename_i xs;refine Subscript_ (qB (ha.to pins s σ H (fun v H1=>∃P',Rep X P' O L ρ' σ H1/\∀H2,Rep X P' O L ρ' σ H2->Rep X P O L ρ' σ H2/\DenR X.K (AvO O ρ' σ) H2 (.tup xs) v) I ⟨P,O,L,ρ,w1,ρ',rp,e1,fun v H1 H1' r1 s1 d1=>?_⟩) (fun v s1 ⟨x,H1,I1,r1,P',rp1,kp⟩=>?_) fun _ _ z=>z)
  ·have r1g:=r1.grow s1;obtain⟨P',r1',k1⟩:=hold r1g (d1.fz r1 s1);exact⟨P',r1',fun H2 r2=>by obtain⟨r3,d3⟩:=k1 _ H2 r2;exact⟨r3,C4 r3 e2 d3⟩⟩
  refine wpAny_Slice ?_;rw[evalPart_none];refine zB (zB ?_);rw[evalPart_some];have z:=((a9p (X:=X) (b3 (X:=X) (i:=1) (j:=j) (pos:=p1))):QX X (.UnaryOp .USub (.Constant (.int 1) j p1) p2) _).to pins s1 σ H1 (fun v H2=>v= .int (-1)/\Rep X P' O L ρ' σ H2) I1 ⟨P',O,L,ρ',.v (.int (-1)),ρ',rp1,rfl,fun v H2 H2' r2 s2 d2=>⟨q8.mp (show Den X.K (AvO O ρ' σ) H2' (.int (-1)) v from d2),r2.grow s2⟩⟩;refine qB z (fun vu s3 ⟨y,H3,I3,r3,ey,rp3⟩=>?_) fun _ _ z=>z;subst ey;obtain⟨t,rfl⟩:=r3;have I4:Inv X pins σ H3 {s3 with heap:=s3.heap.push {cls:=.type "slice",data:=.fields #[.none,.none,.int (-1) t]}}:=I3.kept (t':=s3.toks) fun b ob q=>zC _ q
  obtain⟨rp4,dx⟩:=kp H3 rp3;obtain⟨p,vs,ev,hq,la⟩:=t3 dx;subst ev;cases r1;obtain⟨its,r,ht,hz⟩:=I4.tuple hq;show wpAny (model X.prog X.w) X.A (subscriptTail a (.Slice none none (some (.UnaryOp .USub (.Constant (.int 1) j p1) p2)) p3) (.ref p) (.ref s3.heap.objs.size)) (EP X pins σ Q) X.xe {s3 with heap:=s3.heap.push {cls:=.type "slice",data:=.fields #[.none,.none,.int (-1) t]}}
  refine tail_any (ops:=[.ref p,.ref s3.heap.objs.size]) ht.typeIs PyProof.Rows.slot_tuple_getitem.lookup ?_ (by with_unfolding_all rfl)
  have hlen:its.toArray.size=vs.length:=by rw[zV];exact r.length.symm
  refine a4W ht ⟨_,zL _ rfl,rfl,rfl⟩ ?_ (by rw[hlen];exact hz)
  have fr:=I4.hok.fresh (zE _);refine⟨.ref _,_,I4.laid (t':=s3.toks) (o:=.tup vs.reverse) (fun b ob q=>zC _ q) (zE _) ⟨by rw[List.length_reverse];exact hz,its.reverse,r.reverse,?_⟩,rfl,q _ H3 _ rp4 (g7 fr _) (C9 fr (a2l la))⟩
  have:=TupN.new (Shared.heap {s3 with heap:=s3.heap.push {cls:=.type "slice",data:=.fields #[.none,.none,.int (-1) t]}}) its.reverse.toArray
  simpa using this
def rv2 (ρ:Ev):Option D->Option (W×Ev)
 | some (.tup xs)=>some (.v (.tup xs.reverse),ρ)
 | _=>none
def rv1:Option (W×Ev)->Option (W×Ev)
 | some p=>rv2 p.2 (dr p.2 p.1.fz)
 | none=>none
theorem r_rv {ρ:Ev}:fRev f ρ=rv1 (f ρ):=by
 unfold fRev rv1;cases f ρ with
 | none=>rfl
 | some p=>
  rw[bind_some];dsimp only;unfold rv2;cases dr p.2 p.1.fz with
  | none=>rfl
  | some d=>cases d<;>rfl
theorem r_rv1 {w:W}{ρ:Ev}:rv1 (some (w,ρ))=rv2 ρ (dr ρ w.fz):=id rfl
theorem r_rv2 {xs:List D}{ρ:Ev}:rv2 ρ (some (.tup xs))=some (.v (.tup xs.reverse),ρ):=id rfl
end
open PySem PySem.Spec PySem.W PyProof.Rows
theorem a1x:isSubtype (.type "list") (.type "set")=pure false:=by rw[xP];kernel_rfl
theorem N7:isSubtype (.type "list") (.type "frozenset")=pure false:=by rw[xP];kernel_rfl
section
variable {prog:Program}{w:World}{A:Around}{E:Value->Shared->Prop}{s:Shared}
theorem a0p {l:Addr}{items:Array Value}{ns:List Nat}{Q:Value->Shared->Prop}(hh:A.handled=none)(hl:s.heap.IsList l items)(h8:∀n∈ns,n<8)(hsz:items.size=ns.length)(hi:∀(i:Nat) (v:Value),items[i]? =some v->∃(n:Nat) (t:Tok),ns[i]? =some n/\v=Value.int n t)
  (h:∀(h':Heap) (tk:Nat),SetM w h' s.heap.objs.size (mAll ns)->(∀b o,b<s.heap.objs.size->s.heap.get? b=some o->h'.get? b=some o)->Q (.ref s.heap.objs.size) {s with heap:=h',toks:=tk}):
  wpAny (model prog w) A (call (.type "set") [.ref l]) Q E s:=by
 obtain⟨c,tl,hmro⟩:=F.called_set.mro;have hmade:=F.called_set.made;have hsub:=F.called_set.sub;refine wpAny_call (codeAny_of_tree ?_);show wpAny _ _ (callAny (.type "set") _) _ _ _;refine zB ⟨Code.quiet_builtin _ (by decide +kernel),codeAny_builtin F.entry_type_call ?_⟩
 rw[Around.under_plain (weight_type_call_type "set" [.ref l] []) rfl];have h1:=F.called_set.notType;have h2:=F.called_set.canCreate;have hct:=F.typeCall_set_1 (.ref l)
 repeat(any_goals(first|assumption|wp_step))
 refine yK (P6 (a:=.ref l) (E:=E) (Q₁:=fun obj s₁=>obj= .ref s.heap.objs.size/\s₁={s with heap:=s.heap.push (setObjM #[] 0 (.fresh 0 0 (!byT w)))}) ⟨rfl,rfl⟩) fun r s₁ hr=>?_
 cases r with
 | error e=>exact hr
 | ok fl=>
  cases fl with
  | ret obj=>
   obtain⟨rfl,rfl⟩:=hr;have hS:(s.heap.push (setObjM #[] 0 (.fresh 0 0 (!byT w)))).get? s.heap.objs.size=some (setObjM #[] 0 (.fresh 0 0 (!byT w))):=zL _ rfl;have hT:Shared.TypeIs {s with heap:=s.heap.push (setObjM #[] 0 (.fresh 0 0 (!byT w)))} (.ref s.heap.objs.size) "set":=⟨_,hS,rfl⟩
   have hli:=F.called_set.init.lookup;have hbi:=F.called_set.init.bind (.ref s.heap.objs.size)
   repeat(any_goals(first|assumption|wp_step))
   refine yK (codeAny_call_builtin (R:=wants (fun r s₂=>r= .none/\∃h' tk,s₂={s with heap:=h',toks:=tk}/\SetM w h' s.heap.objs.size (mAll ns)/\
     (∀b o,b<s.heap.objs.size->s.heap.get? b=some o->h'.get? b=some o)) E) F.called_set.init.plain F.entry_set_init (check_set_init_1 hT ?_)) fun r₂ s₂ hr₂=>?_
   ·have hlS:l<s.heap.objs.size:=by obtain⟨o,e,_⟩:=hl;exact zS e
    obtain⟨ol,hol,hcl,nl,hdl⟩:=id hl;obtain⟨ocls,odict,odata,oslots⟩:=ol;simp only at hcl hdl;subst hcl;subst hdl;have hol':(s.heap.push (setObjM #[] 0 (.fresh 0 0 (!byT w)))).get? l=some {cls:=.type "list",dict:=odict,data:=.seq items nl,slots:=oslots}:=zC _ hol;have hsls:=a1x;have hslf:=N7;have hne:(Value.type "list" == Value.type "dict")=false:=by decide
    have hl1:(s.heap.push (setObjM #[] 0 (.fresh 0 0 (!byT w)))).IsList l items:=⟨_,hol',rfl,nl,rfl⟩;have hS':(s.heap.push (setObjM #[] 0 (.fresh 0 0 (!byT w)))).get? s.heap.objs.size=some {cls:=.type "set",dict:=none,data:=.set #[] 0 (.fresh 0 0 (!byT w)),slots:= #[]}:=hS;unfold Builtin.«set.__init__» noKeywords Builtin.Frozenset.updateFrom;generalize hPI:pyIter=PI
    wp_walk
    subst hPI;refine wpAny_pyIter_list hl1 ?_;refine zA (wpAny_runValue ?_);have hh3:A.in1.in1.in1.handled=none:=by simp[hh]
    have hneI:l≠(s.heap.push (setObjM #[] 0 (.fresh 0 0 (!byT w)))).objs.size:=by
     rw[jR];exact zG (xI hlS)
    have hSf:s.heap.objs.size∉[(s.heap.push (setObjM #[] 0 (.fresh 0 0 (!byT w)))).objs.size,l]:=by
     rw[jR];simp only[zO,qA,jS,yG,not_or];exact⟨zG (jU _),xE hlS⟩
    have W:=(Walks.list (prog:=prog) (w:=w) hh3 _ l hneI items).toS;rw[hsz] at W;refine updM h8 W s.heap.objs.size hSf (fun i v hv=>hi i v hv) (ns.length-0) 0 _ rfl (jW _) ?hSt ?hS0 ?hR
    case hSt=>exact⟨⟨_,zL _ rfl,rfl,rfl⟩,⟨_,zC _ hol',rfl,nl,rfl⟩⟩
    case hS0=>
     refine⟨by rw[take_zero];decide, #[],0,?_,?_⟩
     ·rw[take_zero];exact zC _ hS
     ·rw[take_zero];exact .nil
    case hR=>
     intro s' hm hS';obtain⟨h',g',d',tk',os'⟩:=s';have eg:g'=s.gens:=hm.gens;have ed:d'=s.drawn:=hm.drawn;have eo:os'=s.os:=hm.os;subst eg;subst ed;subst eo;show wpAny _ _ _ _ _ _;refine zB ?_;show wpAny _ _ (ret Value.none) _ _ _;refine zB ⟨rfl,h',tk',rfl,hS',fun b o hb e=>?_⟩;have hb1:b≠s.heap.objs.size:=zG hb;have hb2:b≠(s.heap.push (setObjM #[] 0 (.fresh 0 0 (!byT w)))).objs.size:=by
      rw[jR];exact zG (xI hb)
     exact hm.heap b o (by simp only[zO,qA,jS,yG,not_or];exact⟨hb1,hb2⟩) (zC _ (zC _ e))
   ·cases r₂ with
    | error e=>exact hr₂
    | ok fl₂=>
     cases fl₂ with
     | ret r=>
      obtain⟨rfl,h',tk,rfl,hS',hk'⟩:=hr₂
      repeat(any_goals(first|assumption|wp_step))
      exact h _ _ hS' hk'
     | _=>exact hr₂.elim
  | _=>exact hr.elim
end
section
open L2
variable {X:Cx}{e:Expr}{pos pos2 p p2:Pos}{fa:FA}
theorem a41 (hc:X.calm=true):CallR X (.type "set") (fun xs H Q=>∃p ns,xs=[.ref p]/\SqL X.K H p ((intsN ns).map V.int)/\(∀n∈ns,n<8)/\∀l,H l=none->Q (.ref l) (upd H l (.ext fun h=>SetM X.w h l (mAll ns)))):=by
 intro pins s σ H xs us Q I r h;obtain⟨p,ns,rfl,hp,h8,q⟩:=h;obtain⟨u,rfl,ru⟩:=vals1 r;cases ru;obtain⟨its,rv,ht,_⟩:=I.list hp;obtain⟨hl,hi⟩:=S6 rv;refine a0p (ns:=ns) (I.ok.hd hc) ht.isList h8 (by simpa using hl) (fun i v e=>hi i v (by simpa using e)) fun h' tk hS hk=>?_
 have kp:∀b o,s.heap.get? b=some o->h'.get? b=some o:=fun b o e=>hk b o (zS e) e;refine⟨.ref s.heap.objs.size,_,I.laid (t':=tk) (o:=.ext fun h=>SetM X.w h s.heap.objs.size (mAll ns)) kp (zE _) ⟨hS,?_,fun h1 h2 x k=>?_⟩,rfl,q _ (I.hok.fresh (zE _))⟩
 ·obtain⟨_,es,ep,ho,_⟩:=hS;exact⟨_,ho⟩
 ·obtain⟨hm,es,ep,ho,r⟩:=x;exact⟨hm,es,ep,k _ ho,r⟩
def gSL:D->Option W
 | .lst xs=>(intsOf xs).bind fun ns=>if ∀n∈ns,0<=n/\n<8 then some (.o (.lst ((intsN (lm (mAll (ns.map Int.toNat)))).map D.int))) else none
 | _=>none
def rSL (X:Cx):List V->Hp->VK->Prop:=fun xs H Q=>∃p ns,xs=[.ref p]/\SqL X.K H p ((intsN ns).map V.int)/\(∀n∈ns,n<8)/\∀l,H l=none->∃p m,[V.ref l]=[.ref p]/\(upd H l (.ext fun h=>SetM X.w h l (mAll ns))) p=some (.ext fun h=>SetM X.w h p m)/\
 ∀l',(upd H l (.ext fun h=>SetM X.w h l (mAll ns))) l'=none->Q (.ref l') (upd (upd H l (.ext fun h=>SetM X.w h l (mAll ns))) l' (.lst ((intsN (lm m)).map V.int)))
theorem pr_SL:PrA X (k1 gSL) (rSL X):=pr1 fun A d w v H Q e h q=>by
 cases d with
 | lst xs=>
  simp only[gSL] at e;cases e1:intsOf xs with
  | none=>rw[e1] at e;cases e
  | some bs=>
   rw[e1] at e;simp only[bind_some] at e;split at e
   ·rename_i hl;cases e;obtain⟨a,vs,rfl,hq,l⟩:=h;rw[p6 e1] at l;rw[j9 l] at hq;have eb:bs=intsN (bs.map Int.toNat):=by
     unfold intsN;rw[jB]
     conv=>lhs;rw[<-map_id bs]
     apply yN;intro n hn
     have:=(hl n hn).1
     show n=((n.toNat:Nat):Int);walk_at "o"
    refine⟨a,bs.map Int.toNat,rfl,by rw[<-eb];exact hq,fun n hn=>?_,fun l hl'=>⟨l,_,rfl,j5,fun l' hl2=>?_⟩⟩
    ·obtain⟨k,hk,rfl⟩:=zY.mp hn
     have:=hl k hk;walk_at "o"
    ·have hn:H l'=none:=by
      by_cases z:l'=l
      ·rw[z];exact hl'
      ·rw[c6 z] at hl2;exact hl2
     exact q _ _ ((g7 hl' _).trans (g7 hl2 _)) ⟨l',rfl,hn,_,j5,w6 _⟩
   ·cases e
 | _=>cases e
theorem a0t (hc:X.calm=true)(hm:X.mg "sorted"=none)(hm2:X.mg "set"=none)(ha:QA X [e] fa)(hv:bootBuiltins "sorted"=some (.builtin "sorted"):=by rfl)(hv2:bootBuiltins "set"=some (.type "set"):=by rfl)(hg:Gl X "sorted":=by rfl)(hg2:Gl X "set":=by rfl)
  (he:starEach [e] X.env=(false,eval e X.env)::starEach [] X.env:=by rfl) (he2:starEach [.Call (.Name "set" p2) [e] [] pos2] X.env=(false,eval (.Call (.Name "set" p2) [e] [] pos2) X.env)::starEach [] X.env:=by rfl):
  QX X (.Call (.Name "sorted" p) [.Call (.Name "set" p2) [e] [] pos2] [] pos) (fCall (k1 gSL) fa):=
 ⟨PE.weak (PE.weak (P5 (a1s hc) hg hm hv (O4 (U6 (a41 hc) hg2 hm2 hv2 ha.to (by decide) (by decide) he rfl) a1J he2) (by decide) (by decide) he2 rfl) (u:=tCB (rSL X) (tA X fa)) fun σ H Q h=>h) (K8 pr_SL)⟩
theorem a4C:CallR X (.builtin "len") (fun xs H Q=>∃p m,xs=[.ref p]/\H p=some (.ext fun h=>SetM X.w h p m)/\Q (.int ((lm m).length:Nat)) H):=by
 intro pins s σ H xs us Q I r h;obtain⟨p,m,rfl,hp,q⟩:=h;obtain⟨u,rfl,ru⟩:=vals1 r;cases ru;obtain⟨⟨hm,es,ep,ho,hes⟩,_,_⟩:=(show ObjOk X.prog X.w H s.heap p (.ext fun h=>SetM X.w h p m) from I.hok p _ hp);have hsz:es.size=(lm m).length:=by rw[<-qD];exact hes.len
 have l8:=T8 m;refine call_len_set ho ⟨rfl,rfl,rfl⟩ rfl (by rw[hsz];exact O7 m hm _) (by walk_at "o") ?_
 rw[hsz];exact⟨.int ((lm m).length:Nat),H,I.tok _,⟨_,rfl⟩,q⟩
def gLS:D->Option W
 | .tup xs=>(intsOf xs).bind fun ns=>if ∀n∈ns,0<=n/\n<8 then some (.v (.int ((lm (mAll (ns.map Int.toNat))).length:Nat))) else none
 | _=>none
def rLS (X:Cx):List V->Hp->VK->Prop:=fun xs H Q=>∃p ns,xs=[.ref p]/\SqT X.K H p ((intsN ns).map V.int)/\(∀n∈ns,n<8)/\∀l,H l=none->∃p m,[V.ref l]=[.ref p]/\(upd H l (.ext fun h=>SetM X.w h l (mAll ns))) p=some (.ext fun h=>SetM X.w h p m)/\Q (.int ((lm m).length:Nat)) (upd H l (.ext fun h=>SetM X.w h l (mAll ns)))
theorem pr_LS:PrA X (k1 gLS) (rLS X):=pr1 fun A d w v H Q e h q=>by
 cases d with
 | tup xs=>
  simp only[gLS] at e;cases e1:intsOf xs with
  | none=>rw[e1] at e;cases e
  | some bs=>
   rw[e1] at e;simp only[bind_some] at e;split at e
   ·rename_i hl;cases e;have hd:Den X.K A H (.tup xs) v:=h;rw[Den] at hd;obtain⟨a,vs,rfl,hq,l⟩:=hd;rw[p6 e1] at l;rw[j9 l] at hq;have eb:bs=intsN (bs.map Int.toNat):=by
     unfold intsN;rw[jB]
     conv=>lhs;rw[<-map_id bs]
     apply yN;intro n hn
     have:=(hl n hn).1
     show n=((n.toNat:Nat):Int);walk_at "o"
    refine⟨a,bs.map Int.toNat,rfl,by rw[<-eb];exact hq,fun n hn=>?_,fun l hl'=>⟨l,_,rfl,j5,q _ _ (g7 hl' _) z6⟩⟩
    obtain⟨k,hk,rfl⟩:=zY.mp hn
    have:=hl k hk;walk_at "o"
   ·cases e
 | _=>cases e
theorem a4y (hc:X.calm=true)(hm:X.mg "len"=none)(hm2:X.mg "set"=none)(ha:QA X [e] fa)(hv:bootBuiltins "len"=some (.builtin "len"):=by rfl)(hv2:bootBuiltins "set"=some (.type "set"):=by rfl)(hg:Gl X "len":=by rfl)(hg2:Gl X "set":=by rfl)
  (he:starEach [e] X.env=(false,eval e X.env)::starEach [] X.env:=by rfl) (he2:starEach [.Call (.Name "set" p2) [e] [] pos2] X.env=(false,eval (.Call (.Name "set" p2) [e] [] pos2) X.env)::starEach [] X.env:=by rfl):
  QX X (.Call (.Name "len" p) [.Call (.Name "set" p2) [e] [] pos2] [] pos) (fCall (k1 gLS) fa):=
 ⟨PE.weak (PE.weak (P5 a4C hg hm hv (O4 (U6 (a4t hc) hg2 hm2 hv2 ha.to (by decide) (by decide) he rfl) a1J he2) (by decide) (by decide) he2 rfl) (u:=tCB (rLS X) (tA X fa)) fun σ H Q h=>h) (K8 pr_LS)⟩
end
end Z
local macro_rules|`(tactic| walk_at "z r") => `(tactic| simp only[Z.lim, Z.r_nt, Z.a8G, Z.r_fn, Z.a6r, Z.a6Z, Z.a8C, Z.a2p, Z.a5f, Z.a5n, Z.nb_f, Z.nb_t, Z.a0U, Z.ix_0, Z.a_3, Z.a_4, Z.it_t, Z.r_ie, Z.a8w, Z.a3D, Z.r_r1, Z.a8f, Z.r_r2, Z.a8U, Z.r_lr, Z.a80, Z.a6A, Z.r_tc, Z.a8i, Z.a3L, Z.a8I, Z.a83, Z.a8r, Z.a9b, Z.a39, Z.a4a, Z.a36, Z.r_c, Z.a5A, Z.a5o, Z.a3x, Z.a3h, Z.a5p, Z.a69, Z.a5Y, Z.a3P, Z.a28, Z.a55, Z.a8A, Z.a6k, Z.a6O, Z.a6t, Z.a5M, Z.r_un, Z.a8X, Z.a8x, Z.Z6, Z.a6a, Z.a5r, Z.a64, Z.a1Y, Z.a8R, Z.a5G, Z.a8s, Z.r_or, Z.a3y, Z.a30, Z.a5K, Z.a5O, Z.r_if, Z.a2r, Z.a5b, Z.a5d, Z.a82, Z.a5c, Z.a3c, Z.a3o, Z.a3n, Z.a38, Z.a3m, Z.a6W, Z.a7b, Z.a5h, Z.a8Q, Z.a8N, Z.a3K, Z.a3H, Z.a5k, Z.a3e, Z.a3T, Z.r_k1, Z.r_k2, Z.a8T, Z.a6V, Z.a6q, Z.a62, Z.r_dl, Z.a84, Z.a8S, Z.a8F, Z.r_sl, Z.a8l, Z.a8q, Z.a8J, Z.a8V, Z.a6b, Z.r_o0, Z.r_o1, Z.a88, Z.a6J, Z.a03, Z.a0z, Z.a8P, Z.a37, Z.a3s, Z.a3t, Z.a2a, Z.r_ifS, Z.a3k, Z.a26, Z.a89, Z.a3M, Z.a3A, Z.r_ag, Z.a8m, Z.a8j, Z.a8L, Z.a3U, Z.a65, Z.a3b, Z.a8k, Z.a7e, Z.r_gs, Z.a9c, Z.a8h, Z.a8n, Z.a6j, Z.a4c, Z.r_is, Z.a8g, Z.a6B, Z.a57, Z.a81, Z.a51, Z.a6x, Z.a3R, Z.r_mu, Z.a8D, Z.a8O, Z.a86, Z.a9a, Z.a8v, Z.a8Y, Z.a8t, Z.a2b, Z.a58, Z.a0W, Z.o_i0, Z.o_i, Z.a3E, Z.a3p, Z.a3g, Z.a68, Z.a67, Z.a6h, Z.a3C, Z.a3l, Z.a0K, Z.o_d2, Z.a_0, Z.a_1, Z.a_2, Z.a8p, Z.a8y, Z.a29, Z.a6C, Z.Z4, Z.a3V, Z.a3Z, Z.a6M, Z.a6X, Z.a0B, Z.a8K, Z.a8Z, Z.a6l, Z.a6w, Z.a5l, Z.a87, Z.a8E, Z.W.own, Z.start0, Z.deq, Z.deqL, Z.flatE, Z.isD, Z.lf, Z.lfL, Z.noR, Z.frzL, qL, yB, zJ, xY, List.replicate, nil_append, List.cons_append, xV, qX, List.set_cons_zero, List.set_cons_succ, bind_some, jJ, qW, jK, qQ, Nat.zero_add, Nat.reduceAdd, Nat.reduceSub, jE, Nat.add_zero, Nat.add_one_sub_one, and_self, and_true, true_and, Bool.and_self, Bool.and_true, Bool.true_and, Bool.not_true, Bool.not_false, ite_self, decide_true, decide_false, Nat.reduceLeDiff, beq_self_eq_true, isSome_some])
local macro_rules|`(tactic| walk_at "q") => `(tactic| repeat(first|walk_at "z r"))
local macro_rules|`(tactic| walk_at "z i") => `(tactic| simp only[Z.lim, Z.r_nt, Z.a8G, Z.r_fn, Z.a6r, Z.a6Z, Z.a8C, Z.a2p, Z.a5f, Z.a5n, Z.nb_f, Z.nb_t, Z.a0U, Z.ix_0, Z.a_3, Z.a_4, Z.it_t, Z.r_ie, Z.a8w, Z.a3D, Z.r_r1, Z.a8f, Z.r_r2, Z.a8U, Z.r_lr, Z.a80, Z.a6A, Z.r_tc, Z.a8i, Z.a3L, Z.a8I, Z.a83, Z.a8r, Z.a9b, Z.a39, Z.a4a, Z.a36, Z.r_c, Z.a5A, Z.a5o, Z.a3x, Z.a3h, Z.a5p, Z.a69, Z.a5Y, Z.a3P, Z.a28, Z.a55, Z.a8A, Z.a6k, Z.a6O, Z.a6t, Z.a5M, Z.r_un, Z.a8X, Z.a8x, Z.Z6, Z.a6a, Z.a5r, Z.a64, Z.a1Y, Z.a8R, Z.a5G, Z.a8s, Z.r_or, Z.a3y, Z.a30, Z.a5K, Z.a5O, Z.r_if, Z.a2r, Z.a5b, Z.a5d, Z.a82, Z.a5c, Z.a3c, Z.a3o, Z.a3n, Z.a38, Z.a3m, Z.a6W, Z.a7b, Z.a5h, Z.a8Q, Z.a8N, Z.a3K, Z.a3H, Z.a5k, Z.a3e, Z.a3T, Z.r_k1, Z.r_k2, Z.a8T, Z.a6V, Z.a6q, Z.a62, Z.r_dl, Z.a84, Z.a8S, Z.a8F, Z.r_sl, Z.a8l, Z.a8q, Z.a8J, Z.a8V, Z.a6b, Z.r_o0, Z.r_o1, Z.a88, Z.a6J, Z.a03, Z.a0z, Z.a8P, Z.a37, Z.a3s, Z.a3t, Z.a2a, Z.a3k, Z.a26, Z.a89, Z.a3M, Z.a3A, Z.r_ag, Z.a8m, Z.a8j, Z.a8L, Z.a3U, Z.a65, Z.a3b, Z.a8k, Z.a7e, Z.r_gs, Z.a9c, Z.a8h, Z.a8n, Z.a6j, Z.a4c, Z.r_is, Z.a8g, Z.a6B, Z.a57, Z.a81, Z.a51, Z.a6x, Z.a3R, Z.r_mu, Z.a8D, Z.a8O, Z.a86, Z.a9a, Z.a8v, Z.a8Y, Z.a8t, Z.a2b, Z.a58, Z.a0W, Z.o_i0, Z.o_i, Z.a3E, Z.a3p, Z.a3g, Z.a68, Z.a67, Z.a6h, Z.a3C, Z.a3l, Z.a0K, Z.o_d2, Z.a_0, Z.a_1, Z.a_2, Z.a8p, Z.a8y, Z.a29, Z.a6C, Z.Z4, Z.a3V, Z.a3Z, Z.a6M, Z.a6X, Z.a0B, Z.a8K, Z.a8Z, Z.a6l, Z.a6w, Z.a5l, Z.a87, Z.a8E, Z.W.own, Z.start0, Z.deq, Z.deqL, Z.flatE, Z.isD, Z.lf, Z.lfL, Z.noR, Z.frzL, qL, yB, zJ, xY, List.replicate, nil_append, List.cons_append, xV, qX, List.set_cons_zero, List.set_cons_succ, bind_some, jJ, qW, jK, qQ, Nat.zero_add, Nat.reduceAdd, Nat.reduceSub, jE, Nat.add_zero, Nat.add_one_sub_one, and_self, and_true, true_and, Bool.and_self, Bool.and_true, Bool.true_and, Bool.not_true, Bool.not_false, ite_self, decide_true, decide_false, Nat.reduceLeDiff, beq_self_eq_true, isSome_some])
set_option maxHeartbeats 1500000
namespace Q66
open PySem L2 Z
abbrev LO:=List D->Option W
abbrev LL:=D->List D->Option (W×D)
local macro_rules|`(tactic| walk_at "c") => `(tactic| exact⟨rfl, rfl, rfl, by decide +kernel, rfl, by decide +kernel, by decide +kernel⟩)
def top (i:Nat):Stmt:=PySem.Challenge.pw_twainhoard_k66_sides_or_a_round.main.body.getD i (.Pass ⟨0,0,0,0⟩)
section
variable {P:Program}{w:World}{K:PySem.W.Frag}{mg:Str->Option Value}{base:Heap}{f:Addr}{fd:FuncData}{k:Nat}
theorem a2Y {m:Nat}{i:Int}(h0:0<=i)(h:i<m):ixN m i=some i.toNat:=by unfold ixN;rw[if_pos h0,if_pos h]
abbrev E8:Stmt:=top 7
theorem M4:FnScope ["cell","k","part"] ["cell","k"] (defScope E8):=by walk_at "c"
def O8 (g:LO):Prop:=∀c k:Int,0<=k->k<40->∃i:Int,g [.int c,.int k]=some (.v (.int i))
theorem a0u (F:Fun K "_law_mixed" "_law_mixed" E8 f fd)(B:Binds K fd ["cell","k"] [])(hm:mg "_law_mixed"=some (.ref f)):∃g,Fn P w K mg base "_law_mixed" (k+1) g/\O8 g:=by
 have nd:=M4.nd
 refine⟨_,Q3 F M4 B hm rfl rfl (fun cdv A outer s H E hr=>(b5 (j0 2 nd (C1 (a0c (m4 (m4 (C1 (a8 0) b3) (a0c b3 (a8 1))) b3) b3) b3))
  (b5 (j0 2 nd (C1 (a0c (a8 2) (a8 2)) b3))
  (b8 (k5 (a9D (C1 (a0c (m4 (a8 2) (a8 1)) b3) b3) b3)))))),?_⟩
 intro c k h0 h1;have p0:∀a:Int,mOk a 48271:=fun a=>.inr (.inl (by decide))
 have p1:∀a:Int,mOk a 69621:=fun a=>.inr (.inl (by decide))
 have p2:∀a:Int,mOk 7919 a:=fun a=>.inl (by decide)
 have p3:∀a:Int,mOk (a%2305843009213693951) (a%2305843009213693951):=fun a=>.inl (by
  have:=Int.emod_nonneg a (b:=2305843009213693951) (by decide)
  have:=Int.emod_lt_of_pos a (b:=2305843009213693951) (by decide)
  walk_at "o")
 have d1:(0:Int)<1000000000000000009:=by decide
 have d2:(0:Int)<2305843009213693951:=by decide
 have d3:(0:Int)<2305843009213693921:=by decide
 have d4:dOk 8:=j7 (by decide) (by decide)
 refine⟨?_,?_⟩
 rotate_left
 ·repeat(first|walk_at "z r" | simp only[p0,p1,p2,p3,d1,d2,d3,d4])
  rfl
def poolD (p:Int):D:=.lst [.int p]
abbrev G7:Stmt:=top 8
theorem Q9:FnScope ["cell","great","k"] ["cell"] (defScope G7):=by walk_at "c"
def W4 (g:LO):Prop:=∀c:Int,∃m:Int,g [.int c]=some (.o (poolD m))
theorem a1i {E2:LO}(F0:Fn P w K mg base "_law_mixed" k E2)(D7:O8 E2)(c8:mg "range"=none)(F:Fun K "_law_deal" "_law_deal" G7 f fd)(B:Binds K fd ["cell"] [])(hm:mg "_law_deal"=some (.ref f)):∃g,Fn P w K mg base "_law_deal" (k+1) g/\W4 g:=by
 have nd:=Q9.nd
 refine⟨_,Q3 F Q9 B hm rfl rfl (fun cdv A outer s H E hr=>(b5 (A8 (qt_ge (a8 0) (a1n b3 b3)) (b8 (k5 (v7 (a9 (K6 (a8 0) (a1n b3 b3)) b0)))) p9)
  (b5 (j0 1 nd b3)
  (b5 (p8 zU rfl (B8 c8 (a9 b3 b0)) (b9 2 nd) (b8 (j0 1 nd (m4 (a0c (a8 1) b3) (C1 (C0 F0 hr (a9 (a8 0) (a9 (a8 2) b0))) b3)))))
  (b8 (k5 (v7 (a9 (a8 1) b0)))))))),?_⟩
 intro c;have p1:∀a:Int,mOk a 1152921504606846976:=fun a=>.inr (.inl (by decide))
 have d1:(0:Int)<1152921504606846976:=by decide
 have pw:CPow 10 18:=by decide
 unfold poolD
 by_cases h:(10:Int)^(18:Int).toNat<=c
 ·have h':decide ((10:Int)^(18:Int).toNat<=c)=true:=qE h;refine⟨?_,?_⟩
  rotate_left
  ·repeat(first|walk_at "z r" | simp only[pw,h'])
   rfl
 ·have h':decide ((10:Int)^(18:Int).toNat<=c)=false:=qG h;have r40:(-(2^62:Int)<=40/\(40:Int)<2^62):=by decide
  repeat(first|walk_at "z r" | simp only[pw,h',r40])
  generalize el:loopF _ _ _=r;refine a0E el (fun _ ρ=>∃(m:Int) (o:Option D),ρ=[some (.v (.int c)),some (.v (.int m)),o.map .v]) ⟨0,none,rfl⟩ ?_ ?_
  ·rintro d x _ hx _ ⟨m,o,rfl⟩;obtain⟨i,rfl,h1,h2⟩:=K9 hx;obtain⟨j,ej⟩:=D7 c i (by walk_at "o") (by walk_at "o")
   refine⟨_,?_,m*1152921504606846976+j%1152921504606846976,some (.int i),rfl⟩
   repeat(first|walk_at "z r" | simp only[ej,p1,d1])
  ·rintro _ rfl ⟨m,o,rfl⟩;refine⟨m,?_⟩;walk_at "q"
abbrev K4:Stmt:=top 9
theorem P3:FnScope ["left","many","digit"] ["left","many"] (defScope K4):=by walk_at "c"
def q9 (g:LL):Prop:=∀m n:Int,dOk n->∃i m':Int,(0<=i/\i<n)/\g (poolD m) [.int n]=some (.v (.int i),poolD m')
theorem a1w (a0k:mg "divmod"=none)(F:Fun K "_law_next" "_law_next" K4 f fd)(B:Binds K fd ["left","many"] [])(hm:mg "_law_next"=some (.ref f)):∃g,FnL P w K mg base "_law_next" (k+1) g/\q9 g:=by
 have nd:=P3.nd
 refine⟨_,V4 F P3 B hm rfl rfl (fun cdv A outer s H E hr=>(b5 (U2 (a4w a0k (a9 (c7 hr (a8 0) b3) (a9 (a8 1) b0))) (C7 rfl (g6 (a2K (a8 0) b3) (g6 (b9 2 nd) z5))))
  (b8 (k5 (a8 2))))),?_⟩
 intro m n hn;have dm:=r_dm (m:=m) hn;have i10:ixN 1 0=some 0:=rfl;unfold poolD;refine⟨m%n,m/n,⟨Int.emod_nonneg _ (by have:=hn.1;walk_at "o"),Int.emod_lt_of_pos _ hn.1⟩,?_⟩
 repeat(first|walk_at "z r" | simp only[dm,i10])
abbrev O3:Stmt:=top 10
theorem W3:FnScope ["left","a","b","kind","base"] ["left","a","b","kind"] (defScope O3):=by walk_at "c"
def O0 (g:LL):Prop:=∀m a b c:Int,0<=c->c<5->∃t m':Int,(1<=t/\t<=10^12)/\g (poolD m) [.int a,.int b,.int c]=some (.v (tieD (a,b,t)),poolD m')
theorem a11 {c9:LL}(b7:FnL P w K mg base "_law_next" k c9)(b6:q9 c9)(F:Fun K "_law_tie" "_law_tie" O3 f fd)(B:Binds K fd ["left","a","b","kind"] [])(hm:mg "_law_tie"=some (.ref f)):∃g,FnL P w K mg base "_law_tie" (k+1) g/\O0 g:=by
 have nd:=W3.nd
 refine⟨_,V4 F W3 B hm rfl rfl (fun cdv A outer s H E hr=>(b5 (j0 4 nd (c7 hr (v7 (a9 b3 (a9 b3 (a9 (K6 (a1n b3 b3) b3) (a9 b3 (a9 b3 b0)))))) (a8 3)))
  (b8 (k5 (m8 (a9 (a8 1) (a9 (a8 2) (a9 (m4 (a8 4) (j3 b7 hr (a9 (a8 0) (a9 (c7 hr (v7 (a9 b3 (a9 b3 (a9 b3 (a9 b3 (a9 (a1n b3 b3) b0)))))) (a8 3)) b0)))) b0)))))))),?_⟩
 intro m a b c h0 h5;have pw:CPow 10 12:=by decide
 have lp:∀q,lfC (poolD q)=true:=fun q=>rfl;have hc:c=0\/c=1\/c=2\/c=3\/c=4:=by walk_at "o"
 have pz:(10:Int)^(12:Int).toNat=10^12:=rfl;obtain⟨i0,n0,k0,e0⟩:=b6 m 1 (j7 (by decide) (by decide))
 obtain⟨i1,n1,k1,e1⟩:=b6 m 4 (j7 (by decide) (by decide))
 obtain⟨i2,n2,k2,e2⟩:=b6 m 3 (j7 (by decide) (by decide))
 obtain⟨i4,n4,k4,e4⟩:=b6 m ((10:Int)^(12:Int).toNat) (j7 (by decide) (by decide))
 rw[pz] at k4;rcases hc with rfl|rfl|rfl|rfl|rfl
 ·refine⟨7+i0,n0,by walk_at "o",?_⟩
  repeat(first|walk_at "z r" | simp only[pw,e0,lp])
  rfl
 ·refine⟨1+i1,n1,by walk_at "o",?_⟩
  repeat(first|walk_at "z r" | simp only[pw,e1,lp])
  rfl
 ·refine⟨(10:Int)^(12:Int).toNat-2+i2,n2,by rw[pz];walk_at "o",?_⟩
  repeat(first|walk_at "z r" | simp only[pw,e2,lp])
  rfl
 ·refine⟨100+i2,n2,by walk_at "o",?_⟩
  repeat(first|walk_at "z r" | simp only[pw,e2,lp])
  rfl
 ·refine⟨1+i4,n4,by walk_at "o",?_⟩
  repeat(first|walk_at "z r" | simp only[pw,e4,lp])
  rfl
theorem U7:∀{n:Nat} {l:List Nat},l.Nodup->(∀x∈l,x<n)->l.length<=n
 | 0,l,_,h=>by
  cases l with
  | nil=>exact zE _
  | cons x l=>exact absurd (h x zR) (Nat.not_lt_zero x)
 | n+1,l,nd,h=>by
  have h2:=U7 (n:=n) (l:=l.erase n) (nd.erase n) fun x hx=>by
   have z:=(List.Nodup.mem_erase_iff nd).mp hx
   have:=h x z.2
   have:=z.1
   walk_at "o"
  rw[List.length_erase] at h2;split at h2<;>walk_at "o"
structure Tz (n:Int) (a b:Int) (ts:List Tie):Prop where
 t:∀t∈ts,0<=t.1/\t.1<t.2.1/\t.2.1<n/\1<=t.2.2/\t.2.2<=10^12/\(t.1<a\/t.1=a/\t.2.1<b)
 nd:(ts.map fun t=>(t.1,t.2.1)).Nodup
theorem Tz.next {n a b b':Int}{ts:List Tie}(h:Tz n a b ts)(hb:b<=b'):Tz n a b' ts:=⟨fun t ht=>by have:=h.t t ht;walk_at "o",h.nd⟩
theorem Tz.row {n a b b':Int}{ts:List Tie}(h:Tz n a b ts):Tz n (a+1) b' ts:=⟨fun t ht=>by have:=h.t t ht;walk_at "o",h.nd⟩
theorem Tz.put {n a b g:Int}{ts:List Tie}(h:Tz n a b ts)(ha:0<=a)(hab:a<b)(hb:b<n)(hg:1<=g/\g<=10^12):Tz n a (b+1) (ts++[(a,b,g)]):=by
 refine⟨fun t ht=>?_,?_⟩
 ·rcases xJ.mp ht with z|z
  ·have:=h.t t z;walk_at "o"
  ·rw[qA.mp z];show 0<=a/\a<b/\b<n/\1<=g/\g<=10^12/\(a<a\/a=a/\b<b+1);walk_at "o"
 ·rw[jC,nodup_append];refine⟨h.nd,by simp,fun x hx y hy e=>?_⟩
  subst e;obtain⟨t,ht,e⟩:=zY.mp hx;have hy:x=(a,b):=by simpa using hy
  rw[hy] at e;injection e with e1 e2
  have:=h.t t ht
  walk_at "o"
theorem Tz.web {n a b:Int}{ts:List Tie}(h:Tz n a b ts)(hn:1<=n/\n<=8):WebOk n ts:=by
 refine⟨hn,fun t ht=>by have:=h.t t ht;walk_at "o",h.nd,?_⟩
 have nd:(ts.map fun t=>t.1.toNat*7+(t.2.1-1).toNat).Nodup:=by
  refine xS.mpr ?_;refine xT ?_ (xS.mp h.nd);intro a b ha hb hab e
  have:=h.t a ha
  have:=h.t b hb
  exact hab (by rw[show a.1=b.1 by walk_at "o",show a.2.1=b.2.1 by walk_at "o"])
 have:=U7 (n:=49) nd fun x hx=>by
  obtain⟨t,ht,rfl⟩:=zY.mp hx
  have:=h.t t ht
  walk_at "o"
 rw[zD] at this;walk_at "o"
theorem six8 {i:Int}(h0:0<=i)(h4:i<4):∃s:Int,(s=6\/s=8)/\atI [D.int 6,.int 6,.int 6,.int 8] i=some (.int s):=by
 have hc:i=0\/i=1\/i=2\/i=3:=by walk_at "o"
 rcases hc with rfl|rfl|rfl|rfl
 ·exact⟨6,.inl rfl,a_0⟩
 ·exact⟨6,.inl rfl,a_1⟩
 ·exact⟨6,.inl rfl,a_2⟩
 ·exact⟨8,.inr rfl,a_3⟩
abbrev N5:Stmt:=top 12
theorem W5:FnScope ["left","many","kind","rare","ties","a","b"] ["left"] (defScope N5):=by walk_at "c"
def Z3 (g:LL):Prop:=∀p:Int,∃(n q:Int) (ts:List Tie),WebOk n ts/\g (poolD p) []=some (.v (webD n ts),poolD q)
theorem a1V {c9:LL}{w5:LL}(b7:FnL P w K mg base "_law_next" k c9)(b6:q9 c9)(w9:FnL P w K mg base "_law_tie" k w5)(y0:O0 w5)(c8:mg "range"=none)(j1:mg "tuple"=none)(F:Fun K "_law_web" "_law_web" N5 f fd)(B:Binds K fd ["left"] [])(hm:mg "_law_web"=some (.ref f)):∃g,FnL P w K mg base "_law_web" (k+1) g/\Z3 g:=by
 have nd:=W5.nd
 refine⟨_,V4 F W5 B hm rfl rfl (fun cdv A outer s H E hr=>(b5 (j0 1 nd (m4 b3 (j3 b7 hr (a9 (a8 0) (a9 (c7 hr (v7 (a9 b3 (a9 b3 (a9 b3 (a9 b3 b0))))) (j3 b7 hr (a9 (a8 0) (a9 b3 b0)))) b0)))))
  (b5 (j0 2 nd (j3 b7 hr (a9 (a8 0) (a9 b3 b0))))
  (b5 (j0 3 nd (m4 b3 (j3 b7 hr (a9 (a8 0) (a9 b3 b0)))))
  (b5 (j0 4 nd (v7 b0))
  (b5 (p8 zU rfl (B8 c8 (a9 (a8 1) b0)) (b9 5 nd) (b8 (p8 zU rfl (a8B c8 (a9 (m4 (a8 5) b3) (a9 (a8 1) b0))) (b9 6 nd) (b8 (A8 (M1 hr (j3 b7 hr (a9 (a8 0) (a9 (a8 3) b0))) b3) (b8 (Q1 (L4 (a8 4) (a9 (j3 w9 hr (a9 (a8 0) (a9 (a8 5) (a9 (a8 6) (a9 (a8 2) b0))))) b0)))) p9)))))
  (b8 (k5 (m8 (a9 (a8 1) (a9 (qx_t k7 z7 j1 (a9 (a8 4) b0)) b0))))))))))),?_⟩
 intro p;have d4:dOk 4:=j7 (by decide) (by decide)
 have d5:dOk 5:=j7 (by decide) (by decide)
 obtain⟨i0,p0,h0,e0⟩:=b6 p 4 d4;obtain⟨s,hs,ea⟩:=six8 h0.1 h0.2;obtain⟨i1,p1,h1,e1⟩:=b6 p0 s (j7 (by walk_at "o") (by walk_at "o"))
 obtain⟨i2,p2,h2,e2⟩:=b6 p1 5 d5;obtain⟨i3,p3,h3,e3⟩:=b6 p2 4 d4;have lp:∀q,lfC (poolD q)=true:=fun q=>rfl;obtain⟨n,en,hn⟩:∃n:Int,1+i1=n/\1<=n/\n<=8:=⟨_,rfl,by walk_at "o",by walk_at "o"⟩
 obtain⟨ra,er,hra⟩:∃ra:Int,1+i3=ra/\1<=ra/\ra<=4:=⟨_,rfl,by walk_at "o",by walk_at "o"⟩
 have r1:(-(2^62:Int)<=n/\n<2^62):=by walk_at "o"
 repeat(first|walk_at "z r" | simp only[e0,lp,ea,e1,e2,e3,en,er,r1])
 generalize el:loopF _ _ _=r;refine n6 el (fun i ρ=>∃(p:Int) (ts:List Tie) (o8 o9:Option D),ρ=[some (.l (poolD p)),some (.v (.int n)),some (.v (.int i2)),some (.v (.int ra)),some (.o (.lst (ts.map tieD))),o8.map .v,o9.map .v]/\Tz n (i:Int) 0 ts) ⟨p3,[],none,none,rfl,⟨(fun _ h=>by cases h),nodup_nil⟩⟩ ?_ ?_
 ·rintro i x _ hx ⟨p,ts,o8,o9,rfl,ht⟩;obtain⟨rfl,hi⟩:=N4 hx;rw[Int.zero_add];have r2:((-(2^62:Int)<=(i:Int)+1/\(i:Int)+1<2^62)/\-(2^62:Int)<=n/\n<2^62):=by walk_at "o"
  repeat(first|walk_at "z i" | simp only[r2])
  generalize el2:loopF _ _ _=r2;refine n6 el2 (fun j ρ=>∃(p:Int) (ts:List Tie) (o9:Option D),ρ=[some (.l (poolD p)),some (.v (.int n)),some (.v (.int i2)),some (.v (.int ra)),some (.o (.lst (ts.map tieD))),some (.v (.int (i:Int))),o9.map .v]/\Tz n (i:Int) ((i:Int)+1+(j:Int)) ts) ⟨p,ts,o9,rfl,ht.next (by walk_at "o")⟩ ?_ ?_
  ·rintro j x _ hx ⟨p,ts,o9,rfl,ht⟩;obtain⟨rfl,hj⟩:=N4 hx;obtain⟨B,eB,hB⟩:∃B:Int,(i:Int)+1+(j:Int)=B/\(i:Int)<B/\B<n:=⟨_,rfl,by walk_at "o",by walk_at "o"⟩
   have eB':(i:Int)+1+((j+1:Nat):Int)=B+1:=by walk_at "o"
   rw[eB] at ht ⊢;rw[eB'];obtain⟨w,q0,hw,ew⟩:=b6 p ra (j7 (by walk_at "o") (by walk_at "o"))
   by_cases hz:w=0
   ·subst hz;obtain⟨gn,q1,hg,et⟩:=y0 q0 (i:Int) B i2 h2.1 h2.2;have hlen:ts.length<1000000:=by have:=(ht.web hn).len;walk_at "o"
    have z00:((0:Int)==0)=true:=rfl;have lt:lf (tieD ((i:Int),B,gn))=true:=rfl;refine⟨_,?_,q1,ts++[((i:Int),B,gn)],some (.int B),rfl,ht.put (by walk_at "o") hB.1 hB.2 hg⟩
    rw[jC]
    repeat(first|walk_at "z r" | simp only[ew,lp,z00,et,lt,zD,hlen])
    try rfl
   ·have hz':(w==0)=false:=by simpa using hz
    refine⟨_,?_,q0,ts,some (.int B),rfl,ht.next (by walk_at "o")⟩
    repeat(first|walk_at "z r" | simp only[ew,lp,hz'])
  ·rintro _ rfl ⟨p,ts,o9,rfl,ht⟩;refine⟨_,rfl,p,ts,some (.int (i:Int)),o9,rfl,?_⟩;rw[show((i+1:Nat):Int)=(i:Int)+1 by walk_at "o"]
   exact ht.row
 ·rintro _ rfl ⟨p,ts,o8,o9,rfl,ht⟩;have lt:lfL (ts.map tieD)=true:=m7 fun x hx=>by obtain⟨t,_,rfl⟩:=zY.mp hx;rfl
  refine⟨n,p,ts,ht.web hn,?_⟩;unfold webD
  repeat(first|walk_at "z r" | simp only[lt,lp])
structure Mk (n:Nat) (ts:List Tie) (ms:List Int):Prop where
 len:ms.length=n
 le:∀x,x<n->0<=ms.getD x 0/\ms.getD x 0<=(x:Int)
 idem:∀x,x<n->ms.getD (ms.getD x 0).toNat 0=ms.getD x 0
 tie:∀t∈ts,ms.getD t.1.toNat 0=ms.getD t.2.1.toNat 0
 con:∀S:Nat->Prop,(∀t∈ts,(S t.1.toNat↔S t.2.1.toNat))->∀x y,x<n->y<n->ms.getD x 0=ms.getD y 0->(S x↔S y)
theorem Mk.start (n:Nat):Mk n [] (up n):=by
 have g:∀x,x<n->(up n).getD x 0=(x:Int):=fun x hx=>by
  unfold up;rw[zH,zW,xO hx];simp
 refine⟨v4 n,fun x hx=>by rw[g x hx];walk_at "o",fun x hx=>by rw[g x hx,zI,g x hx],(fun _ h=>by cases h),fun S _ x y hx hy e=>?_⟩
 rw[g x hx,g y hy] at e;rw[show x=y by walk_at "o"]
def reM (k d m:Int):Int:=if m=d then k else m
theorem Mk.next {n:Nat}{ts:List Tie}{ms:List Int}{t:Tie}(h:Mk n ts ms)(ha:t.1.toNat<n)(hb:t.2.1.toNat<n){k d:Int}(hk:k=min (ms.getD t.1.toNat 0) (ms.getD t.2.1.toNat 0))(hd:d=max (ms.getD t.1.toNat 0) (ms.getD t.2.1.toNat 0)):Mk n (ts++[t]) (ms.map (reM k d)):=by
 have g:∀x,x<n->(ms.map (reM k d)).getD x 0=reM k d (ms.getD x 0):=fun x hx=>by
  rw[zH,zH,zW,zM (by rw[h.len];exact hx)];rfl
 have la:=h.le _ ha;have lb:=h.le _ hb;have kd:(k=ms.getD t.1.toNat 0/\d=ms.getD t.2.1.toNat 0)\/(k=ms.getD t.2.1.toNat 0/\d=ms.getD t.1.toNat 0):=by walk_at "o"
 have kk:ms.getD k.toNat 0=k/\k.toNat<n/\0<=k:=by
  rcases kd with ⟨e,_⟩|⟨e,_⟩
  ·rw[e];exact⟨h.idem _ ha,by walk_at "o",la.1⟩
  ·rw[e];exact⟨h.idem _ hb,by walk_at "o",lb.1⟩
 refine⟨by rw[zD];exact h.len,fun x hx=>?_,fun x hx=>?_,fun u hu=>?_,fun S hS x y hx hy e=>?_⟩
 ·rw[g x hx]
  have:=h.le x hx
  unfold reM
  split<;>walk_at "o"
 ·rw[g x hx];have lx:=h.le x hx
  by_cases e:ms.getD x 0=d
  ·have r1:reM k d (ms.getD x 0)=k:=if_pos e;rw[r1,g _ kk.2.1,kk.1];unfold reM
   split<;>rfl
  ·have r1:reM k d (ms.getD x 0)=ms.getD x 0:=if_neg e;rw[r1,g _ (by walk_at "o"),h.idem x hx,r1]
 ·rcases xJ.mp hu with z|z
  ·have e:=h.tie u z
   by_cases h1:u.1.toNat<n
   ·by_cases h2:u.2.1.toNat<n
    ·rw[g _ h1,g _ h2,e]
    ·have o:∀l:List Int,l.length=n->l.getD u.2.1.toNat 0=0:=fun l hl=>by rw[zH,qS (by walk_at "o")];rfl
     rw[o ms h.len] at e;rw[g _ h1,o _ (by rw[zD];exact h.len),e]
     unfold reM
     split
     ·have:=kk.2.2;walk_at "o"
     ·rfl
   ·have o:∀l:List Int,l.length=n->l.getD u.1.toNat 0=0:=fun l hl=>by rw[zH,qS (by walk_at "o")];rfl
    rw[o ms h.len] at e
    by_cases h2:u.2.1.toNat<n
    ·rw[g _ h2,o _ (by rw[zD];exact h.len),<-e]
     unfold reM
     split
     ·have:=kk.2.2;walk_at "o"
     ·rfl
    ·have o2:(ms.map (reM k d)).getD u.2.1.toNat 0=0:=by rw[zH,qS (by rw[zD,h.len];walk_at "o")];rfl
     rw[o _ (by rw[zD];exact h.len),o2]
  ·rw[qA.mp z,g _ ha,g _ hb];unfold reM
   split<;>split<;>walk_at "o"
 ·rw[g x hx,g y hy] at e;have hS0:=h.con S fun u hu=>hS u (List.mem_append_left _ hu);have hab:=hS t (qP _ (List.mem_singleton_self _))
  by_cases q:ms.getD x 0=ms.getD y 0
  ·exact hS0 x y hx hy q
  ·have c1:(ms.getD x 0=ms.getD t.1.toNat 0/\ms.getD y 0=ms.getD t.2.1.toNat 0)\/(ms.getD x 0=ms.getD t.2.1.toNat 0/\ms.getD y 0=ms.getD t.1.toNat 0):=by
    unfold reM at e;split at e<;>split at e<;>walk_at "o"
   rcases c1 with ⟨e1,e2⟩|⟨e1,e2⟩
   ·exact((hS0 x _ hx ha e1).trans hab).trans (hS0 y _ hy hb e2).symm
   ·exact((hS0 x _ hx hb e1).trans hab.symm).trans (hS0 y _ hy ha e2).symm
def reH (k d:Int):D->D
 | .int m=>.int (reM k d m)
 | _=>.non
theorem a9l (k d:Int)(ms:List Int):((ms.map D.int).filter fun _=>true).map (reH k d)=(ms.map (reM k d)).map .int:=by
 rw[S8,jB,jB];rfl
def rootsOf (ms:List Int):List Int:=intsN (lm (mAll (ms.map Int.toNat)))
def partOf (n:Nat) (ms:List Int) (r:Int):List Int:=(up n).filter fun x=>ms.getD x.toNat 0==r
theorem Mk.roots {n:Nat}{ts:List Tie}{ms:List Int}(h:Mk n ts ms)(h8:n<=8){r:Int}:r∈rootsOf ms↔0<=r/\r.toNat<n/\ms.getD r.toNat 0=r:=by
 unfold rootsOf intsN;constructor
 ·intro hr;obtain⟨m,hm,rfl⟩:=zY.mp hr;obtain⟨_,hb⟩:=M7.mp hm;rw[P2,xH] at hb;obtain⟨x,hx,e⟩:=zY.mp hb;obtain⟨i,hi,e2⟩:=mem_iff_getElem.mp hx;have hi':i<n:=by rw[<-h.len];exact hi
  have eg:ms.getD i 0=x:=by rw[zH,zM hi,e2];rfl
  have l:=h.le i hi';have id:=h.idem i hi';rw[eg] at l id;refine⟨by walk_at "o",by walk_at "o",?_⟩
  rw[zI,<-e];rw[show((x.toNat:Nat):Int)=x by walk_at "o"]
  exact id
 ·rintro⟨h0,h1,h2⟩;refine zY.mpr ⟨r.toNat,M7.mpr ⟨by walk_at "o",?_⟩,by walk_at "o"⟩
  rw[P2,xH];refine zY.mpr ⟨r,?_,rfl⟩;rw[<-h2,zH,zM (by rw[h.len];exact h1)]
  exact getElem_mem _
theorem a4J (ms:List Int):(rootsOf ms).length<=8:=by unfold rootsOf intsN;rw[zD];exact T8 _
def atM (ms:List Int) (r:Int):D->Bool
 | .int x=>ms.getD x.toNat 0==r
 | _=>false
theorem a5i (n:Nat)(ms:List Int)(r:Int):((rngD 0 n).filter (atM ms r)).map id=(partOf n ms r).map .int:=by
 rw[map_id,G3,filter_map];rfl
def partH (n:Nat) (ms:List Int):D->D
 | .int r=>tupI (partOf n ms r)
 | _=>.non
abbrev a1k:Stmt:=top 1
theorem a10:FnScope ["web","people","ties","least","one","other","gain","kept","dropped"] ["web"] (defScope a1k):=by walk_at "c"
def a3w (g:LO):Prop:=∀(n:Int) (ts:List Tie),WebOk n ts->∃ms:List Int,Mk n.toNat ts ms/\g [webD n ts]=some (.o (.lst (((rootsOf ms).map fun r=>partOf n.toNat ms r).map tupI)))
theorem a54 (T4:mg "list"=none)(c8:mg "range"=none)(j1:mg "tuple"=none)(m_min:mg "min"=none)(m_max:mg "max"=none)(u9:mg "sorted"=none)(m_set:mg "set"=none)(F:Fun K "parts" "parts" a1k f fd)(B:Binds K fd ["web"] [])(hm:mg "parts"=some (.ref f)):∃g,Fn P w K mg base "parts" (k+1) g/\a3w g:=by
 have nd:=a10.nd
 refine⟨_,Q3 F a10 B hm rfl rfl (fun cdv A outer s H E hr=>(b5 (U2 (a8 0) (C7 rfl (g6 (b9 1 nd) (g6 (b9 2 nd) z5))))
  (b5 (j0 3 nd (a6v rfl T4 c8 (a9 (a8 1) b0)))
  (b5 (p8 zU rfl (A4 (a8 2)) (C7 rfl (g6 (b9 4 nd) (g6 (b9 5 nd) (g6 (b9 6 nd) z5)))) (b5 (U2 (m8 (a9 (qx_b (D2 rfl) Y0 m_min (a9 (c7 hr (a8 3) (a8 4)) (a9 (c7 hr (a8 3) (a8 5)) b0))) (a9 (qx_b (L1 rfl) a1A m_max (a9 (c7 hr (a8 3) (a8 4)) (a9 (c7 hr (a8 3) (a8 5)) b0))) b0))) (C7 rfl (g6 (b9 7 nd) (g6 (b9 8 nd) z5))))
  (b8 (j0 3 nd (q5 (N:=["mark","kept","dropped"]) (js:=[none,some 7,some 8]) (li:=none) rfl (v3 (by exact(.own (.cap rfl rfl rfl rfl (.cap rfl rfl rfl rfl .nil)))) rfl (by exact⟨rfl,⟨rfl,trivial⟩⟩) (by rfl)) (P0 3) (fun _ _ _ _=>(b9 0 (show((["mark","kept","dropped"]:List Str)++[accN]).Nodup by decide +kernel))) (fun _ _ _ _=>z0) (fun _ _ _ _=>(qx_if (M1 hr (a8 0) (a8 2)) (a8 1) (a8 0))))))))
  (b8 (k5 (a49 (N:=["mark","people","least"]) (js:=[none,some 1,some 3]) (li:=none) rfl (a8c (by exact(.own (.cap rfl rfl rfl rfl (.cap rfl rfl rfl rfl .nil)))) rfl (by exact⟨rfl,⟨rfl,trivial⟩⟩) (by rfl) (by rfl)) (B0 (A4 (a0t rfl u9 m_set (a9 (a8 3) b0)))) (fun _ _ _ _=>(b9 0 (show((["mark","people","least"]:List Str)++[accN]).Nodup by decide +kernel))) (fun _ _ _ _=>z0) (fun _ _ _ _=>(qx_t k7 z7 j1 (a9 (q5 (N:=["who","mark","least"]) (js:=[none,some 0,some 2]) (li:=none) rfl (v3 (by exact(.own (.cap rfl rfl rfl rfl (.cap rfl rfl rfl rfl .nil)))) rfl (by exact⟨rfl,⟨rfl,trivial⟩⟩) (by rfl)) (B0 (B8 c8 (a9 (a8 1) b0))) (fun _ _ _ _=>(b9 0 (show((["who","mark","least"]:List Str)++[accN]).Nodup by decide +kernel))) (fun _ _ _ _=>(R8 rfl (M1 hr (c7 hr (a8 2) (a8 0)) (a8 1)))) (fun _ _ _ _=>(a8 0))) b0)))))))))),?_⟩
 intro n ts hw;have hn:=hw.n1;have hlen:=hw.len;have r1:(0<=n/\n<=1000):=by walk_at "o"
 have r2:(-(2^62:Int)<=n/\n<2^62):=by walk_at "o"
 have ru:rngD 0 n.toNat=(up n.toNat).map .int:=G3 _;have lu:=g9 (up n.toNat);unfold webD
 repeat(first|walk_at "z r" | simp only[r1,ru,lu])
 generalize el:loopF _ _ _=r;refine n6 el (fun i ρ=>∃(ms:List Int) (o4 o5 o6 o7 o8:Option D),ρ=[some (.v (.tup [.int n,.tup (ts.map tieD)])),some (.v (.int n)),some (.v (.tup (ts.map tieD))),some (.o (.lst (ms.map .int))),o4.map .v,o5.map .v,o6.map .v,o7.map .v,o8.map .v]/\Mk n.toNat (ts.take i) ms) ⟨up n.toNat,none,none,none,none,none,rfl,Mk.start _⟩ ?_ ?_
 ·rintro i x _ hx ⟨ms,o4,o5,o6,o7,o8,rfl,hm⟩;rw[zW] at hx;cases hi:ts[i]? with
  | none=>rw[hi] at hx;cases hx
  | some t=>
   rw[hi] at hx;cases hx;have ht:=hw.t t (qR hi);have eT:ts.take (i+1)=ts.take i++[t]:=by rw[take_add_one,hi];rfl
   have ml:=hm.len;have xa:=t9 (ns:=ms) (i:=t.1) ht.1 (by walk_at "o")
   have xb:=t9 (ns:=ms) (i:=t.2.1) (by walk_at "o") (by walk_at "o")
   have lm':=g9 ms;obtain⟨k,ek,hk⟩:∃k,(if ms.getD t.2.1.toNat 0<ms.getD t.1.toNat 0 then ms.getD t.2.1.toNat 0 else ms.getD t.1.toNat 0)=k/\k=min (ms.getD t.1.toNat 0) (ms.getD t.2.1.toNat 0):=⟨_,rfl,by split<;>walk_at "o"⟩
   obtain⟨d,ed,hd⟩:∃d,(if ms.getD t.2.1.toNat 0>ms.getD t.1.toNat 0 then ms.getD t.2.1.toNat 0 else ms.getD t.1.toNat 0)=d/\d=max (ms.getD t.1.toNat 0) (ms.getD t.2.1.toNat 0):=⟨_,rfl,by split<;>walk_at "o"⟩
   have rm:=a9l k d ms;refine⟨_,?_,ms.map (reM k d),some (.int t.1),some (.int t.2.1),some (.int t.2.2),some (.int k),some (.int d),rfl,by rw[eT];exact hm.next (by walk_at "o") (by walk_at "o") hk hd⟩
   rw[show tieD t= .tup [.int t.1,.int t.2.1,.int t.2.2] from rfl]
   repeat(first|walk_at "z r" | simp only[xa,xb,ek,ed,lm'])
   rw[k8 (ρ1:=[some (.v (.tup [.int n,.tup (ts.map tieD)])),some (.v (.int n)),some (.v (.tup (ts.map tieD))),some (.o (.lst (ms.map .int))),some (.v (.int t.1)),some (.v (.int t.2.1)),some (.v (.int t.2.2)),some (.v (.int k)),some (.v (.int d))]) (xs:=ms.map .int) (fun B=>∃o1:Option D,B=[o1.map .v,some (.v (.int k)),some (.v (.int d))]) (fun _=>true) (reH k d)]
   ·rw[rm];have l2:=g9 (ms.map (reM k d))
    repeat(first|walk_at "z r" | simp only[l2])
    try rfl
   ·repeat(first|walk_at "z r" | simp only[lm'])
   ·rintro _ ⟨_,rfl⟩;rfl
   ·exact⟨none,rfl⟩
   ·rw[zD];unfold lim;walk_at "o"
   ·rw[rm];exact g9 _
   ·rintro x hx _ zs ⟨o1,rfl⟩;obtain⟨m,_,rfl⟩:=a0d hx;refine⟨[some (.v (.int m)),some (.v (.int k)),some (.v (.int d))],.v (.int (reM k d m)),⟨some _,rfl⟩,?_,rfl,fun _=>⟨?_,.inl rfl⟩⟩
    ·walk_at "q"
    ·by_cases e:m=d
     ·have z:(m==d)=true:=by simpa using e
      rw[show reM k d m=k from if_pos e]
      repeat(first|walk_at "z r" | simp only[z])
     ·have z:(m==d)=false:=by simpa using e
      rw[show reM k d m=m from if_neg e]
      repeat(first|walk_at "z r" | simp only[z])
 ·rintro _ rfl ⟨ms,o4,o5,o6,o7,o8,rfl,hm⟩;rw[zD,take_length] at hm;refine⟨ms,hm,?_⟩;have ml:=hm.len;have lm':=g9 ms;have r8:∀x∈ms,0<=x/\x<8:=fun x hx=>by
   obtain⟨i,hi,e⟩:=mem_iff_getElem.mp hx
   have:=hm.le i (by walk_at "o")
   rw[zH,zM hi,e] at this;have h:0<=x/\x<=(i:Int):=this;walk_at "o"
  have sl:gSL (.lst (ms.map .int))=some (.o (.lst ((rootsOf ms).map .int))):=by
   unfold gSL;dsimp only;rw[D8,bind_some,if_pos r8];rfl
  have rl:=a4J ms;have lr:=g9 (rootsOf ms);have pm:(((rootsOf ms).map D.int).filter fun _=>true).map (partH n.toNat ms)=((rootsOf ms).map fun r=>partOf n.toNat ms r).map tupI:=by
   rw[S8,jB,jB];rfl
  have lp:lfL (((rootsOf ms).map fun r=>partOf n.toNat ms r).map tupI)=true:=m7 fun x hx=>by
   obtain⟨k,_,rfl⟩:=zY.mp hx;exact g9 k
  repeat(first|walk_at "z r" | simp only[lm',sl,lr])
  rw[k8 (ρ1:=[some (.v (.tup [.int n,.tup (ts.map tieD)])),some (.v (.int n)),some (.v (.tup (ts.map tieD))),some (.o (.lst (ms.map .int))),o4.map .v,o5.map .v,o6.map .v,o7.map .v,o8.map .v]) (xs:=(rootsOf ms).map .int) (fun B=>∃o1:Option D,B=[o1.map .v,some (.v (.int n)),some (.v (.lst (ms.map .int)))]) (fun _=>true) (partH n.toNat ms)]
  ·rw[pm]
   repeat(first|walk_at "z r" | simp only[lp])
   try rfl
  ·repeat(first|walk_at "z r" | simp only[lm',sl,lr])
  ·rintro _ ⟨_,rfl⟩;rfl
  ·exact⟨none,rfl⟩
  ·rw[zD];unfold lim;walk_at "o"
  ·rw[pm];exact lp
  ·rintro x hx _ zs ⟨o1,rfl⟩;obtain⟨r,_,rfl⟩:=a0d hx;have qm:=a5i n.toNat ms r;have lq:=g9 (partOf n.toNat ms r);refine⟨[some (.v (.int r)),some (.v (.int n)),some (.v (.lst (ms.map .int)))],.v (tupI (partOf n.toNat ms r)),⟨some _,rfl⟩,?_,rfl,fun _=>⟨?_,.inl rfl⟩⟩
   ·walk_at "q"
   ·walk_at "q";rw[k8 (ρ1:=[some (.v (.int r)),some (.v (.int n)),some (.v (.lst (ms.map .int)))]++acc zs) (xs:=rngD 0 n.toNat) (fun B=>∃o1:Option D,B=[o1.map .v,some (.v (.int r)),some (.v (.lst (ms.map .int)))]) (atM ms r) id]
    ·rw[qm]
     repeat(first|walk_at "z r" | simp only[lq])
     try rfl
    ·repeat(first|walk_at "z r" | simp only[r2])
    ·rintro _ ⟨_,rfl⟩;rfl
    ·exact⟨none,rfl⟩
    ·rw[E4];unfold lim;walk_at "o"
    ·rw[qm];exact lq
    ·rintro y hy _ zs' ⟨o1,rfl⟩;obtain⟨w,rfl,hw0,hw1⟩:=K9 hy;have xw:=t9 (ns:=ms) (i:=w) hw0 (by walk_at "o")
     refine⟨[some (.v (.int w)),some (.v (.int r)),some (.v (.lst (ms.map .int)))],.v (.int w),⟨some _,rfl⟩,?_,?_,fun _=>⟨?_,.inl rfl⟩⟩
     ·walk_at "q"
     ·rw[show atM ms r (.int w)=(ms.getD w.toNat 0==r) from rfl]
      repeat(first|walk_at "z r" | simp only[xw])
     ·walk_at "q"
def cardF (n:Nat) (S:Nat->Bool):Nat:=((List.range n).filter S).length
theorem a78 (n:Nat)(S:Nat->Bool):cardF n S<=n:=by
 have:=length_filter_le S (List.range n)
 rw[length_range] at this;exact this
theorem a05 {S T:Nat->Bool}{e:Nat}(h0:S e=false)(h1:T e=true)(h:∀x,x≠e->T x=S x):∀n,e<n->cardF n T=cardF n S+1:=by
 have lo:∀n,n<=e->cardF n T=cardF n S:=fun n hn=>by
  unfold cardF;rw[List.filter_congr fun x hx=>h x (by have:=xB.mp hx;walk_at "o")]
 intro n
 induction n with
 | zero=>intro h;walk_at "o"
 | succ n ih=>
  intro hn;unfold cardF;rw[range_succ,List.filter_append,List.filter_append,zZ,zZ]
  by_cases q:n=e
  ·have l:=lo n (by walk_at "o")
   unfold cardF at l;rw[l,q,xW h1,List.filter_cons_of_neg (by rw[h0];simp)]
   rfl
  ·have i:=ih (by walk_at "o")
   unfold cardF at i;rw[i]
   have:([n].filter T).length=([n].filter S).length:=by rw[List.filter_congr fun x hx=>h x (by rw[qA.mp hx];exact q)]
   walk_at "o"
theorem a2h {n:Nat}{S:Nat->Bool}{e:Nat}(h:e<n)(hs:S e=true):1<=cardF n S:=List.length_pos_of_mem (mem_filter.mpr ⟨xB.mpr h,hs⟩)
def Clo (ts:List Tie) (S:Nat->Bool):Prop:=∀t∈ts,S t.1.toNat=S t.2.1.toNat
def Gr (n:Nat) (ts:List Tie) (j i:Nat) (S:Nat->Bool):Prop:=Clo ts S\/(j+1<=cardF n S/\Clo (ts.take i) S)\/j+2<=cardF n S
theorem Gr.same {n j i:Nat}{ts:List Tie}{S:Nat->Bool}{t:Tie}(h:Gr n ts j i S)(hi:ts[i]? =some t)(e:S t.1.toNat=S t.2.1.toNat):Gr n ts j (i+1) S:=by
 rcases h with h|⟨h1,h2⟩|h
 ·exact .inl h
 ·refine .inr (.inl ⟨h1,fun u hu=>?_⟩);rw[take_add_one,hi] at hu;rcases xJ.mp hu with z|z
  ·exact h2 u z
  ·rw[qA.mp z];exact e
 ·exact .inr (.inr h)
theorem Gr.more {n j i:Nat}{ts:List Tie}{S T:Nat->Bool}{t:Tie}(h:Gr n ts j i S)(hi:ts[i]? =some t)(e:S t.1.toNat≠S t.2.1.toNat)(c:cardF n T=cardF n S+1):Gr n ts j (i+1) T:=by
 rcases h with h|⟨h1,h2⟩|h
 ·exact absurd (h t (qR hi)) e
 ·exact .inr (.inr (by walk_at "o"))
 ·exact .inr (.inr (by walk_at "o"))
theorem Gr.turn {n j i:Nat}{ts:List Tie}{S:Nat->Bool}(h:Gr n ts j i S)(hi:ts.length<=i):Gr n ts (j+1) 0 S:=by
 rcases h with h|⟨h1,h2⟩|h
 ·exact .inl h
 ·rw[jQ hi] at h2;exact .inl h2
 ·exact .inr (.inl ⟨by walk_at "o",fun u hu=>by cases hu⟩)
theorem Gr.start {n:Nat}{ts:List Tie}{S:Nat->Bool}(h:1<=cardF n S):Gr n ts 0 0 S:=.inr (.inl ⟨by walk_at "o",fun u hu=>by cases hu⟩)
theorem Gr.fin {n i:Nat}{ts:List Tie}{S:Nat->Bool}(h:Gr n ts n i S):Clo ts S:=by
 have:=a78 n S
 rcases h with h|⟨h1,_⟩|h
 ·exact h
 ·walk_at "o"
 ·walk_at "o"
def Tied (ts:List Tie) (y z:Int):Prop:=∃t∈ts,(t.1=y/\t.2.1=z)\/(t.1=z/\t.2.1=y)
structure Wy (n:Nat) (ts:List Tie) (ms:List Int) (f:Nat->Option (List Int)):Prop where
 hd:∀x w,f x=some w->w[0]? =some (ms.getD x 0)
 la:∀x w,f x=some w->x<n/\∃u,w=u++[(x:Int)]
 tr:∀x w,f x=some w->∀p y,w[p]? =some y->0<=y/\y.toNat<n/\f y.toNat=some (w.take (p+1))
 ti:∀x w,f x=some w->∀p y z,w[p]? =some y->w[p+1]? =some z->Tied ts y z
theorem Wy.root {n:Nat}{ts:List Tie}{ms:List Int}{f g:Nat->Option (List Int)}{r:Nat}(h:Wy n ts ms f)(hr:r<n)(hm:ms.getD r 0=r)(h0:f r=none)(g1:g r=some [(r:Int)])(g2:∀x,x≠r->g x=f x):Wy n ts ms g:=by
 have cs:∀x w,g x=some w->(x=r/\w=[(r:Int)])\/f x=some w:=fun x w e=>by
  by_cases q:x=r
  ·subst q;rw[g1] at e;exact .inl ⟨rfl,(qC e).symm⟩
  ·rw[g2 x q] at e;exact .inr e
 have up':∀x w,f x=some w->g x=some w:=fun x w e=>by
  rw[g2 x (fun q=>by rw[q,h0] at e;cases e)];exact e
 refine⟨fun x w e=>?_,fun x w e=>?_,fun x w e p y hy=>?_,fun x w e p y z hy hz=>?_⟩
 ·rcases cs x w e with ⟨rfl,rfl⟩|e
  ·rw[hm];rfl
  ·exact h.hd x w e
 ·rcases cs x w e with ⟨rfl,rfl⟩|e
  ·exact⟨hr,[],rfl⟩
  ·exact h.la x w e
 ·rcases cs x w e with ⟨rfl,rfl⟩|e
  ·cases p with
   | zero=>cases hy;exact⟨by walk_at "o",by walk_at "o",by rw[zI,g1];rfl⟩
   | succ p=>simp at hy
  ·have k:=h.tr x w e p y hy;exact⟨k.1,k.2.1,up' _ _ k.2.2⟩
 ·rcases cs x w e with ⟨rfl,rfl⟩|e
  ·simp at hz
  ·exact h.ti x w e p y z hy hz
theorem Wy.next {n:Nat}{ts:List Tie}{ms:List Int}{f g:Nat->Option (List Int)}{s e:Nat}{w0:List Int}(h:Wy n ts ms f)(he:e<n)(hs:f s=some w0)(h0:f e=none)(ht:Tied ts s e)(hm:ms.getD e 0=ms.getD s 0)(g1:g e=some (w0++[(e:Int)]))(g2:∀x,x≠e->g x=f x):Wy n ts ms g:=by
 have cs:∀x w,g x=some w->(x=e/\w=w0++[(e:Int)])\/f x=some w:=fun x w q=>by
  by_cases c:x=e
  ·subst c;rw[g1] at q;exact .inl ⟨rfl,(qC q).symm⟩
  ·rw[g2 x c] at q;exact .inr q
 have up':∀x w,f x=some w->g x=some w:=fun x w q=>by
  rw[g2 x (fun c=>by rw[c,h0] at q;cases q)];exact q
 have lp:∃u,w0=u++[(s:Int)]:=(h.la s w0 hs).2;have l0:0<w0.length:=by obtain⟨u,rfl⟩:=lp;simp
 refine⟨fun x w q=>?_,fun x w q=>?_,fun x w q p y hy=>?_,fun x w q p y z hy hz=>?_⟩
 ·rcases cs x w q with ⟨rfl,rfl⟩|q
  ·rw[zQ l0,h.hd s w0 hs,hm]
  ·exact h.hd x w q
 ·rcases cs x w q with ⟨rfl,rfl⟩|q
  ·exact⟨he,w0,rfl⟩
  ·exact h.la x w q
 ·rcases cs x w q with ⟨rfl,rfl⟩|q
  ·by_cases c:p<w0.length
   ·rw[zQ c] at hy;have k:=h.tr s w0 hs p y hy;exact⟨k.1,k.2.1,by rw[List.take_append_of_le_length (by walk_at "o")];exact up' _ _ k.2.2⟩
   ·rw[zT (by walk_at "o")] at hy
    cases hp:p-w0.length with
    | zero=>
     rw[hp] at hy;cases hy;refine⟨by walk_at "o",by walk_at "o",?_⟩
     rw[zI,g1,jQ (by rw[zZ];simp;walk_at "o")]
    | succ m=>rw[hp] at hy;simp at hy
  ·have k:=h.tr x w q p y hy;exact⟨k.1,k.2.1,up' _ _ k.2.2⟩
 ·rcases cs x w q with ⟨rfl,rfl⟩|q
  ·by_cases c:p+1<w0.length
   ·rw[zQ (by walk_at "o")] at hy
    rw[zQ c] at hz;exact h.ti s w0 hs p y z hy hz
   ·by_cases c2:p<w0.length
    ·obtain⟨u,rfl⟩:=lp;rw[zZ,jM] at c c2;have pu:p=u.length:=by walk_at "o"
     subst pu;rw[yL,zT (by walk_at "o"),jE] at hy
     rw[yL,zT (by walk_at "o"),Nat.add_sub_cancel_left] at hz
     cases hy;cases hz;exact ht
    ·rw[zT (by walk_at "o"),show p+1-w0.length=(p-w0.length)+1 by walk_at "o"] at hz
     simp at hz
  ·exact h.ti x w q p y z hy hz
def Col (n:Nat) (ts:List Tie) (ms:List Int) (c:Nat->Bool):Prop:=(∀t∈ts,c t.1.toNat≠c t.2.1.toNat)/\∀r,r<n->ms.getD r 0=r->c r=false
theorem Col.tied {n:Nat}{ts:List Tie}{ms:List Int}{c:Nat->Bool}(hc:Col n ts ms c){y z:Int}(h:Tied ts y z):c z.toNat= !c y.toNat:=by
 obtain⟨t,ht,⟨rfl,rfl⟩|⟨rfl,rfl⟩⟩:=h
 ·have:=hc.1 t ht
  cases h1:c t.1.toNat<;>cases h2:c t.2.1.toNat<;>simp_all
 ·have:=hc.1 t ht
  cases h1:c t.1.toNat<;>cases h2:c t.2.1.toNat<;>simp_all
theorem Wy.col {n:Nat}{ts:List Tie}{ms:List Int}{f:Nat->Option (List Int)}(h:Wy n ts ms f)(hM:Mk n ts ms){c:Nat->Bool}(hc:Col n ts ms c){x:Nat}{w:List Int}(hx:f x=some w):c x=decide (w.length%2=0):=by
 obtain⟨xn,u,rfl⟩:=h.la x w hx;have key:∀p y,(u++[(x:Int)])[p]? =some y->c y.toNat=decide (p%2=1):=by
  intro p
  induction p with
  | zero=>
   intro y hy;have e:=h.hd x _ hx;rw[hy] at e;have e:=qC e;have l:=hM.le x xn;rw[e,hc.2 (ms.getD x 0).toNat (by walk_at "o") (by rw[hM.idem x xn];walk_at "o")]
   rfl
  | succ p ih=>
   intro y hy;have lt:p+1<(u++[(x:Int)]).length:=(zK.mp hy).1;have e1:(u++[(x:Int)])[p]? =some ((u++[(x:Int)])[p]'(by walk_at "o")):=zM _
   rw[hc.tied (h.ti x _ hx p _ y e1 hy),ih _ e1];rcases qT p with q|q
   ·have:(p+1)%2=1:=by walk_at "o"
    simp[q,this]
   ·have:(p+1)%2=0:=by walk_at "o"
    simp[q,this]
 have e:=key u.length x (by rw[zT (by walk_at "o"),jE];rfl)
 rw[zI] at e;rw[e,zZ,jM];rcases qT u.length with q|q
 ·have:(u.length+1)%2=1:=by walk_at "o"
  simp[q,this]
 ·have:(u.length+1)%2=0:=by walk_at "o"
  simp[q,this]
def wayD:Option (List Int)->D
 | some w=>tupI w
 | none=>.non
theorem L6 (p:List (Option (List Int))):lfL (p.map wayD)=true:=m7 fun x hx=>by
 obtain⟨o,_,rfl⟩:=zY.mp hx;cases o with
 | none=>rfl
 | some w=>exact g9 w
theorem Y9 {p:List (Option (List Int))}{v:Int}(h:0<=v)(l:v<p.length):atI (p.map wayD) v=some (wayD (p.getD v.toNat none)):=by
 refine a6E h ?_;rw[zW,zH,zM (by walk_at "o")]
 rfl
theorem repW (m:Nat):(List.replicate m [D.non]).flatten=(List.replicate m (none:Option (List Int))).map wayD:=by
 rw[List.map_replicate,List.flatten_replicate_singleton];rfl
theorem B7 {ws:List (Option (List Int))}{e:Nat}(he:e<ws.length)(v:Option (List Int))(x:Nat):(ws.set e v).getD x none=if x=e then v else ws.getD x none:=by
 rw[zH,zH,List.getElem?_set]
 by_cases h:x=e
 ·subst h;rw[if_pos rfl,if_pos rfl,if_pos he];rfl
 ·rw[if_neg fun z=>h z.symm,if_neg h]
theorem Wy.start {n:Nat}{ts:List Tie}{ms:List Int}{f:Nat->Option (List Int)}(h:∀x,f x=none\/(f x=some [(x:Int)]/\x<n/\ms.getD x 0=x)):Wy n ts ms f:=by
 have cs:∀x w,f x=some w->w=[(x:Int)]/\x<n/\ms.getD x 0=x/\f x=some [(x:Int)]:=fun x w e=>by
  rcases h x with q|⟨q,a,b⟩
  ·rw[q] at e;cases e
  ·rw[q] at e;exact⟨(qC e).symm,a,b,q⟩
 refine⟨fun x w e=>?_,fun x w e=>?_,fun x w e p y hy=>?_,fun x w e p y z hy hz=>?_⟩
 ·obtain⟨rfl,_,hm,_⟩:=cs x w e;rw[hm];rfl
 ·obtain⟨rfl,hx,_,_⟩:=cs x w e;exact⟨hx,[],rfl⟩
 ·obtain⟨rfl,hx,_,q⟩:=cs x w e;cases p with
  | zero=>cases hy;exact⟨by walk_at "o",by walk_at "o",by rw[zI,q];rfl⟩
  | succ p=>simp at hy
 ·obtain⟨rfl,hx,_,q⟩:=cs x w e;simp at hz
structure WsI (n:Nat) (ts:List Tie) (ms:List Int) (ws:List (Option (List Int))):Prop where
 len:ws.length=n
 wy:Wy n ts ms fun x=>ws.getD x none
 rt:∀r,r<n->ms.getD r 0=r->(ws.getD r none).isSome=true
def hasW (ws:List (Option (List Int))) (x:Nat):Bool:=(ws.getD x none).isSome
def stW (ws:List (Option (List Int))) (s e:Int):List (Option (List Int)):=match ws.getD s.toNat none,ws.getD e.toNat none with
 | some w,none=>ws.set e.toNat (some (w++[e]))
 | _,_=>ws
theorem a1g (ws:List (Option (List Int)))(s e:Int):(stW ws s e).length=ws.length:=by
 unfold stW
 split
 ·exact xK
 ·rfl
theorem a0j {ws:List (Option (List Int))}{s e:Int}{w:List Int}(h1:ws.getD s.toNat none=some w)(h2:ws.getD e.toNat none=none):stW ws s e=ws.set e.toNat (some (w++[e])):=by
 unfold stW;rw[h1,h2]
theorem B3 {ws:List (Option (List Int))}{s e:Int}(h:ws.getD s.toNat none=none\/(ws.getD e.toNat none).isSome=true):stW ws s e=ws:=by
 unfold stW;rcases h with h|h
 ·rw[h]
 ·cases q:ws.getD e.toNat none with
  | none=>rw[q] at h;cases h
  | some v=>cases ws.getD s.toNat none<;>rfl
theorem WsI.put {n:Nat}{ts:List Tie}{ms:List Int}{ws:List (Option (List Int))}(h:WsI n ts ms ws)(hM:Mk n ts ms){s e:Int}{w:List Int}(hs:0<=s)(he:0<=e/\e.toNat<n)(h1:ws.getD s.toNat none=some w)(h2:ws.getD e.toNat none=none)(ht:Tied ts s e):WsI n ts ms (ws.set e.toNat (some (w++[e])))/\cardF n (hasW (ws.set e.toNat (some (w++[e]))))=cardF n (hasW ws)+1:=by
 have hl:e.toNat<ws.length:=by rw[h.len];exact he.2
 have hme:ms.getD e.toNat 0=ms.getD s.toNat 0:=by
  obtain⟨t,ht,⟨rfl,rfl⟩|⟨rfl,rfl⟩⟩:=ht
  ·exact(hM.tie t ht).symm
  ·exact hM.tie t ht
 have es:((s.toNat:Nat):Int)=s:=by walk_at "o"
 have ee:((e.toNat:Nat):Int)=e:=by walk_at "o"
 refine⟨⟨by rw[xK];exact h.len,?_,fun r hr hm=>?_⟩,?_⟩
 ·refine h.wy.next (s:=s.toNat) (e:=e.toNat) he.2 h1 h2 (by rw[es,ee];exact ht) hme ?_ fun x hx=>?_
  ·show(ws.set e.toNat (some (w++[e]))).getD e.toNat none=_;rw[B7 hl,if_pos rfl,ee]
  ·show(ws.set e.toNat (some (w++[e]))).getD x none=_;rw[B7 hl,if_neg hx]
 ·rw[B7 hl]
  split
  ·rfl
  ·exact h.rt r hr hm
 ·refine a05 (e:=e.toNat) (by unfold hasW;rw[h2];rfl) (by unfold hasW;rw[B7 hl,if_pos rfl];rfl) (fun x hx=>by unfold hasW;rw[B7 hl,if_neg hx]) n he.2
theorem WsI.two {n j i:Nat}{ts:List Tie}{ms:List Int}{ws:List (Option (List Int))}{t:Tie}(h:WsI n ts ms ws)(hM:Mk n ts ms)(hi:ts[i]? =some t)(ha:0<=t.1/\t.1.toNat<n)(hb:0<=t.2.1/\t.2.1.toNat<n)(g:Gr n ts j i (hasW ws)):WsI n ts ms (stW (stW ws t.1 t.2.1) t.2.1 t.1)/\Gr n ts j (i+1) (hasW (stW (stW ws t.1 t.2.1) t.2.1 t.1)):=by
 have ht:=qR hi;have hl:∀x:Int,0<=x/\x.toNat<n->x.toNat<ws.length:=fun x hx=>by rw[h.len];exact hx.2
 cases q1:ws.getD t.1.toNat none with
 | none=>
  rw[B3 (.inl q1)];cases q2:ws.getD t.2.1.toNat none with
  | none=>
   rw[B3 (.inl q2)];exact⟨h,g.same hi (by unfold hasW;rw[q1,q2])⟩
  | some w=>
   rw[a0j q2 q1];have k:=h.put hM hb.1 ha q2 q1 ⟨t,ht,.inr ⟨rfl,rfl⟩⟩;exact⟨k.1,g.more hi (by unfold hasW;rw[q1,q2];simp) k.2⟩
 | some w=>
  cases q2:ws.getD t.2.1.toNat none with
  | none=>
   rw[a0j q1 q2,B3 (.inr (by
    rw[B7 (hl _ hb)]
    split
    ·rfl
    ·rw[q1];rfl))]
   have k:=h.put hM ha.1 hb q1 q2 ⟨t,ht,.inl ⟨rfl,rfl⟩⟩;exact⟨k.1,g.more hi (by unfold hasW;rw[q1,q2];simp) k.2⟩
  | some v=>
   rw[B3 (s:=t.1) (e:=t.2.1) (.inr (by rw[q2];rfl)),B3 (.inr (by rw[q1];rfl))]
   exact⟨h,g.same hi (by unfold hasW;rw[q1,q2];rfl)⟩
theorem WsI.full {n:Nat}{ts:List Tie}{ms:List Int}{ws:List (Option (List Int))}(h:WsI n ts ms ws)(hM:Mk n ts ms)(c:Clo ts (hasW ws)):∀x,x<n->(ws.getD x none).isSome=true:=fun x hx=>by
 have l:=hM.le x hx;have k:=hM.con (fun y=>hasW ws y=true) (fun t ht=>by show hasW ws t.1.toNat=true↔_;rw[c t ht]) x (ms.getD x 0).toNat hx (by walk_at "o") (hM.idem x hx).symm
 exact k.mpr (h.rt _ (by walk_at "o") (by rw[hM.idem x hx];walk_at "o"))
theorem a4P {n:Nat}{ts:List Tie}{ms:List Int}(hM:Mk n ts ms){r:Int}(h:0<=r/\r.toNat<n/\ms.getD r.toNat 0=r):∃l,partOf n ms r=r::l:=by
 obtain⟨h0,h1,h2⟩:=h;have e:(up n)=up r.toNat++r::((List.range (n-r.toNat-1)).map fun i=>((r.toNat+(i+1):Nat):Int)):=by
  unfold up
  conv=>lhs;rw[show n=r.toNat+(n-r.toNat-1+1) by walk_at "o",List.range_add,List.range_succ_eq_map]
  rw[jC,jB,zJ,jB];congr 1;refine List.cons_eq_cons.mpr ⟨?_,?_⟩
  ·show 0+((r.toNat+0:Nat):Int)=r;walk_at "o"
  ·refine yN fun i _=>?_;show 0+((r.toNat+(i+1):Nat):Int)=_;walk_at "o"
 unfold partOf;rw[e,List.filter_append,List.filter_eq_nil_iff.mpr,nil_append,xW]
 ·exact⟨_,rfl⟩
 ·simpa using h2
 ·intro x hx;obtain⟨x0,hx0⟩:=S5.mp hx
  have:=(hM.le x.toNat (by walk_at "o")).2
  simp only[beq_iff_eq];walk_at "o"
theorem a95 {a:D}{l:List D}:cutD (a::l) none (some 1)=[a]:=by
 unfold cutD;rw[show(1:Int)=((1:Nat):Int) from rfl,HT.sIx_nat,HT.sIx_none,drop_zero,Nat.sub_zero,qL,Nat.min_eq_left (by walk_at "o")]
 rfl
theorem K7 {α:Type} [DecidableEq α] {l m:List α}(nd:l.Nodup)(h:∀x∈l,x∈m):l.length<=m.length:=by
 induction l generalizing m with
 | nil=>exact jW _
 | cons x l ih=>
  obtain⟨n1,n2⟩:=yA.mp nd;have hx:=h x zR
  have:=ih (m:=m.erase x) n2 fun y hy=>(List.mem_erase_of_ne fun e=>n1 (by rw[<-e];exact hy)).mpr (h y (zN _ hy))
  rw[List.length_erase_of_mem hx] at this
  have:=List.length_pos_of_mem hx
  rw[qL];walk_at "o"
theorem Wy.nd {n:Nat}{ts:List Tie}{ms:List Int}{f:Nat->Option (List Int)}(h:Wy n ts ms f){x:Nat}{w:List Int}(hx:f x=some w):w.Nodup:=by
 refine xM.mpr fun i j hi hj hij e=>?_;have k1:=(h.tr x w hx i _ (zM hi)).2.2;have k2:=(h.tr x w hx j _ (zM hj)).2.2;rw[e,k2] at k1;have k:=xG List.length (qC k1);rw[jX,jX] at k;walk_at "o"
theorem Wy.bd {n:Nat}{ts:List Tie}{ms:List Int}{f:Nat->Option (List Int)}(h:Wy n ts ms f){x:Nat}{w:List Int}(hx:f x=some w):1<=w.length/\w.length<=n:=by
 refine⟨?_,?_⟩
 ·obtain⟨_,u,rfl⟩:=h.la x w hx;rw[zZ,jM];walk_at "o"
 ·have:=K7 (m:=up n) (h.nd hx) fun y hy=>by
   obtain⟨p,hp,rfl⟩:=mem_iff_getElem.mp hy;have k:=h.tr x w hx p _ (zM hp);exact S5.mpr ⟨k.1,by walk_at "o"⟩
  rw[v4] at this;exact this
theorem WsI.one {n:Nat}{ts:List Tie}{ms:List Int}{ws:List (Option (List Int))}(h:WsI n ts ms ws)(hM:Mk n ts ms){s e:Int}(hs:0<=s)(he:0<=e/\e.toNat<n)(ht:Tied ts s e):WsI n ts ms (stW ws s e):=by
 cases q1:ws.getD s.toNat none with
 | none=>rw[B3 (.inl q1)];exact h
 | some w=>
  cases q2:ws.getD e.toNat none with
  | none=>rw[a0j q1 q2];exact(h.put hM hs he q1 q2 ht).1
  | some v=>rw[B3 (.inr (by rw[q2];rfl))];exact h
theorem a3S (W:List (Option (List Int)))(e:Int)(w:List Int):(W.map wayD).set e.toNat (.tup (w.map .int++[.int e]))=(W.set e.toNat (some (w++[e]))).map wayD:=by
 rw[List.map_set];show _=(W.map wayD).set e.toNat (.tup ((w++[e]).map .int));rw[jC];rfl
theorem a3q {w:List Int}{e:Int}(h:1<=w.length/\w.length<=8):(w.map D.int)≠[]/\(w.map D.int).length<=999999:=by
 rw[zD];exact⟨fun z=>by rw[List.map_eq_nil_iff.mp z] at h;simp at h,by walk_at "o"⟩
abbrev V5:Stmt:=top 4
theorem Y8:FnScope ["web","people","ties","ways","part","turn","one","other","gain","start","end"] ["web"] (defScope V5):=by walk_at "c"
def a0X (g:LO):Prop:=∀(n:Int) (ts:List Tie),WebOk n ts->∃(ms:List Int) (ws:List (Option (List Int))),Mk n.toNat ts ms/\WsI n.toNat ts ms ws/\(∀x,x<n.toNat->(ws.getD x none).isSome=true)/\g [webD n ts]=some (.o (.lst (ws.map wayD)))
theorem a22 {a1E:LO}(a1N:Fn P w K mg base "parts" k a1E)(a1m:a3w a1E)(c8:mg "range"=none)(F:Fun K "ways_of" "ways_of" V5 f fd)(B:Binds K fd ["web"] [])(hm:mg "ways_of"=some (.ref f)):∃g,Fn P w K mg base "ways_of" (k+1) g/\a0X g:=by
 have nd:=Y8.nd
 refine⟨_,Q3 F Y8 B hm rfl rfl (fun cdv A outer s H E hr=>(b5 (U2 (a8 0) (C7 rfl (g6 (b9 1 nd) (g6 (b9 2 nd) z5))))
  (b5 (j0 3 nd (a9z (v7 (a9 a2W b0)) (a8 1)))
  (b5 (p8 zU rfl (A4 (C0 a1N hr (a9 (a8 0) b0))) (b9 4 nd) (b8 (U2 (J2 (a8 4) R9 (R0 b3)) (a2K (a8 3) (c7 hr (a8 4) b3)))))
  (b5 (p8 zU rfl (B8 c8 (a9 (a8 1) b0)) (b9 5 nd) (b8 (p8 zU rfl (A4 (a8 2)) (C7 rfl (g6 (b9 6 nd) (g6 (b9 7 nd) (g6 (b9 8 nd) z5)))) (b8 (p8 zU rfl (A4 (m8 (a9 (m8 (a9 (a8 6) (a9 (a8 7) b0))) (a9 (m8 (a9 (a8 7) (a9 (a8 6) b0))) b0)))) (C7 rfl (g6 (b9 9 nd) (g6 (b9 10 nd) z5))) (b8 (A8 (R6 (T9 (a5y (c7 hr (a8 3) (a8 9)) a2W) (L0 (qt_is (c7 hr (a8 3) (a8 10)) a2W)))) (b8 (U2 (m4 (c7 hr (a8 3) (a8 9)) (m8 (a9 (a8 10) b0))) (a2K (a8 3) (a8 10)))) p9)))))))
  (b8 (k5 (a8 3)))))))),?_⟩
 intro n ts hw;have hn:=hw.n1;have hlen:=hw.len;have r1:(0<=n/\n<=1000):=by walk_at "o"
 have r2:(-(2^62:Int)<=n/\n<2^62):=by walk_at "o"
 obtain⟨ms,hM,ep⟩:=a1m n ts hw;refine⟨ms,?_⟩;have orp:oRep (.lst [.non]) (.int n)=some (.o (.lst ((List.replicate n.toNat (none:Option (List Int))).map wayD))):=by
  rw[o_rep ⟨by walk_at "o",by rw[jM];unfold lim;walk_at "o"⟩,repW]
 have lo:=L6 (List.replicate n.toNat none);unfold webD at ep ⊢
 repeat(first|walk_at "z r" | simp only[r1,r2,orp,lo,ep])
 have lpp:lfL (((rootsOf ms).map fun r=>partOf n.toNat ms r).map tupI)=true:=m7 fun x hx=>by
  obtain⟨o,_,rfl⟩:=zY.mp hx;exact g9 o
 repeat(first|walk_at "z r" | simp only[lpp])
 generalize el:loopF _ _ _=r;refine n6 el (fun i ρ=>∃(ws:List (Option (List Int))) (o4:Option D),ρ=[some (.v (.tup [.int n,.tup (ts.map tieD)])),some (.v (.int n)),some (.v (.tup (ts.map tieD))),some (.o (.lst (ws.map wayD))),o4.map .v,none,none,none,none,none,none]/\ws.length=n.toNat/\(∀x,ws.getD x none=none\/(ws.getD x none=some [(x:Int)]/\x<n.toNat/\ms.getD x 0=x))/\∀q∈(rootsOf ms).take i,(ws.getD q.toNat none).isSome=true) ⟨List.replicate n.toNat none,none,rfl,List.length_replicate,fun x=>.inl (by rw[zH,List.getElem?_replicate];split<;>rfl),fun q hq=>by cases hq⟩ ?_ ?_
 ·rintro i x _ hx ⟨ws,o4,rfl,hl,h1,h2⟩;rw[zW,zW] at hx;cases hi:(rootsOf ms)[i]? with
  | none=>rw[hi] at hx;cases hx
  | some q=>
   rw[hi] at hx;cases hx;have hq:=(hM.roots (by walk_at "o")).mp (qR hi)
   obtain⟨l,el⟩:=a4P hM hq;have eq:((q.toNat:Nat):Int)=q:=by walk_at "o"
   have x1:ixN (ws.map wayD).length q=some q.toNat:=a2Y hq.1 (by rw[zD];walk_at "o")
   have s1:(ws.map wayD).set q.toNat (.tup [.int q])=(ws.set q.toNat (some [q])).map wayD:=by rw[List.map_set];rfl
   have lw:=L6 (ws.set q.toNat (some [q]));have hql:q.toNat<ws.length:=by walk_at "o"
   refine⟨_,?_,ws.set q.toNat (some [q]),some (tupI (q::l)),rfl,by rw[xK];exact hl,fun x=>?_,fun p hp=>?_⟩
   ·show turnF _ _ (tupI (partOf n.toNat ms q)) _=_;rw[el];unfold tupI
    repeat(first|walk_at "z r" | simp only[a95,x1,s1,lw])
   ·rw[B7 hql]
    split
    ·rename_i e;rw[e,eq];exact .inr ⟨rfl,hq.2.1,hq.2.2⟩
    ·exact h1 x
   ·rw[B7 hql]
    split
    ·rfl
    ·rename_i e;rw[take_add_one,hi] at hp;rcases xJ.mp hp with z|z
     ·exact h2 p z
     ·exact absurd (by rw[qA.mp z]) e
 ·rintro _ rfl ⟨ws0,o4,rfl,hl0,h1,h2⟩;rw[zD,zD,take_length] at h2
  have W0:WsI n.toNat ts ms ws0:=⟨hl0,Wy.start h1,fun r hr hm=>by
   have:=h2 (r:Int) ((hM.roots (by walk_at "o")).mpr ⟨by walk_at "o",by walk_at "o",by rw[zI];exact hm⟩)
   rw[zI] at this
   exact this⟩
  have c0:1<=cardF n.toNat (hasW ws0):=a2h (e:=0) (by walk_at "o") (W0.rt 0 (by walk_at "o") (by have:=hM.le 0 (by walk_at "o");walk_at "o"))
  repeat(first|walk_at "z r" | simp only[r1,r2])
  generalize el2:loopF _ _ _=r;refine n6 el2 (fun j ρ=>∃(ws:List (Option (List Int))) (o5 o6 o7 o8 o9 o10:Option D),ρ=[some (.v (.tup [.int n,.tup (ts.map tieD)])),some (.v (.int n)),some (.v (.tup (ts.map tieD))),some (.o (.lst (ws.map wayD))),o4.map .v,o5.map .v,o6.map .v,o7.map .v,o8.map .v,o9.map .v,o10.map .v]/\WsI n.toNat ts ms ws/\Gr n.toNat ts j 0 (hasW ws)) ⟨ws0,none,none,none,none,none,none,rfl,W0,Gr.start c0⟩ ?_ ?_
  ·rintro j x _ hx ⟨ws1,o5,o6,o7,o8,o9,o10,rfl,W1,g1⟩;walk_at "q";generalize el3:loopF _ _ _=r;refine n6 el3 (fun i ρ=>∃(ws:List (Option (List Int))) (o6 o7 o8 o9 o10:Option D),ρ=[some (.v (.tup [.int n,.tup (ts.map tieD)])),some (.v (.int n)),some (.v (.tup (ts.map tieD))),some (.o (.lst (ws.map wayD))),o4.map .v,some (.v x),o6.map .v,o7.map .v,o8.map .v,o9.map .v,o10.map .v]/\WsI n.toNat ts ms ws/\Gr n.toNat ts j i (hasW ws)) ⟨ws1,o6,o7,o8,o9,o10,rfl,W1,g1⟩ ?_ ?_
   ·rintro i y _ hy ⟨ws,o6,o7,o8,o9,o10,rfl,W,g⟩;rw[zW] at hy;cases hi:ts[i]? with
    | none=>rw[hi] at hy;cases hy
    | some t=>
     rw[hi] at hy;cases hy;have ht:=hw.t t (qR hi);have wl:=W.len;have W2:=W.one hM ht.1 (e:=t.2.1) ⟨by walk_at "o",by walk_at "o"⟩ ⟨t,qR hi,.inl ⟨rfl,rfl⟩⟩
     have k:=W.two hM hi ⟨ht.1,by walk_at "o"⟩ ⟨by walk_at "o",by walk_at "o"⟩ g
     rw[show tieD t= .tup [.int t.1,.int t.2.1,.int t.2.2] from rfl];walk_at "q";generalize el4:loopF _ _ _=r;refine n6 el4 (fun m ρ=>∃(o9 o10:Option D),ρ=[some (.v (.tup [.int n,.tup (ts.map tieD)])),some (.v (.int n)),some (.v (.tup (ts.map tieD))),some (.o (.lst ((match m with|0=>ws|1=>stW ws t.1 t.2.1|_=>stW (stW ws t.1 t.2.1) t.2.1 t.1).map wayD))),o4.map .v,some (.v x),some (.v (.int t.1)),some (.v (.int t.2.1)),some (.v (.int t.2.2)),o9.map .v,o10.map .v]) ⟨o9,o10,rfl⟩ ?_ ?_
     ·rintro m y _ hy ⟨o9,o10,rfl⟩
      match m,hy with
      | 0,hy=>
       cases hy;refine⟨_,?_,some (.int t.1),some (.int t.2.1),rfl⟩;walk_at "q";have a1:=Y9 (p:=ws) (v:=t.1) (by walk_at "o") (by walk_at "o")
       have a2:=Y9 (p:=ws) (v:=t.2.1) (by walk_at "o") (by walk_at "o")
       cases q1:(ws).getD (t.1).toNat none with
       | none=>
        rw[B3 (s:=t.1) (e:=t.2.1) (.inl q1)];rw[q1] at a1
        repeat(first|walk_at "z r" | simp only[a1,wayD])
       | some w=>
        cases q2:(ws).getD (t.2.1).toNat none with
        | none=>
         rw[a0j q1 q2];rw[q1] at a1;rw[q2] at a2;have x1:ixN ((ws).map wayD).length (t.2.1)=some (t.2.1).toNat:=a2Y (by walk_at "o") (by rw[zD];walk_at "o")
         have s1:=a3S (ws) (t.2.1) w;have wa:=a3q (e:=t.2.1) (w:=w) (by have:=W.wy.bd q1;walk_at "o")
         have lw:=L6 ((ws).set (t.2.1).toNat (some (w++[t.2.1])))
         repeat(first|walk_at "z r" | simp only[a1,a2,wayD,tupI,x1,s1,lw,if_pos wa])
        | some v=>
         rw[B3 (s:=t.1) (e:=t.2.1) (.inr (by rw[q2];rfl))]
         rw[q1] at a1;rw[q2] at a2
         repeat(first|walk_at "z r" | simp only[a1,a2,wayD,tupI])
      | 1,hy=>
       cases hy;refine⟨_,?_,some (.int t.2.1),some (.int t.1),rfl⟩;walk_at "q";have a1:=Y9 (p:=stW ws t.1 t.2.1) (v:=t.2.1) (by walk_at "o") (by rw[a1g];walk_at "o")
       have a2:=Y9 (p:=stW ws t.1 t.2.1) (v:=t.1) (by walk_at "o") (by rw[a1g];walk_at "o")
       cases q1:(stW ws t.1 t.2.1).getD (t.2.1).toNat none with
       | none=>
        rw[B3 (s:=t.2.1) (e:=t.1) (.inl q1)];rw[q1] at a1
        repeat(first|walk_at "z r" | simp only[a1,wayD])
       | some w=>
        cases q2:(stW ws t.1 t.2.1).getD (t.1).toNat none with
        | none=>
         rw[a0j q1 q2];rw[q1] at a1;rw[q2] at a2;have x1:ixN ((stW ws t.1 t.2.1).map wayD).length (t.1)=some (t.1).toNat:=a2Y (by walk_at "o") (by rw[zD,a1g];walk_at "o")
         have s1:=a3S (stW ws t.1 t.2.1) (t.1) w;have wa:=a3q (e:=t.1) (w:=w) (by have:=W2.wy.bd q1;walk_at "o")
         have lw:=L6 ((stW ws t.1 t.2.1).set (t.1).toNat (some (w++[t.1])))
         repeat(first|walk_at "z r" | simp only[a1,a2,wayD,tupI,x1,s1,lw,if_pos wa])
        | some v=>
         rw[B3 (s:=t.2.1) (e:=t.1) (.inr (by rw[q2];rfl))]
         rw[q1] at a1;rw[q2] at a2
         repeat(first|walk_at "z r" | simp only[a1,a2,wayD,tupI])
      | m+2,hy=>simp at hy
     ·rintro _ rfl ⟨o9,o10,rfl⟩;exact⟨_,rfl,_,some (.int t.1),some (.int t.2.1),some (.int t.2.2),o9,o10,rfl,k⟩
   ·rintro _ rfl ⟨ws,o6,o7,o8,o9,o10,rfl,W,g⟩;rw[zD] at g;exact⟨_,rfl,ws,some x,o6,o7,o8,o9,o10,rfl,W,g.turn (zE _)⟩
  ·rintro _ rfl ⟨ws,o5,o6,o7,o8,o9,o10,rfl,W,g⟩;rw[show(rngD 0 n.toNat).length=n.toNat by rw[G3,zD,v4]] at g
   have lw:=L6 ws;refine⟨ws,hM,W,W.full hM g.fin,?_⟩
   repeat(first|walk_at "z r" | simp only[lw])
structure Rnd (n:Nat) (ts:List Tie) (R:List Int):Prop where
 len:R.length=3\/R.length=5\/R.length=7
 nd:R.Nodup
 rng:∀y∈R,0<=y/\y<n
 cy:∀p y z,R[p]? =some y->R[p+1]? =some z->Tied ts y z
 cl:∀y z,R[R.length-1]? =some y->R[0]? =some z->Tied ts y z
theorem Tied.symm {ts:List Tie}{y z:Int}(h:Tied ts y z):Tied ts z y:=by
 obtain⟨t,ht,q|q⟩:=h
 ·exact⟨t,ht,.inr q⟩
 ·exact⟨t,ht,.inl q⟩
theorem a5q {n:Nat}{ts:List Tie}{ms:List Int}{f:Nat->Option (List Int)}(h:Wy n ts ms f)(hn:n<=8){a b:Nat}{v w:List Int}(ha:f a=some v)(hb:f b=some w)(ab:a≠b)(tab:Tied ts a b)(par:v.length%2=w.length%2){k:Nat}(k1:1<=k)(kv:k<=v.length)(kw:k<=w.length)(tk:v.take k=w.take k)(st:k<v.length->k<w.length->v[k]? ≠w[k]?):Rnd n ts (v.drop (k-1)++(w.drop k).reverse):=by
 have va:v[v.length-1]? =some (a:Int):=by
  obtain⟨_,u,rfl⟩:=h.la a v ha;rw[zZ,jM,zT (by walk_at "o"),Nat.add_sub_cancel,jE];rfl
 have wb:w[w.length-1]? =some (b:Int):=by
  obtain⟨_,u,rfl⟩:=h.la b w hb;rw[zZ,jM,zT (by walk_at "o"),Nat.add_sub_cancel,jE];rfl
 have LA:(v.drop (k-1)).length=v.length-(k-1):=jG;have LB:(w.drop k).reverse.length=w.length-k:=by rw[List.length_reverse,jG]
 have ek:v[k-1]? =w[k-1]?:=by
  have e:=xG (fun l=>l[k-1]?) tk;simp only[List.getElem?_take] at e;rw[if_pos (by walk_at "o"),if_pos (by walk_at "o")] at e
  exact e
 have R1:∀p,p<v.length-(k-1)->(v.drop (k-1)++(w.drop k).reverse)[p]? =v[k-1+p]?:=fun p hp=>by
  rw[zQ (by walk_at "o"),getElem?_drop]
 have R2:∀q,q<w.length-k->(v.drop (k-1)++(w.drop k).reverse)[v.length-(k-1)+q]? =w[w.length-1-q]?:=fun q hq=>by
  rw[zT (by walk_at "o"),LA,Nat.add_sub_cancel_left,List.getElem?_reverse (by rw[jG];exact hq),getElem?_drop,jG]
  congr 1;walk_at "o"
 have ln:(v.drop (k-1)++(w.drop k).reverse).length=v.length-(k-1)+(w.length-k):=by rw[zZ,LA,LB]
 have nd:(v.drop (k-1)++(w.drop k).reverse).Nodup:=by
  refine nodup_append.mpr ⟨(h.nd ha).sublist (List.drop_sublist _ _),(List.reverse_perm _).nodup_iff.mpr ((h.nd hb).sublist (List.drop_sublist _ _)),fun y hy z hz e=>?_⟩;subst e;obtain⟨p,hp⟩:=mem_iff_getElem?.mp hy;obtain⟨q,hq⟩:=mem_iff_getElem?.mp (List.mem_reverse.mp hz);rw[getElem?_drop] at hp hq;have l1:k-1+p<v.length:=(zK.mp hp).1;have l2:k+q<w.length:=(zK.mp hq).1;have e1:=(h.tr a v ha _ y hp).2.2;rw[(h.tr b w hb _ y hq).2.2] at e1;have e1:=qC e1;have e2:=xG List.length e1;rw[jX,jX] at e2;have e3:=xG (fun l=>l[k]?) e1;simp only[List.getElem?_take] at e3;rw[if_pos (by walk_at "o"),if_pos (by walk_at "o")] at e3
  exact st (by walk_at "o") (by walk_at "o") e3.symm
 have rg:∀y∈(v.drop (k-1)++(w.drop k).reverse),0<=y/\y<n:=fun y hy=>by
  rcases xJ.mp hy with z|z
  ·obtain⟨p,hp⟩:=mem_iff_getElem?.mp (List.mem_of_mem_drop z)
   have:=h.tr a v ha p y hp
   walk_at "o"
  ·obtain⟨p,hp⟩:=mem_iff_getElem?.mp (List.mem_of_mem_drop (List.mem_reverse.mp z))
   have:=h.tr b w hb p y hp
   walk_at "o"
 refine⟨?_,nd,rg,fun p y z hy hz=>?_,fun y z hy hz=>?_⟩
 ·have l8:=K7 (m:=up n) nd fun y hy=>S5.mpr (rg y hy);rw[v4,ln] at l8;have ne:¬(v.length=k/\w.length=k):=fun⟨e1,e2⟩=>by
   rw[jQ (by walk_at "o"),jQ (by walk_at "o")] at tk
   rw[tk,wb] at va
   have:=qC va
   walk_at "o"
  rw[ln];walk_at "o"
 ·have lz:p+1<_:=(zK.mp hz).1;rw[ln] at lz
  by_cases c1:p+1<v.length-(k-1)
  ·rw[R1 p (by walk_at "o")] at hy
   rw[R1 _ c1] at hz;exact h.ti a v ha _ y z hy hz
  ·by_cases c2:p+1=v.length-(k-1)
   ·rw[R1 p (by walk_at "o"),show k-1+p=v.length-1 by walk_at "o",va] at hy
    rw[show p+1=v.length-(k-1)+0 by walk_at "o",R2 0 (by walk_at "o"),Nat.sub_zero,wb] at hz
    cases hy;cases hz;exact tab
   ·rw[show p=v.length-(k-1)+(p-(v.length-(k-1))) by walk_at "o",R2 _ (by walk_at "o")] at hy
    rw[show p+1=v.length-(k-1)+(p+1-(v.length-(k-1))) by walk_at "o",R2 _ (by walk_at "o")] at hz
    rw[show w.length-1-(p-(v.length-(k-1)))=w.length-1-(p+1-(v.length-(k-1)))+1 by walk_at "o"] at hy
    exact(h.ti b w hb _ z y hz hy).symm
 ·rw[R1 0 (by walk_at "o"),Nat.add_zero,ek] at hz
  by_cases c:w.length=k
  ·rw[ln,R1 _ (by walk_at "o"),show k-1+(v.length-(k-1)+(w.length-k)-1)=v.length-1 by walk_at "o",va] at hy
   rw[<-c,wb] at hz;cases hy;cases hz;exact tab
  ·rw[ln,show v.length-(k-1)+(w.length-k)-1=v.length-(k-1)+(w.length-k-1) by walk_at "o",R2 _ (by walk_at "o"),show w.length-1-(w.length-k-1)=k-1+1 by walk_at "o"] at hy
   exact(h.ti b w hb _ z y hz hy).symm
theorem a6g {xs:List D}(i:Nat):cutD xs (some (i:Int)) none=xs.drop i:=by
 unfold cutD;rw[HT.sIx_nat,HT.sIx_none]
 by_cases h:i<=xs.length
 ·rw[Nat.min_eq_left h];exact jQ (by rw[jG];walk_at "o")
 ·rw[Nat.min_eq_right (by walk_at "o"),jE,take_zero,List.drop_of_length_le (by walk_at "o")]
def muC:Ev->Nat
 | [_,_,some (.v (.int k))]=>100-k.toNat
 | _=>0
abbrev Y4:Stmt:=top 5
theorem a08:FnScope ["one","other","alike"] ["one","other"] (defScope Y4):=by walk_at "c"
def a19 (g:LO):Prop:=∀v w:List Int,1<=v.length->v.length<=8->1<=w.length->w.length<=8->v[0]? =w[0]? ->∃k,1<=k/\k<=v.length/\k<=w.length/\v.take k=w.take k/\(k<v.length->k<w.length->v[k]? ≠w[k]?)/\g [tupI v,tupI w]=some (.v (tupI (v.drop (k-1)++(w.drop k).reverse)))
theorem a4s (m_min:mg "min"=none)(m_len:mg "len"=none)(F:Fun K "closed" "closed" Y4 f fd)(B:Binds K fd ["one","other"] [])(hm:mg "closed"=some (.ref f)):∃g,Fn P w K mg base "closed" (k+1) g/\a19 g:=by
 have nd:=a08.nd
 refine⟨_,Q3 F a08 B hm rfl rfl (fun cdv A outer s H E hr=>(b5 (j0 2 nd b3)
  (b5 (a5U zU (R6 (T9 (a9y hr (a8 2) (qx_b (D2 rfl) Y0 m_min (a9 (qx_b j6 C6 m_len (a9 (a8 0) b0)) (a9 (qx_b j6 C6 m_len (a9 (a8 1) b0)) b0)))) (L0 (M1 hr (c7 hr (a8 0) (a8 2)) (c7 hr (a8 1) (a8 2)))))) (b8 (a92 2 nd b3)))
  (b8 (k5 (m4 (J2 (a8 0) (R0 (K6 (a8 2) b3)) R9) (a91 (J2 (a8 1) (R0 (a8 2)) R9)))))))),?_⟩
 intro v w v1 v8 w1 w8 h0;unfold tupI;walk_at "q";generalize ew:whileV _ _ _=r;refine a2u ew (fun ρ=>∃k:Nat,ρ=[some (.v (.tup (v.map .int))),some (.v (.tup (w.map .int))),some (.v (.int (k:Int)))]/\k<=v.length/\k<=w.length/\v.take k=w.take k) (fun ρ=>∃k:Nat,ρ=[some (.v (.tup (v.map .int))),some (.v (.tup (w.map .int))),some (.v (.int (k:Int)))]/\k<=v.length/\k<=w.length/\v.take k=w.take k/\(k<v.length->k<w.length->v[k]? ≠w[k]?)) muC ⟨0,rfl,by walk_at "o",by walk_at "o",rfl⟩ ?_ ?_
 ·rintro _ ⟨k,rfl,kv,kw,tk⟩;obtain⟨m,em,hm⟩:∃m:Int,(if(w.length:Int)<(v.length:Int) then(w.length:Int) else(v.length:Int))=m/\m=min (v.length:Int) (w.length:Int):=⟨_,rfl,by split<;>walk_at "o"⟩
  by_cases c:k<v.length/\k<w.length
  ·have a1:=t9 (ns:=v) (i:=(k:Int)) (by walk_at "o") (by walk_at "o")
   have a2:=t9 (ns:=w) (i:=(k:Int)) (by walk_at "o") (by walk_at "o")
   rw[zI] at a1 a2;have lt:decide ((k:Int)<m)=true:=qE (by walk_at "o")
   have g1:v[k]? =some (v.getD k 0):=by rw[zH,zM c.1];rfl
   have g2:w[k]? =some (w.getD k 0):=by rw[zH,zM c.2];rfl
   by_cases e:v.getD k 0=w.getD k 0
   ·refine .inr ⟨[some (.v (.tup (v.map .int))),some (.v (.tup (w.map .int))),some (.v (.int (k:Int)))],_,?_,?_,⟨k+1,rfl,by walk_at "o",by walk_at "o",?_⟩,?_⟩
    ·repeat(first|walk_at "z r" | simp only[zD,em,lt,a1,a2,e,decide_true])
    ·repeat(first|walk_at "z r" | simp only[r_au,r_au2,r_au3,r_au4])
     rfl
    ·rw[take_add_one,take_add_one,tk,g1,g2,e]
    ·unfold muC;dsimp only;walk_at "o"
   ·refine .inl ⟨_,?_,k,rfl,kv,kw,tk,fun _ _ z=>e ?_⟩
    ·have eb:(v.getD k 0==w.getD k 0)=false:=by simpa using e
     repeat(first|walk_at "z r" | simp only[zD,em,lt,a1,a2,eb])
    ·rw[g1,g2] at z;exact qC z
  ·have lt:decide ((k:Int)<m)=false:=qG (by walk_at "o")
   refine .inl ⟨_,?_,k,rfl,kv,kw,tk,fun a b=>absurd ⟨a,b⟩ c⟩
   repeat(first|walk_at "z r" | simp only[zD,em,lt])
 ·rintro _ rfl ⟨k,rfl,kv,kw,tk,st⟩;have k1:1<=k:=by
   rcases Nat.eq_zero_or_pos k with z|z
   ·subst z;exact absurd h0 (st (by walk_at "o") (by walk_at "o"))
   ·exact z
  refine⟨k,k1,kv,kw,tk,st,?_⟩;have ek:((k:Int)-1)=((k-1:Nat):Int):=by walk_at "o"
  have c1:=a6g (xs:=v.map D.int) (k-1);have c2:=a6g (xs:=w.map D.int) k;have c3:(v.map D.int).drop (k-1)≠[]/\((v.map D.int).drop (k-1)).length+((w.map D.int).drop k).reverse.length<=1000000:=by
   rw[List.length_reverse,jG,jG,zD,zD];refine⟨fun z=>?_,by walk_at "o"⟩
   have:=xG List.length z
   rw[jG,zD,yB] at this;walk_at "o"
  rw[jC,List.map_reverse,map_drop,map_drop]
  repeat(first|walk_at "z r" | simp only[ek,c1,c2,r_rv,r_rv1,r_rv2])
  obtain⟨c4,c5⟩:=c3
  repeat(first|walk_at "z r" | simp only[c4,c5,ne_eq,not_false_eq_true])
theorem a7N {C:Prop}{b:D->FS}{xs:List D}{ρ:Ev}{r:Option R}(e:loopF b xs ρ=r)(I:Nat->Ev->Prop)(Bw:W->Prop)(h0:I 0 ρ)(st:∀i x ρ,xs[i]? =some x->I i ρ->(∃ρ',b x ρ=some (.nx ρ')/\I (i+1) ρ')\/∃w ρ',b x ρ=some (.rt w ρ')/\Bw w)(c1:∀ρ',r=some (.nx ρ')->I xs.length ρ'->C)(c2:∀w ρ',r=some (.rt w ρ')->Bw w->C):C:=by
 have key:∀(ys:List D) (k:Nat) (ρ:Ev),xs.drop k=ys->I k ρ->(∃ρ',loopF b ys ρ=some (.nx ρ')/\I (k+ys.length) ρ')\/∃w ρ',loopF b ys ρ=some (.rt w ρ')/\Bw w:=by
  intro ys
  induction ys with
  | nil=>intro k ρ _ h;exact .inl ⟨ρ,rfl,h⟩
  | cons y ys ih=>
   intro k ρ hd h;have hy:xs[k]? =some y:=by
    have:=xG (fun l=>l[0]?) hd
    rw[getElem?_drop] at this;simpa using this
   have hd':xs.drop (k+1)=ys:=by rw[<-List.drop_drop,hd];rfl
   rcases st k y ρ hy h with ⟨ρ1,e1,i1⟩|⟨w,ρ1,e1,q⟩
   ·rcases ih (k+1) ρ1 hd' i1 with ⟨ρ2,e2,i2⟩|⟨w,ρ2,e2,q⟩
    ·refine .inl ⟨ρ2,by rw[loopF,e1];exact e2,?_⟩
     rw[qL,show k+(ys.length+1)=k+1+ys.length by walk_at "o"];exact i2
    ·exact .inr ⟨w,ρ2,by rw[loopF,e1];exact e2,q⟩
   ·exact .inr ⟨w,ρ1,by rw[loopF,e1];rfl,q⟩
 rcases key xs 0 ρ rfl h0 with ⟨ρ',e1,i⟩|⟨w,ρ',e1,q⟩
 ·exact c1 ρ' (by rw[<-e];exact e1) (by rw[Nat.zero_add] at i;exact i)
 ·exact c2 w ρ' (by rw[<-e];exact e1) q
def wv (ws:List (Option (List Int))) (x:Nat):List Int:=(ws.getD x none).getD []
def odW (ws:List (Option (List Int))) (x:Nat):Bool:=decide ((wv ws x).length%2=1)
theorem a5B {ws:List (Option (List Int))}{n:Nat}(hl:ws.length=n)(hf:∀x,x<n->(ws.getD x none).isSome=true){v:Int}(h:0<=v)(l:v<n):ws.getD v.toNat none=some (wv ws v.toNat)/\atI (ws.map wayD) v=some (.tup ((wv ws v.toNat).map .int)):=by
 have k:=hf v.toNat (by walk_at "o")
 have a:=Y9 (p:=ws) (v:=v) h (by walk_at "o")
 unfold wv;cases q:ws.getD v.toNat none with
 | none=>rw[q] at k;cases k
 | some w=>rw[q] at a;exact⟨rfl,a⟩
theorem a7G (a b:Nat):((a:Int)%2==(b:Int)%2)=(decide (a%2=1)==decide (b%2=1)):=by
 rcases qT a with h1|h1<;>rcases qT b with h2|h2<;>rw[h1,h2]
 ·rw[show(a:Int)%2=0 by walk_at "o",show(b:Int)%2=0 by walk_at "o"];rfl
 ·rw[show(a:Int)%2=0 by walk_at "o",show(b:Int)%2=1 by walk_at "o"];rfl
 ·rw[show(a:Int)%2=1 by walk_at "o",show(b:Int)%2=0 by walk_at "o"];rfl
 ·rw[show(a:Int)%2=1 by walk_at "o",show(b:Int)%2=1 by walk_at "o"];rfl
theorem a9Y {ws:List (Option (List Int))}{n:Nat}(hl:ws.length=n)(hf:∀x,x<n->(ws.getD x none).isSome=true):enumD (ws.map wayD)=(up n).map fun p=>D.tup [.int p,tupI (wv ws p.toNat)]:=by
 unfold enumD;refine xQ fun i=>?_;rw[List.getElem?_mapIdx,zW,zW]
 by_cases h:i<n
 ·have k:=(a5B hl hf (v:=(i:Int)) (by walk_at "o") (by walk_at "o")).1
  rw[zI] at k;unfold up;rw[zW,xO h,zM (by walk_at "o")]
  rw[zH,zM (by walk_at "o"),Option.getD_some] at k
  simp only[jJ,k,Int.zero_add,zI];rfl
 ·rw[qS (by walk_at "o"),qS (by rw[v4];walk_at "o")];rfl
def pE (ws:List (Option (List Int))):D->Bool
 | .tup [.int p,_]=>odW ws p.toNat
 | _=>false
def hE:D->D
 | .tup [x,_]=>x
 | _=>.non
theorem a17 (ws:List (Option (List Int)))(n:Nat):(((up n).map fun p=>D.tup [.int p,tupI (wv ws p.toNat)]).filter (pE ws)).map hE=((up n).filter fun x=>odW ws x.toNat).map .int:=by
 rw[filter_map,jB];rfl
theorem a9F (ws:List (Option (List Int)))(x:Nat):(((wv ws x).length:Int)%2==1)=odW ws x:=by
 unfold odW;rcases qT (wv ws x).length with h1|h1<;>rw[h1]
 ·rw[show((wv ws x).length:Int)%2=0 by walk_at "o"];rfl
 ·rw[show((wv ws x).length:Int)%2=1 by walk_at "o"];rfl
abbrev G0:Stmt:=top 3
theorem P7:FnScope ["web","ways","one","other","gain"] ["web"] (defScope G0):=by walk_at "c"
def V8 (g:LO):Prop:=∀(n:Int) (ts:List Tie),WebOk n ts->∃(ms:List Int) (ws:List (Option (List Int))),Mk n.toNat ts ms/\WsI n.toNat ts ms ws/\(∀x,x<n.toNat->(ws.getD x none).isSome=true)/\((∃R t,Rnd n.toNat ts R/\t∈ts/\odW ws t.1.toNat=odW ws t.2.1.toNat/\g [webD n ts]=some (.v (.tup [.str "round",tupI R])))\/((∀t∈ts,odW ws t.1.toNat≠odW ws t.2.1.toNat)/\g [webD n ts]=some (.v (.tup [.str "sides",tupI ((up n.toNat).filter fun x=>odW ws x.toNat)]))))
theorem a1O {U0:LO}{X3:LO}(T1:Fn P w K mg base "ways_of" k U0)(S4:a0X U0)(Z0:Fn P w K mg base "closed" k X3)(a0l:a19 X3)(j1:mg "tuple"=none)(m_len:mg "len"=none)(F8:mg "enumerate"=none)(F:Fun K "two_sides" "two_sides" G0 f fd)(B:Binds K fd ["web"] [])(hm:mg "two_sides"=some (.ref f)):∃g,Fn P w K mg base "two_sides" (k+1) g/\V8 g:=by
 have nd:=P7.nd
 refine⟨_,Q3 F P7 B hm rfl rfl (fun cdv A outer s H E hr=>(b5 (j0 1 nd (C0 T1 hr (a9 (a8 0) b0)))
  (b5 (p8 zU rfl (A4 (c7 hr (a8 0) b3)) (C7 rfl (g6 (b9 2 nd) (g6 (b9 3 nd) (g6 (b9 4 nd) z5)))) (b8 (A8 (M1 hr (C1 (qx_b j6 C6 m_len (a9 (c7 hr (a8 1) (a8 2)) b0)) b3) (C1 (qx_b j6 C6 m_len (a9 (c7 hr (a8 1) (a8 3)) b0)) b3)) (b8 (k5 (m8 (a9 a1e (a9 (C0 Z0 hr (a9 (c7 hr (a8 1) (a8 2)) (a9 (c7 hr (a8 1) (a8 3)) b0))) b0))))) p9)))
  (b8 (k5 (m8 (a9 a1e (a9 (qx_t k7 z7 j1 (a9 (q5 (N:=["person","way"]) (js:=[none,none]) (li:=none) rfl (v3 (by exact(.own (.own .nil))) rfl (by exact trivial) (by rfl)) (B0 (a70 F8 (a9 (a8 1) b0))) (fun _ _ _ _=>(C7 rfl (g6 (b9 0 (show((["person","way"]:List Str)++[accN]).Nodup by decide +kernel)) (g6 (b9 1 (show((["person","way"]:List Str)++[accN]).Nodup by decide +kernel)) z5)))) (fun _ _ _ _=>(R8 rfl (M1 hr (C1 (qx_b j6 C6 m_len (a9 (a8 1) b0)) b3) b3))) (fun _ _ _ _=>(a8 0))) b0)) b0)))))))),?_⟩
 intro n ts hw;have hn:=hw.n1;obtain⟨ms,ws,hM,W,hf,ew⟩:=S4 n ts hw;have wl:=W.len;refine⟨ms,ws,hM,W,hf,?_⟩;have lw:=L6 ws;unfold webD at ew ⊢
 repeat(first|walk_at "z r" | simp only[ew,lw])
 generalize el:loopF _ _ _=r;refine a7N el (fun i ρ=>∃o2 o3 o4:Option D,ρ=[some (.v (.tup [.int n,.tup (ts.map tieD)])),some (.o (.lst (ws.map wayD))),o2.map .v,o3.map .v,o4.map .v]/\∀t∈ts.take i,odW ws t.1.toNat≠odW ws t.2.1.toNat) (fun w=>∃R t,Rnd n.toNat ts R/\t∈ts/\odW ws t.1.toNat=odW ws t.2.1.toNat/\w= .v (.tup [.str "round",tupI R])) ⟨none,none,none,rfl,fun t ht=>by cases ht⟩ ?_ ?_ ?_
 ·rintro i x _ hx ⟨o2,o3,o4,rfl,hp⟩;rw[zW] at hx;cases hi:ts[i]? with
  | none=>rw[hi] at hx;cases hx
  | some t=>
   rw[hi] at hx;cases hx;have mt:=qR hi;have ht:=hw.t t mt;obtain⟨a1,a2⟩:=a5B wl hf (v:=t.1) ht.1 (by walk_at "o")
   obtain⟨b1,b2⟩:=a5B wl hf (v:=t.2.1) (by walk_at "o") (by walk_at "o")
   have z2:(0:Int)<2:=by decide
   have pb:=a7G (wv ws t.1.toNat).length (wv ws t.2.1.toNat).length;have bv:=W.wy.bd a1;have bw:=W.wy.bd b1;rw[show tieD t= .tup [.int t.1,.int t.2.1,.int t.2.2] from rfl];cases e:odW ws t.1.toNat==odW ws t.2.1.toNat with
   | true=>
    have e':=e;unfold odW at e';rw[e'] at pb;obtain⟨k,k1,kv,kw,tk,st,ec⟩:=a0l _ _ bv.1 (by walk_at "o") bw.1 (by walk_at "o") (by rw[W.wy.hd _ _ a1,W.wy.hd _ _ b1,hM.tie t mt])
    refine .inr ⟨_,[some (.v (.tup [.int n,.tup (ts.map tieD)])),some (.o (.lst (ws.map wayD))),some (.v (.int t.1)),some (.v (.int t.2.1)),some (.v (.int t.2.2))],?_,_,t,a5q W.wy (by walk_at "o") a1 b1 (by walk_at "o") ⟨t,mt,.inl ⟨by walk_at "o",by walk_at "o"⟩⟩ ?_ k1 kv kw tk st,mt,by simpa using e,rfl⟩
    ·have lr:=g9 ((wv ws t.1.toNat).drop (k-1)++((wv ws t.2.1.toNat).drop k).reverse);unfold tupI at ec ⊢
     repeat(first|walk_at "z r" | simp only[a2,b2,zD,pb,ec,z2,lr])
    ·have h2:=e';rcases qT (wv ws t.1.toNat).length with q1|q1<;>rcases qT (wv ws t.2.1.toNat).length with q2|q2<;>rw[q1,q2] at h2 ⊢<;>simp at h2
   | false=>
    have e':=e;unfold odW at e';rw[e'] at pb;refine .inl ⟨_,?_,some (.int t.1),some (.int t.2.1),some (.int t.2.2),rfl,fun u hu=>?_⟩
    ·repeat(first|walk_at "z r" | simp only[a2,b2,zD,pb,z2])
    ·rw[take_add_one,hi] at hu;rcases xJ.mp hu with z|z
     ·exact hp u z
     ·rw[qA.mp z];simpa using e
 ·rintro _ rfl ⟨o2,o3,o4,rfl,hp⟩;rw[zD,take_length] at hp;refine .inr ⟨hp,?_⟩
  repeat(first|walk_at "z r" | simp only[lw])
  have z2:(0:Int)<2:=by decide
  have ei:=a9Y wl hf;rw[k8 (ρ1:=[some (.v (.tup [.int n,.tup (ts.map tieD)])),some (.v (.lst (ws.map wayD))),o2.map .v,o3.map .v,o4.map .v]) (xs:=(up n.toNat).map fun p=>D.tup [.int p,tupI (wv ws p.toNat)]) (fun B=>∃o0 o1:Option D,B=[o0.map .v,o1.map .v]) (pE ws) hE]
  ·rw[a17];have lu:=g9 ((up n.toNat).filter fun x=>odW ws x.toNat);unfold tupI
   repeat(first|walk_at "z r" | simp only[lu])
  ·rw[<-ei]
   repeat(first|walk_at "z r" | simp only[lw])
  ·rintro _ ⟨o0,o1,rfl⟩;rfl
  ·exact⟨none,none,rfl⟩
  ·rw[zD,v4];unfold lim;walk_at "o"
  ·rw[a17];exact g9 _
  ·intro x hx B zs ⟨o0,o1,hB⟩;subst hB;obtain⟨p,hp,rfl⟩:=zY.mp hx;have ob:=a9F ws p.toNat;refine⟨[some (.v (.int p)),some (.v (tupI (wv ws p.toNat)))],.v (.int p),⟨some (.int p),some (tupI (wv ws p.toNat)),rfl⟩,?_,?_,fun _=>⟨?_,.inl rfl⟩⟩
   ·unfold acc tupI;walk_at "q"
   ·show _=some (odW ws p.toNat,_);unfold acc tupI;repeat(first|walk_at "z r" | simp only[zD,z2,ob])
   ·unfold acc tupI;walk_at "q"
 ·rintro w _ rfl ⟨R,t,hR,ht,e,rfl⟩;refine .inl ⟨R,t,hR,ht,e,?_⟩;walk_at "q"
theorem in_m {neg:Bool}{m:List (Int×Int)}{x:Int}:oInG neg (.int x) (.dK (mK m) (mV m))=some (nb neg (lookM m x).isSome):=by
 unfold oInG;rw[if_pos (show isDi (.dK (mK m) (mV m))=true from rfl),show lookG (.dK (mK m) (mV m)) (.int x)=some (look (mK m) (mV m) (.inl x)) from rfl,a1B];cases lookM m x<;>rfl
theorem ix_m {m:List (Int×Int)}{x v:Int}(h:lookM m x=some v):oIxG (.dK (mK m) (mV m)) (.int x)=some (.v (.int v)):=a9w rfl (by rw[a1B,h];rfl)
def hasM (m:List (Int×Int)) (x:Nat):Bool:=(lookM m (x:Int)).isSome
structure StI (n:Nat) (ts:List Tie) (ms:List Int) (bd:Nat) (m:List (Int×Int)):Prop where
 nd:(m.map (·.1)).Nodup
 rg:∀x v,lookM m x=some v->0<=x/\x<n/\ms.getD x.toNat 0<bd
 rt:∀r,r<n->ms.getD r 0=r->r<bd->hasM m r=true
 zr:∀r v,lookM m ((r:Nat):Int)=some v->ms.getD r 0=r->v=0
 co:∀x v,lookM m x=some v->∀c,Col n ts ms c->c x.toNat=decide (v%2=1)
theorem StI.len {n bd:Nat}{ts:List Tie}{ms:List Int}{m:List (Int×Int)}(h:StI n ts ms bd m):m.length<=n:=by
 have:=K7 (m:=up n) h.nd fun x hx=>by
  obtain⟨v,e⟩:=Z1 hx
  have:=h.rg x v e
  exact S5.mpr ⟨this.1,this.2.1⟩
 rw[v4,zD] at this;exact this
theorem StI.room {n bd:Nat}{ts:List Tie}{ms:List Int}{m:List (Int×Int)}(h:StI n ts ms bd m)(h8:n<=8):(mK m).length<1000000:=by
 have:=h.len
 unfold mK;rw[zD];walk_at "o"
theorem E5 {m:List (Int×Int)}{e v:Int}(he:0<=e)(x:Nat):hasM (putM m e v) x=if x=e.toNat then true else hasM m x:=by
 unfold hasM;rw[u4]
 by_cases h:x=e.toNat
 ·rw[if_pos h,if_pos (by walk_at "o")];rfl
 ·rw[if_neg h,if_neg (by walk_at "o")]
theorem StI.start {n:Nat}{ts:List Tie}{ms:List Int}:StI n ts ms 0 []:=⟨by exact List.Pairwise.nil,(fun _ _ h=>by cases h),(fun _ _ _ h=>by walk_at "o"),(fun _ _ h=>by cases h),fun _ _ h=>by cases h⟩
theorem StI.root {n i:Nat}{ts:List Tie}{ms:List Int}{m:List (Int×Int)}(h:StI n ts ms i m)(hi:i<n)(hm:ms.getD i 0=i):StI n ts ms (i+1) (putM m i 0):=by
 refine⟨M8 h.nd,fun x v e=>?_,fun r hr e hb=>?_,fun r v e hr=>?_,fun x v e c hc=>?_⟩
 ·rw[u4] at e;split at e
  ·rename_i q;subst q;rw[zI];walk_at "o"
  ·have:=h.rg x v e;walk_at "o"
 ·rw[E5 (by walk_at "o")]
  split
  ·rfl
  ·rename_i q;rw[zI] at q;exact h.rt r hr e (by walk_at "o")
 ·rw[u4] at e;split at e
  ·cases e;rfl
  ·exact h.zr r v e hr
 ·rw[u4] at e;split at e
  ·rename_i q;cases e;rw[<-q,zI];exact hc.2 i hi hm
  ·exact h.co x v e c hc
theorem StI.put {n i:Nat}{ts:List Tie}{ms:List Int}{m:List (Int×Int)}(h:StI n ts ms i m)(hM:Mk n ts ms){s e v:Int}(he:0<=e/\e<n)(h1:lookM m s=some v)(h2:lookM m e=none)(ht:Tied ts s e):StI n ts ms i (putM m e (v+1))/\cardF n (hasM (putM m e (v+1)))=cardF n (hasM m)+1:=by
 have rs:=h.rg s v h1;have hme:ms.getD e.toNat 0=ms.getD s.toNat 0:=by
  obtain⟨t,ht,⟨rfl,rfl⟩|⟨rfl,rfl⟩⟩:=ht
  ·exact(hM.tie t ht).symm
  ·exact hM.tie t ht
 have ee:((e.toNat:Nat):Int)=e:=by walk_at "o"
 have h0:hasM m e.toNat=false:=by unfold hasM;rw[ee,h2];rfl
 have nr:ms.getD e.toNat 0≠e.toNat:=fun z=>by
  have:=h.rt e.toNat (by walk_at "o") z (by walk_at "o")
  rw[h0] at this;cases this
 refine⟨⟨M8 h.nd,fun x w q=>?_,fun r hr q hb=>?_,fun r w q hr=>?_,fun x w q c hc=>?_⟩,?_⟩
 ·rw[u4] at q;split at q
  ·rename_i z;subst z;walk_at "o"
  ·exact h.rg x w q
 ·rw[E5 he.1]
  split
  ·rfl
  ·exact h.rt r hr q hb
 ·rw[u4] at q;split at q
  ·rename_i z;exact absurd (by rw[z,zI];exact hr) nr
  ·exact h.zr r w q hr
 ·rw[u4] at q;split at q
  ·rename_i z;cases q;rw[<-z,hc.tied ht,h.co s v h1 c hc];rcases Int.emod_two_eq v with q|q
   ·rw[q,show(v+1)%2=1 by walk_at "o"];rfl
   ·rw[q,show(v+1)%2=0 by walk_at "o"];rfl
  ·exact h.co x w q c hc
 ·exact a05 (e:=e.toNat) h0 (by rw[E5 he.1,if_pos rfl]) (fun x hx=>by rw[E5 he.1,if_neg hx]) n (by walk_at "o")
def stM (m:List (Int×Int)) (a b:Int):List (Int×Int):=match lookM m a,lookM m b with
 | some v,none=>putM m b (v+1)
 | none,some v=>putM m a (v+1)
 | _,_=>m
theorem StI.two {n j i k:Nat}{ts:List Tie}{ms:List Int}{m:List (Int×Int)}{t:Tie}(h:StI n ts ms k m)(hM:Mk n ts ms)(hi:ts[i]? =some t)(ha:0<=t.1/\t.1<n)(hb:0<=t.2.1/\t.2.1<n)(g:Gr n ts j i (hasM m)):StI n ts ms k (stM m t.1 t.2.1)/\Gr n ts j (i+1) (hasM (stM m t.1 t.2.1))/\∀x,hasM m x=true->hasM (stM m t.1 t.2.1) x=true:=by
 have ht:=qR hi;have e1:((t.1.toNat:Nat):Int)=t.1:=by walk_at "o"
 have e2:((t.2.1.toNat:Nat):Int)=t.2.1:=by walk_at "o"
 have mo:∀(e v:Int),0<=e->∀x,hasM m x=true->hasM (putM m e v) x=true:=fun e v he x hx=>by
  rw[E5 he]
  split
  ·rfl
  ·exact hx
 unfold stM;cases q1:lookM m t.1 with
 | none=>
  cases q2:lookM m t.2.1 with
  | none=>exact⟨h,g.same hi (by unfold hasM;rw[e1,e2,q1,q2]),fun _ z=>z⟩
  | some v=>
   have k:=h.put hM ha q2 q1 ⟨t,ht,.inr ⟨rfl,rfl⟩⟩;exact⟨k.1,g.more hi (by unfold hasM;rw[e1,e2,q1,q2];simp) k.2,mo _ _ ha.1⟩
 | some v=>
  cases q2:lookM m t.2.1 with
  | none=>
   have k:=h.put hM hb q1 q2 ⟨t,ht,.inl ⟨rfl,rfl⟩⟩;exact⟨k.1,g.more hi (by unfold hasM;rw[e1,e2,q1,q2];simp) k.2,mo _ _ hb.1⟩
  | some w=>exact⟨h,g.same hi (by unfold hasM;rw[e1,e2,q1,q2];rfl),fun _ z=>z⟩
abbrev E3:Stmt:=top 15
theorem M2:FnScope ["web","steps","person","turn","a","b","gain"] ["web"] (defScope E3):=by walk_at "c"
def Q8 (g:LO):Prop:=∀(n:Int) (ts:List Tie) (ms:List Int),WebOk n ts->Mk n.toNat ts ms->∃m:List (Int×Int),StI n.toNat ts ms n.toNat m/\(∀x,x<n.toNat->hasM m x=true)/\g [webD n ts]=some (.o (.dK (mK m) (mV m)))
theorem a0s (c8:mg "range"=none)(F:Fun K "_law_steps" "_law_steps" E3 f fd)(B:Binds K fd ["web"] [])(hm:mg "_law_steps"=some (.ref f)):∃g,Fn P w K mg base "_law_steps" (k+1) g/\Q8 g:=by
 have nd:=M2.nd
 refine⟨_,Q3 F M2 B hm rfl rfl (fun cdv A outer s H E hr=>(b5 (j0 1 nd a76)
  (b5 (p8 zU rfl (B8 c8 (a9 (c7 hr (a8 0) b3) b0)) (b9 2 nd) (b8 (A8 (D1 hr (a8 2) (a8 1)) (b5 (X8 hr (a8 1) (a8 2) b3)
  (b8 (p8 zU rfl (B8 c8 (a9 (c7 hr (a8 0) b3) b0)) (b9 3 nd) (b8 (p8 zU rfl (A4 (c7 hr (a8 0) b3)) (C7 rfl (g6 (b9 4 nd) (g6 (b9 5 nd) (g6 (b9 6 nd) z5)))) (b8 (A8 (R6 (T9 (a5e hr (a8 4) (a8 1)) (L0 (D1 hr (a8 5) (a8 1))))) (b8 (X8 hr (a8 1) (a8 5) (m4 (c7 hr (a8 1) (a8 4)) b3))) (b8 (A8 (R6 (T9 (a5e hr (a8 5) (a8 1)) (L0 (D1 hr (a8 4) (a8 1))))) (b8 (X8 hr (a8 1) (a8 4) (m4 (c7 hr (a8 1) (a8 5)) b3))) p9))))))))) p9)))
  (b8 (k5 (a8 1)))))),?_⟩
 intro n ts ms hw hM;have hn:=hw.n1;have r1:(0<=n/\n<=1000):=by walk_at "o"
 have r2:(-(2^62:Int)<=n/\n<2^62):=by walk_at "o"
 unfold webD
 repeat(first|walk_at "z r" | simp only[r1,r2])
 generalize el:loopF _ _ _=r;refine n6 el (fun i ρ=>∃(m:List (Int×Int)) (o2 o3 o4 o5 o6:Option D),ρ=[some (.v (.tup [.int n,.tup (ts.map tieD)])),some (.o (.dK (mK m) (mV m))),o2.map .v,o3.map .v,o4.map .v,o5.map .v,o6.map .v]/\StI n.toNat ts ms i m/\∀x,x<n.toNat->ms.getD x 0<i->hasM m x=true) ⟨[],none,none,none,none,none,rfl,StI.start,fun x hx h=>by have:=hM.le x hx;walk_at "o"⟩ ?_ ?_
 ·rintro i x _ hx ⟨m,o2,o3,o4,o5,o6,rfl,hS,hA⟩;obtain⟨rfl,hi⟩:=N4 hx;rw[Int.zero_add];have li:=hM.le i hi;have im:=in_m (neg:=true) (m:=m) (x:=(i:Int));cases q:hasM m i with
  | true=>
   have q':=q;unfold hasM at q';rw[q'] at im;obtain⟨v,ev⟩:=jP.mp q';have rg:=hS.rg _ v ev;rw[zI] at rg;refine⟨_,?_,m,some (.int (i:Int)),o3,o4,o5,o6,rfl,⟨hS.nd,fun x v e=>by have:=hS.rg x v e;walk_at "o",fun r hr e hb=>?_,hS.zr,hS.co⟩,fun x hx hb=>?_⟩
   ·repeat(first|walk_at "z r" | simp only[im])
   ·exact hS.rt r hr e (by
     rcases Nat.lt_or_ge r i with z|z
     ·exact z
     ·have:r=i:=by walk_at "o"
      subst this;walk_at "o")
   ·refine hA x hx ?_;have lx:=hM.le x hx;rcases Int.lt_or_le (ms.getD x 0) i with z|z
    ·exact z
    ·have e:ms.getD x 0=(i:Int):=by walk_at "o"
     have:=hM.idem x hx
     rw[e,zI] at this;walk_at "o"
  | false=>
   have q':=q;unfold hasM at q';rw[q'] at im;have mi:ms.getD i 0=(i:Int):=by
    rcases Int.lt_or_le (ms.getD i 0) i with z|z
    ·have:=hA i hi z
     rw[q] at this;cases this
    ·walk_at "o"
   have rm:(mK m).length<1000000:=hS.room (by walk_at "o")
   have pm:=a2J (m:=m) (k:=(i:Int)) (v:=0) hS.nd;have lf0:∀m:List (Int×Int),lfL (mV m)=true:=fun m=>m7 fun x hx=>by
    unfold mV at hx;obtain⟨p,_,rfl⟩:=zY.mp hx;rfl
   repeat(first|walk_at "z r" | simp only[im,r_ek,a5T,a5s,a6K,a6s,a5I,rm,pm.1,pm.2,lf0,r1,r2])
   have S0:=hS.root hi mi;have A0:∀x,x<n.toNat->ms.getD x 0<i->hasM (putM m i 0) x=true:=fun x hx hb=>by
    rw[E5 (by walk_at "o")]
    split
    ·rfl
    ·exact hA x hx hb
   have I0:hasM (putM m i 0) i=true:=by rw[E5 (by walk_at "o"),zI,if_pos rfl]
   have c0:1<=cardF n.toNat (hasM (putM m i 0)):=a2h hi I0;generalize putM m i 0=m0 at S0 A0 I0 c0;generalize el2:loopF _ _ _=r;refine n6 el2 (fun j ρ=>∃(m:List (Int×Int)) (o3 o4 o5 o6:Option D),ρ=[some (.v (.tup [.int n,.tup (ts.map tieD)])),some (.o (.dK (mK m) (mV m))),some (.v (.int (i:Int))),o3.map .v,o4.map .v,o5.map .v,o6.map .v]/\StI n.toNat ts ms (i+1) m/\Gr n.toNat ts j 0 (hasM m)/\(∀x,x<n.toNat->ms.getD x 0<i->hasM m x=true)/\hasM m i=true) ⟨m0,o3,o4,o5,o6,rfl,S0,Gr.start c0,A0,I0⟩ ?_ ?_
   ·rintro j y _ hy ⟨m1,o3,o4,o5,o6,rfl,S1,G1,A1,I1⟩;walk_at "q";generalize el3:loopF _ _ _=r;refine n6 el3 (fun l ρ=>∃(m:List (Int×Int)) (o4 o5 o6:Option D),ρ=[some (.v (.tup [.int n,.tup (ts.map tieD)])),some (.o (.dK (mK m) (mV m))),some (.v (.int (i:Int))),some (.v y),o4.map .v,o5.map .v,o6.map .v]/\StI n.toNat ts ms (i+1) m/\Gr n.toNat ts j l (hasM m)/\(∀x,x<n.toNat->ms.getD x 0<i->hasM m x=true)/\hasM m i=true) ⟨m1,o4,o5,o6,rfl,S1,G1,A1,I1⟩ ?_ ?_
    ·rintro l z _ hz ⟨m,o4,o5,o6,rfl,hS,G,A,I⟩;rw[zW] at hz;cases hl:ts[l]? with
     | none=>rw[hl] at hz;cases hz
     | some t=>
      rw[hl] at hz;cases hz;have ht:=hw.t t (qR hl);obtain⟨k1,k2,k3⟩:=hS.two hM hl ⟨ht.1,by walk_at "o"⟩ ⟨by walk_at "o",by walk_at "o"⟩ G
      have rm:(mK m).length<1000000:=hS.room (by walk_at "o")
      refine⟨_,?_,stM m t.1 t.2.1,some (.int t.1),some (.int t.2.1),some (.int t.2.2),rfl,k1,k2,fun x hx hb=>k3 x (A x hx hb),k3 i I⟩;rw[show tieD t= .tup [.int t.1,.int t.2.1,.int t.2.2] from rfl];have ia:∀neg,oInG neg (.int t.1) (.dK (mK m) (mV m))=_:=fun neg=>in_m;have ib:∀neg,oInG neg (.int t.2.1) (.dK (mK m) (mV m))=_:=fun neg=>in_m;unfold stM;cases q1:lookM m t.1 with
      | none=>
       cases q2:lookM m t.2.1 with
       | none=>
        rw[q1] at ia;rw[q2] at ib
        repeat(first|walk_at "z r" | simp only[ia,ib,isSome_none])
       | some v=>
        rw[q1] at ia;rw[q2] at ib;have xa:=ix_m q2;have pm:=a2J (m:=m) (k:=t.1) (v:=v+1) hS.nd
        repeat(first|walk_at "z r" | simp only[ia,ib,isSome_none,xa,r_ek,a5T,a5s,a6K,a6s,a5I,rm,pm.1,pm.2,lf0])
      | some v=>
       cases q2:lookM m t.2.1 with
       | none=>
        rw[q1] at ia;rw[q2] at ib;have xa:=ix_m q1;have pm:=a2J (m:=m) (k:=t.2.1) (v:=v+1) hS.nd
        repeat(first|walk_at "z r" | simp only[ia,ib,isSome_none,xa,r_ek,a5T,a5s,a6K,a6s,a5I,rm,pm.1,pm.2,lf0])
       | some w=>
        rw[q1] at ia;rw[q2] at ib
        repeat(first|walk_at "z r" | simp only[ia,ib,isSome_none])
    ·rintro _ rfl ⟨m,o4,o5,o6,rfl,hS,G,A,I⟩;rw[zD] at G;exact⟨_,rfl,m,some y,o4,o5,o6,rfl,hS,G.turn (zE _),A,I⟩
   ·rintro _ rfl ⟨m,o3,o4,o5,o6,rfl,hS,G,A,I⟩;rw[show(rngD 0 n.toNat).length=n.toNat by rw[G3,zD,v4]] at G
    have cl:=G.fin;refine⟨_,rfl,m,some (.int (i:Int)),o3,o4,o5,o6,rfl,hS,fun x hx hb=>?_⟩;rcases Int.lt_or_le (ms.getD x 0) i with z|z
    ·exact A x hx z
    ·have e:ms.getD x 0=ms.getD i 0:=by walk_at "o"
     exact(hM.con (fun y=>hasM m y=true) (fun t ht=>by show hasM m t.1.toNat=true↔_;rw[cl t ht]) x i hx hi e).mpr I
 ·rintro _ rfl ⟨m,o2,o3,o4,o5,o6,rfl,hS,hA⟩;rw[show(rngD 0 n.toNat).length=n.toNat by rw[G3,zD,v4]] at hS hA
  refine⟨m,hS,fun x hx=>hA x hx (by have:=hM.le x hx;walk_at "o"),?_⟩
  walk_at "q"
theorem a6u {a b c:D}:cutD [a,b,c] none (some 2)=[a,b]:=rfl
theorem a7i {R:List Int}(nd:R.Nodup)(h:∀y∈R,0<=y/\y<8):(lm (mAll (R.map Int.toNat))).length=R.length:=by
 have n1:(R.map Int.toNat).Nodup:=by
  refine xS.mpr (xT ?_ nd);intro a b ha hb hab e
  have:=h a ha
  have:=h b hb
  exact hab (by walk_at "o")
 have n2:(lm (mAll (R.map Int.toNat))).Nodup:=by unfold lm;exact List.Nodup.sublist List.filter_sublist nodup_range
 have a1:=K7 n1 (m:=lm (mAll (R.map Int.toNat))) fun x hx=>by
  refine M7.mpr ⟨?_,by rw[P2,xH];exact hx⟩
  obtain⟨y,hy,rfl⟩:=zY.mp hx
  have:=h y hy
  walk_at "o"
 have a2:=K7 n2 (m:=R.map Int.toNat) fun x hx=>by
  have:=(M7.mp hx).2
  rw[P2,xH] at this;exact this
 rw[zD] at a1 a2;walk_at "o"
theorem ls_of {R:List Int}(nd:R.Nodup)(h:∀y∈R,0<=y/\y<8):gLS (.tup (R.map .int))=some (.v (.int (R.length:Int))):=by
 unfold gLS;dsimp only;rw[D8,bind_some,if_pos h,a7i nd h]
theorem a3F {xs:List D}:oIsi "tuple" (.tup xs)=some (.v (.bl true)):=rfl
theorem a8z {y:Int}:oIsi "int" (.int y)=some (.v (.bl true)):=rfl
theorem a8u {y:Int}:oIsi "bool" (.int y)=some (.v (.bl false)):=rfl
def twoH:D->D
 | .tup [a,b,_]=>.tup [a,b]
 | _=>.non
theorem X0 (ts:List Tie):((ts.map tieD).filter fun _=>true).map twoH=(ts.map fun t=>[t.1,t.2.1]).map tupI:=by
 rw[S8,jB,jB];rfl
theorem a7l {n:Int}{ts:List Tie}(hw:WebOk n ts){y z:Int}(h:Tied ts y z):∃a b,(if z<y then z else y)=a/\(if z>y then z else y)=b/\[a,b]∈ts.map fun t=>[t.1,t.2.1]:=by
 obtain⟨t,ht,⟨rfl,rfl⟩|⟨rfl,rfl⟩⟩:=h
 ·have:=hw.t t ht
  exact⟨t.1,t.2.1,if_neg (by walk_at "o"),if_pos (by walk_at "o"),zY.mpr ⟨t,ht,rfl⟩⟩
 ·have:=hw.t t ht
  exact⟨t.1,t.2.1,if_pos (by walk_at "o"),if_neg (by walk_at "o"),zY.mpr ⟨t,ht,rfl⟩⟩
theorem Rnd.at {n:Nat}{ts:List Tie}{R:List Int}(h:Rnd n ts R){w:Int}(h0:0<=w)(h1:w<R.length):∃y z,atI (R.map D.int) (w-1)=some (.int y)/\atI (R.map D.int) w=some (.int z)/\Tied ts y z:=by
 have g:∀p,p<R.length->R[p]? =some (R.getD p 0):=fun p hp=>by rw[zH,zM hp];rfl
 have a2:=t9 (ns:=R) (i:=w) h0 h1
 by_cases c:w=0
 ·subst c;refine⟨R.getD (R.length-1) 0,R.getD 0 0,?_,a2,h.cl _ _ (g _ (by walk_at "o")) (g 0 (by walk_at "o"))⟩
  unfold atI ixN;rw[if_neg (by walk_at "o"),zD,if_pos (by walk_at "o"),bind_some,zW,show((0-1:Int)+(R.length:Int)).toNat=R.length-1 by walk_at "o",g _ (by walk_at "o")]
  rfl
 ·exact⟨R.getD (w-1).toNat 0,R.getD w.toNat 0,t9 (by walk_at "o") (by walk_at "o"),a2,h.cy (w-1).toNat _ _ (g _ (by walk_at "o")) (by rw[show(w-1).toNat+1=w.toNat by walk_at "o"];exact g _ (by walk_at "o"))⟩
abbrev z9:Stmt:=top 16
theorem D3:FnScope ["web","thing","ties"] ["web","thing"] (defScope z9):=by walk_at "c"
def F7 (g:LO):Prop:=∀(n:Int) (ts:List Tie) (R:List Int),WebOk n ts->Rnd n.toNat ts R->g [webD n ts,tupI R]=some (.v (.bl true))
theorem T6 (m_all:mg "all"=none)(j4:mg "isinstance"=none)(j1:mg "tuple"=none)(m_len:mg "len"=none)(m_set:mg "set"=none)(c8:mg "range"=none)(m_int:mg "int"=none)(m_min:mg "min"=none)(m_max:mg "max"=none)(S7:mg "bool"=none)(F:Fun K "_law_is_round" "_law_is_round" z9 f fd)(B:Binds K fd ["web","thing"] [])(hm:mg "_law_is_round"=some (.ref f)):∃g,Fn P w K mg base "_law_is_round" (k+1) g/\F7 g:=by
 have nd:=D3.nd
 refine⟨_,Q3 F D3 B hm rfl rfl (fun cdv A outer s H E hr=>(b5 (A8 (R6 (a18 (U1 (U9 (N9 (T:="tuple") (M6 (by decide)) j4 j1 (a8 1)))) (a18 (D1 hr (qx_b j6 C6 m_len (a9 (a8 1) b0)) (m8 (a9 b3 (a9 b3 (a9 b3 b0))))) (a2v (a0T hr (a4y rfl m_len m_set (a9 (a8 1) b0)) (qx_b j6 C6 m_len (a9 (a8 1) b0))))))) (b8 (k5 Z2)) p9)
  (b5 (A8 (U1 (U9 (qx_b (L3 rfl) Q5 m_all (a9 (q5 (N:=["one"]) (js:=[none]) (li:=none) rfl (v3 (by exact(.own .nil)) rfl (by exact trivial) (by rfl)) (P0 1) (fun _ _ _ _=>(b9 0 (show((["one"]:List Str)++[accN]).Nodup by decide +kernel))) (fun _ _ _ _=>z0) (fun _ _ _ _=>(a2H (N9 (T:="int") (M6 (by decide)) j4 m_int (a8 0)) (a2C (a8a (N9 (T:="bool") (M6 (by decide)) j4 S7 (a8 0))))))) b0)))) (b8 (k5 Z2)) p9)
  (b5 (j0 2 nd (q5 (N:=["tie"]) (js:=[none]) (li:=none) rfl (v3 (by exact(.own .nil)) rfl (by exact trivial) (by rfl)) (B0 (A4 (c7 hr (a8 0) b3))) (fun _ _ _ _=>(b9 0 (show((["tie"]:List Str)++[accN]).Nodup by decide +kernel))) (fun _ _ _ _=>z0) (fun _ _ _ _=>(J2 (a8 0) R9 (R0 b3)))))
  (b8 (k5 (qx_b (L3 rfl) Q5 m_all (a9 (q5 (N:=["k","ties","thing"]) (js:=[none,some 2,some 1]) (li:=none) rfl (v3 (by exact(.own (.cap rfl rfl rfl rfl (.cap rfl rfl rfl rfl .nil)))) rfl (by exact⟨rfl,⟨rfl,trivial⟩⟩) (by rfl)) (B0 (B8 c8 (a9 (qx_b j6 C6 m_len (a9 (a8 1) b0)) b0))) (fun _ _ _ _=>(b9 0 (show((["k","ties","thing"]:List Str)++[accN]).Nodup by decide +kernel))) (fun _ _ _ _=>z0) (fun _ _ _ _=>(a9n hr (m8 (a9 (qx_b (D2 rfl) Y0 m_min (a9 (c7 hr (a8 2) (K6 (a8 0) b3)) (a9 (c7 hr (a8 2) (a8 0)) b0))) (a9 (qx_b (L1 rfl) a1A m_max (a9 (c7 hr (a8 2) (K6 (a8 0) b3)) (a9 (c7 hr (a8 2) (a8 0)) b0))) b0))) (a8 1)))) b0)))))))),?_⟩
 intro n ts R hw hR;have hn:=hw.n1;have hl:=hR.len;have i3:oInG true (.int (R.length:Int)) (.tup [.int 3,.int 5,.int 7])=some (.v (.bl false)):=by
  rw[a7E (ns:=[3,5,7]) rfl]
  have:decide ((R.length:Int)∈([3,5,7]:List Int))=true:=qE (by simp only[zO,jS];walk_at "o")
  rw[this];rfl
 have ls:=ls_of hR.nd fun y hy=>by have:=hR.rng y hy;walk_at "o"
 unfold webD tupI;have b1:boolsOf (((R.map D.int).filter fun _=>true).map fun _=>D.bl true)=some (((R.map D.int).filter fun _=>true).map fun _=>true):=J3 (fun _=>true) _;have a1:((((R.map D.int).filter fun _=>true).map fun _=>true).all id)=true:=by rw[jY];intro x hx;obtain⟨_,_,rfl⟩:=zY.mp hx;rfl
 have l1:lfL (((R.map D.int).filter fun _=>true).map fun _=>D.bl true)=true:=m7 fun x hx=>by obtain⟨_,_,rfl⟩:=zY.mp hx;rfl
 have l2:lfL ((ts.map fun t=>[t.1,t.2.1]).map tupI)=true:=m7 fun x hx=>by
  obtain⟨o,_,rfl⟩:=zY.mp hx;exact g9 o
 repeat(first|walk_at "z r" | simp only[zD,i3,ls,a3F,bne_self_eq_false])
 rw[k8 (ρ1:=[some (.v (.tup [.int n,.tup (ts.map tieD)])),some (.v (.tup (R.map .int))),none]) (xs:=R.map .int) (fun B=>∃o0:Option D,B=[o0.map .v]) (fun _=>true) (fun _=>.bl true)]
 ·have g1:=a2I (r:=fun bs=>bs.all id) b1;rw[a1] at g1
  repeat(first|walk_at "z r" | simp only[l1,g1])
  rw[k8 (ρ1:=[some (.v (.tup [.int n,.tup (ts.map tieD)])),some (.v (.tup (R.map .int))),none]) (xs:=ts.map tieD) (fun B=>∃o0:Option D,B=[o0.map .v]) (fun _=>true) twoH]
  ·rw[X0];have r1:(0<=(R.length:Int)/\(R.length:Int)<=1000):=by walk_at "o"
   have rl:(rngD 0 R.length).length=R.length:=by rw[G3,zD,v4]
   have b2:boolsOf (((rngD 0 R.length).filter fun _=>true).map fun _=>D.bl true)=some (((rngD 0 R.length).filter fun _=>true).map fun _=>true):=J3 (fun _=>true) _;have a2:((((rngD 0 R.length).filter fun _=>true).map fun _=>true).all id)=true:=by rw[jY];intro x hx;obtain⟨_,_,rfl⟩:=zY.mp hx;rfl
   have l3:lfL (((rngD 0 R.length).filter fun _=>true).map fun _=>D.bl true)=true:=m7 fun x hx=>by obtain⟨_,_,rfl⟩:=zY.mp hx;rfl
   have g2:=a2I (r:=fun bs=>bs.all id) b2;rw[a2] at g2
   repeat(first|walk_at "z r" | simp only[l2,r1])
   rw[k8 (ρ1:=[some (.v (.tup [.int n,.tup (ts.map tieD)])),some (.v (.tup (R.map .int))),some (.o (.lst ((ts.map fun t=>[t.1,t.2.1]).map tupI)))]) (xs:=rngD 0 R.length) (fun B=>∃o0:Option D,B=[o0.map .v,some (.v (.lst ((ts.map fun t=>[t.1,t.2.1]).map tupI))),some (.v (.tup (R.map .int)))]) (fun _=>true) (fun _=>.bl true)]
   ·repeat(first|walk_at "z r" | simp only[l3,g2])
   ·have r2:(-(2^62:Int)<=(R.length:Int)/\(R.length:Int)<2^62):=by walk_at "o"
    repeat(first|walk_at "z r" | simp only[zD,r1,r2,zI])
   ·rintro _ ⟨o0,rfl⟩;rfl
   ·exact⟨none,rfl⟩
   ·rw[rl];unfold lim;walk_at "o"
   ·exact l3
   ·intro x hx B zs ⟨o0,hB⟩;subst hB;obtain⟨w,rfl,hw0,hw1⟩:=K9 hx;obtain⟨y,z,ey,ez,ht⟩:=hR.at hw0 (by walk_at "o")
    obtain⟨a,b,ea,eb,hab⟩:=a7l hw ht;have gi:oInG false (.tup [.int a,.int b]) (.lst ((ts.map fun t=>[t.1,t.2.1]).map tupI))=some (.v (.bl true)):=by
     rw[a35 (ns:=[a,b]) rfl (F2 _)];rw[qE hab];rfl
    refine⟨[some (.v (.int w)),some (.v (.lst ((ts.map fun t=>[t.1,t.2.1]).map tupI))),some (.v (.tup (R.map .int)))],.v (.bl true),⟨some (.int w),rfl⟩,?_,rfl,fun _=>⟨?_,.inl rfl⟩⟩
    ·unfold acc;walk_at "q"
    ·unfold acc;repeat(first|walk_at "z r" | simp only[ey,ez,ea,eb,gi])
  ·walk_at "q"
  ·rintro _ ⟨o0,rfl⟩;rfl
  ·exact⟨none,rfl⟩
  ·rw[zD];have:=hw.len;unfold lim;walk_at "o"
  ·rw[X0];exact l2
  ·intro x hx B zs ⟨o0,hB⟩;subst hB;obtain⟨t,ht,rfl⟩:=zY.mp hx;refine⟨[some (.v (tieD t))],.v (.tup [.int t.1,.int t.2.1]),⟨some (tieD t),rfl⟩,?_,?_,fun _=>⟨?_,.inl rfl⟩⟩
   ·unfold acc;walk_at "q"
   ·rfl
   ·unfold acc tieD;repeat(first|walk_at "z r" | simp only[a6u])
 ·walk_at "q"
 ·rintro _ ⟨o0,rfl⟩;rfl
 ·exact⟨none,rfl⟩
 ·rw[zD];unfold lim;walk_at "o"
 ·exact l1
 ·intro x hx B zs ⟨o0,hB⟩;subst hB;obtain⟨y,hy,rfl⟩:=zY.mp hx;refine⟨[some (.v (.int y))],.v (.bl true),⟨some (.int y),rfl⟩,?_,?_,fun _=>⟨?_,.inl rfl⟩⟩
  ·unfold acc;walk_at "q"
  ·rfl
  ·unfold acc;repeat(first|walk_at "z r" | simp only[a8z,a8u])
def od2 (m:List (Int×Int)) (x:Nat):Bool:=decide (((lookM m (x:Int)).getD 0)%2=1)
theorem a5P {n:Nat}{ts:List Tie}{ms:List Int}{f:Nat->Option (List Int)}(h:Wy n ts ms f){r:Nat}{w:List Int}(hr:ms.getD r 0=r)(e:f r=some w):w.length=1:=by
 have k:=h.hd r w e;rw[hr] at k;have t:=(h.tr r w e 0 _ k).2.2;rw[zI,e] at t;have t:=xG List.length (qC t);rw[jX] at t
 have:=(h.bd e).1
 walk_at "o"
theorem a8o {ws:List (Option (List Int))}{n:Nat}(hf:∀x,x<n->(ws.getD x none).isSome=true){x:Nat}(h:x<n):ws.getD x none=some (wv ws x):=by
 have k:=hf x h;unfold wv;cases q:ws.getD x none with
 | none=>rw[q] at k;cases k
 | some w=>rfl
theorem col_w {n:Nat}{ts:List Tie}{ms:List Int}{ws:List (Option (List Int))}(hM:Mk n ts ms)(W:WsI n ts ms ws)(hf:∀x,x<n->(ws.getD x none).isSome=true){c:Nat->Bool}(hc:Col n ts ms c){x:Nat}(hx:x<n):c x= !odW ws x:=by
 rw[W.wy.col hM hc (a8o hf hx)];unfold odW;rcases qT (wv ws x).length with q|q<;>rw[q]<;>rfl
theorem col_m {n bd:Nat}{ts:List Tie}{ms:List Int}{m:List (Int×Int)}(h:StI n ts ms bd m)(hA:∀x,x<n->hasM m x=true){c:Nat->Bool}(hc:Col n ts ms c){x:Nat}(hx:x<n):c x=od2 m x:=by
 have k:=hA x hx;unfold hasM at k;obtain⟨v,e⟩:=jP.mp k
 have:=h.co _ v e c hc
 rw[zI] at this;rw[this];unfold od2;rw[e];rfl
def prop (ts:List Tie) (c:Nat->Bool):Prop:=∀t∈ts,c t.1.toNat≠c t.2.1.toNat
theorem a4i {n:Int}{ts:List Tie}{ms:List Int}{ws:List (Option (List Int))}{m:List (Int×Int)}(hw:WebOk n ts)(hM:Mk n.toNat ts ms)(W:WsI n.toNat ts ms ws)(hf:∀x,x<n.toNat->(ws.getD x none).isSome=true)(h:StI n.toNat ts ms n.toNat m)(hA:∀x,x<n.toNat->hasM m x=true):(prop ts (odW ws)\/prop ts (od2 m))->(∀x,x<n.toNat->od2 m x= !odW ws x)/\prop ts (odW ws)/\prop ts (od2 m):=by
 intro hp;have tr:∀t∈ts,t.1.toNat<n.toNat/\t.2.1.toNat<n.toNat:=fun t ht=>by have:=hw.t t ht;walk_at "o"
 have key:∀x,x<n.toNat->od2 m x= !odW ws x:=by
  rcases hp with hp|hp
  ·have hc:Col n.toNat ts ms fun x=>!odW ws x:=⟨fun t ht=>by
    have:=hp t ht
    cases q1:odW ws t.1.toNat<;>cases q2:odW ws t.2.1.toNat<;>simp_all,fun r hr hm=>by
    have:=a5P W.wy hm (a8o hf hr)
    show(!odW ws r)=false;unfold odW
    rw[this];rfl⟩
   intro x hx;exact(col_m h hA hc hx).symm
  ·have hc:Col n.toNat ts ms (od2 m):=⟨hp,fun r hr hm=>by
    have k:=hA r hr;unfold hasM at k;obtain⟨v,e⟩:=jP.mp k;have z:=h.zr r v e hm;unfold od2
    rw[e,z];rfl⟩
   intro x hx;exact col_w hM W hf hc hx
 refine⟨key,fun t ht=>?_,fun t ht=>?_⟩
 ·have b:=tr t ht;have k1:=key _ b.1;have k2:=key _ b.2;rcases hp with hp|hp
  ·exact hp t ht
  ·have:=hp t ht
   rw[k1,k2] at this;intro e;exact this (by rw[e])
 ·have b:=tr t ht;have k1:=key _ b.1;have k2:=key _ b.2;rcases hp with hp|hp
  ·have:=hp t ht
   rw[k1,k2];intro e;refine this ?_;cases q1:odW ws t.1.toNat<;>cases q2:odW ws t.2.1.toNat<;>simp_all
  ·exact hp t ht
theorem R5 {n:Nat}{m:List (Int×Int)}(hA:∀x,x<n->hasM m x=true){x:Int}(h0:0<=x)(h1:x<n):∃v,lookM m x=some v/\od2 m x.toNat=decide (v%2=1):=by
 have k:=hA x.toNat (by walk_at "o")
 unfold hasM at k;rw[show((x.toNat:Nat):Int)=x by walk_at "o"] at k
 obtain⟨v,e⟩:=jP.mp k;refine⟨v,e,?_⟩;unfold od2;rw[show((x.toNat:Nat):Int)=x by walk_at "o",e];rfl
theorem a27 (v w:Int):((v-w)%2==0)=(decide (v%2=1)==decide (w%2=1)):=by
 rcases Int.emod_two_eq v with h1|h1<;>rcases Int.emod_two_eq w with h2|h2<;>rw[h1,h2]
 ·rw[show(v-w)%2=0 by walk_at "o"];rfl
 ·rw[show(v-w)%2=1 by walk_at "o"];rfl
 ·rw[show(v-w)%2=1 by walk_at "o"];rfl
 ·rw[show(v-w)%2=0 by walk_at "o"];rfl
theorem a9W (v:Int):(v%2==0)= !decide (v%2=1):=by
 rcases Int.emod_two_eq v with h1|h1<;>rw[h1]<;>rfl
def badT (m:List (Int×Int)):D->Bool
 | .tup [.int a,.int b,_]=>od2 m a.toNat==od2 m b.toNat
 | _=>false
def evM (m:List (Int×Int)):D->Bool
 | .int x=>!od2 m x.toNat
 | _=>false
theorem a9J (m:List (Int×Int))(n:Nat):((rngD 0 n).filter (evM m)).map id=((up n).filter fun x=>!od2 m x.toNat).map .int:=by
 rw[map_id,G3,filter_map];rfl
theorem a98 {m:Nat}{xs:List D}:deqL (deq m) xs []=some xs.isEmpty:=by cases xs<;>rfl
abbrev F1:Stmt:=top 17
theorem M0:FnScope ["web","told","steps","due"] ["web"] (defScope F1):=by walk_at "c"
def O6 (g:LO):Prop:=∀(n:Int) (ts:List Tie),WebOk n ts->g [webD n ts]=some (.v (.bl true))
theorem a0r {J0:LO}{D6:LO}{A3:LO}(B4:Fn P w K mg base "two_sides" k J0)(G6:V8 J0)(E6:Fn P w K mg base "_law_steps" k D6)(E7:Q8 D6)(z8:Fn P w K mg base "_law_is_round" k A3)(A2:F7 A3)(j1:mg "tuple"=none)(j4:mg "isinstance"=none)(m_len:mg "len"=none)(m_all:mg "all"=none)(c8:mg "range"=none)(S7:mg "bool"=none)(m_int:mg "int"=none)(F:Fun K "_law_right" "_law_right" F1 f fd)(B:Binds K fd ["web"] [])(hm:mg "_law_right"=some (.ref f)):∃g,Fn P w K mg base "_law_right" (k+1) g/\O6 g:=by
 have nd:=M0.nd
 refine⟨_,Q3 F M0 B hm rfl rfl (fun cdv A outer s H E hr=>(b5 (j0 1 nd (C0 B4 hr (a9 (a8 0) b0)))
  (b5 (j0 2 nd (C0 E6 hr (a9 (a8 0) b0)))
  (b5 (A8 (R6 (a18 (U1 (U9 (N9 (T:="tuple") (M6 (by decide)) j4 j1 (a8 1)))) (a18 (a0T hr (qx_b j6 C6 m_len (a9 (a8 1) b0)) b3) (a2v (a0T hr (C0 B4 hr (a9 (a8 0) b0)) (a8 1)))))) (b8 (k5 Z2)) p9)
  (b5 (A8 (a0T hr (q5 (N:=["tie","steps"]) (js:=[none,some 2]) (li:=none) rfl (v3 (by exact(.own (.cap rfl rfl rfl rfl .nil))) rfl (by exact⟨rfl,trivial⟩) (by rfl)) (B0 (A4 (c7 hr (a8 0) b3))) (fun _ _ _ _=>(b9 0 (show((["tie","steps"]:List Str)++[accN]).Nodup by decide +kernel))) (fun _ _ _ _=>(R8 rfl (M1 hr (C1 (K6 (c7 hr (a8 1) (c7 hr (a8 0) b3)) (c7 hr (a8 1) (c7 hr (a8 0) b3))) b3) b3))) (fun _ _ _ _=>(a8 0))) (v7 b0)) (b8 (k5 (a2H (a9d hr (c7 hr (a8 1) b3) a1e) (a2C (C0 z8 hr (a9 (a8 0) (a9 (c7 hr (a8 1) b3) b0))))))) p9)
  (b5 (j0 3 nd (qx_t k7 z7 j1 (a9 (q5 (N:=["person","steps"]) (js:=[none,some 2]) (li:=none) rfl (v3 (by exact(.own (.cap rfl rfl rfl rfl .nil))) rfl (by exact⟨rfl,trivial⟩) (by rfl)) (B0 (B8 c8 (a9 (c7 hr (a8 0) b3) b0))) (fun _ _ _ _=>(b9 0 (show((["person","steps"]:List Str)++[accN]).Nodup by decide +kernel))) (fun _ _ _ _=>(R8 rfl (M1 hr (C1 (c7 hr (a8 1) (a8 0)) b3) b3))) (fun _ _ _ _=>(a8 0))) b0)))
  (b5 (A8 (R6 (a18 (U1 (U9 (N9 (T:="tuple") (M6 (by decide)) j4 j1 (c7 hr (a8 1) b3)))) (a2v (U1 (U9 (qx_b (L3 rfl) Q5 m_all (a9 (q5 (N:=["one"]) (js:=[none]) (li:=none) rfl (v3 (by exact(.own .nil)) rfl (by exact trivial) (by rfl)) (B0 (A4 (c7 hr (a8 1) b3))) (fun _ _ _ _=>(b9 0 (show((["one"]:List Str)++[accN]).Nodup by decide +kernel))) (fun _ _ _ _=>z0) (fun _ _ _ _=>(N9 (T:="int") (M6 (by decide)) j4 m_int (a8 0)))) b0))))))) (b8 (k5 Z2)) p9)
  (b8 (k5 (a2H (a9d hr (a8 1) (m8 (a9 a1e (a9 (a8 3) b0)))) (a2C (a4O Z2 (q5 (N:=["one"]) (js:=[none]) (li:=none) rfl (v3 (by exact(.own .nil)) rfl (by exact trivial) (by rfl)) (B0 (A4 (c7 hr (a8 1) b3))) (fun _ _ _ _=>(b9 0 (show((["one"]:List Str)++[accN]).Nodup by decide +kernel))) (fun _ _ _ _=>z0) (fun _ _ _ _=>(N9 (T:="bool") (M6 (by decide)) j4 S7 (a8 0)))))))))))))))),?_⟩
 intro n ts hw;have hn:=hw.n1;have tl:=hw.len;obtain⟨ms,ws,hM,W,hf,h2⟩:=G6 n ts hw;obtain⟨m,hS,hA,es⟩:=E7 n ts ms hw hM;have bw:=a4i hw hM W hf hS hA;have lf0:lfL (mV m)=true:=m7 fun x hx=>by
  unfold mV at hx;obtain⟨p,_,rfl⟩:=zY.mp hx;rfl
 have z2:(0:Int)<2:=by decide
 have cc:(((2:Nat):Int)==2)=true:=rfl;have lb:lfL (((ts.map tieD).filter (badT m)).map id)=true:=m7 fun x hx=>by
  rw[map_id] at hx;obtain⟨t,_,rfl⟩:=zY.mp (mem_filter.mp hx).1;rfl
 have r1:(0<=n/\n<=1000):=by walk_at "o"
 have r2:(-(2^62:Int)<=n/\n<2^62):=by walk_at "o"
 rcases h2 with ⟨R,t,hR,ht,et,e2⟩|⟨hp,e2⟩
 ·have er:=A2 n ts R hw hR;have ne:(((ts.map tieD).filter (badT m)).map id).isEmpty=false:=by
   rw[map_id]
   by_cases q:prop ts (od2 m)
   ·exact absurd et ((bw (.inr q)).2.1 t ht)
   ·have:∃u∈ts,od2 m u.1.toNat=od2 m u.2.1.toNat:=by
     false_or_by_contra
     rename_i q2;exact q fun u hu e=>q2 ⟨u,hu,e⟩
    obtain⟨u,hu,eu⟩:=this;cases q3:(ts.map tieD).filter (badT m) with
    | cons _ _=>rfl
    | nil=>
     have:=List.filter_eq_nil_iff.mp q3 (tieD u) (List.mem_map_of_mem hu)
     exact absurd (show badT m (tieD u)=true by show(od2 m u.1.toNat==od2 m u.2.1.toNat)=true;rw[eu];exact beq_self_eq_true _) this
  have lr:=g9 R;have dr:deqL (deq 19) (R.map D.int) (R.map D.int)=some true:=by rw[A7,qE rfl]
  have dr2:deqL (deq 18) (R.map D.int) (R.map D.int)=some true:=by rw[A7,qE rfl]
  unfold webD tupI at *
  repeat(first|walk_at "z r" | simp only[e2,es,lf0,lr,a3F,dr,dr2,cc])
  rw[k8 (ρ1:=[some (.v (.tup [.int n,.tup (ts.map tieD)])),some (.v (.tup [.str "round",.tup (R.map .int)])),some (.o (.dK (mK m) (mV m))),none]) (xs:=ts.map tieD) (fun B=>∃o0:Option D,B=[o0.map .v,some (.v (.dK (mK m) (mV m)))]) (badT m) id]
  ·repeat(first|walk_at "z r" | simp only[lb,a98,ne,er])
   done
  ·walk_at "q"
  ·rintro _ ⟨o0,rfl⟩;rfl
  ·exact⟨none,rfl⟩
  ·rw[zD];unfold lim;walk_at "o"
  ·exact lb
  ·intro x hx B zs ⟨o0,hB⟩;subst hB;obtain⟨u,hu,rfl⟩:=zY.mp hx;have hu':=hw.t u hu;obtain⟨v1,e3,e4⟩:=R5 hA (x:=u.1) hu'.1 (by walk_at "o")
   obtain⟨v2,e5,e6⟩:=R5 hA (x:=u.2.1) (by walk_at "o") (by walk_at "o")
   have x1:=ix_m e3;have x2:=ix_m e5;have db:=a27 v1 v2;rw[<-e4,<-e6] at db;refine⟨[some (.v (tieD u)),some (.v (.dK (mK m) (mV m)))],.v (tieD u),⟨some (tieD u),rfl⟩,?_,?_,fun _=>⟨?_,.inl rfl⟩⟩
   ·unfold acc;walk_at "q"
   ·show _=some ((od2 m u.1.toNat==od2 m u.2.1.toNat),_);unfold acc tieD;repeat(first|walk_at "z r" | simp only[x1,x2,z2,db])
   ·unfold acc tieD;walk_at "q"
 ·obtain⟨k1,k2,k3⟩:=bw (.inl hp);have em:((ts.map tieD).filter (badT m)).map id=[]:=by
   rw[map_id,List.filter_eq_nil_iff];intro x hx;obtain⟨u,hu,rfl⟩:=zY.mp hx;show ¬(od2 m u.1.toNat==od2 m u.2.1.toNat)=true
   have:=k3 u hu
   simpa using this
  have sd:((up n.toNat).filter fun x=>!od2 m x.toNat)=(up n.toNat).filter fun x=>odW ws x.toNat:=List.filter_congr fun x hx=>by
   have:=S5.mp hx
   rw[k1 _ (by walk_at "o"),Bool.not_not]
  generalize hs:((up n.toNat).filter fun x=>odW ws x.toNat)=S at *;have lr:=g9 S;have dr:deqL (deq 19) (S.map D.int) (S.map D.int)=some true:=by rw[A7,qE rfl]
  have dr2:deqL (deq 18) (S.map D.int) (S.map D.int)=some true:=by rw[A7,qE rfl]
  unfold webD tupI at *
  repeat(first|walk_at "z r" | simp only[e2,es,lf0,lr,a3F,dr,dr2,cc])
  rw[k8 (ρ1:=[some (.v (.tup [.int n,.tup (ts.map tieD)])),some (.v (.tup [.str "sides",.tup (S.map .int)])),some (.o (.dK (mK m) (mV m))),none]) (xs:=ts.map tieD) (fun B=>∃o0:Option D,B=[o0.map .v,some (.v (.dK (mK m) (mV m)))]) (badT m) id]
  ·rw[em];have vm:((rngD 0 n.toNat).filter (evM m)).map id=S.map .int:=by rw[a9J,sd]
   have b1:boolsOf (((S.map D.int).filter fun _=>true).map fun _=>D.bl true)=some (((S.map D.int).filter fun _=>true).map fun _=>true):=J3 (fun _=>true) _;have a1:((((S.map D.int).filter fun _=>true).map fun _=>true).all id)=true:=by rw[jY];intro x hx;obtain⟨_,_,rfl⟩:=zY.mp hx;rfl
   have g1:=a2I (r:=fun bs=>bs.all id) b1;rw[a1] at g1;have l1:lfL (((S.map D.int).filter fun _=>true).map fun _=>D.bl true)=true:=m7 fun x hx=>by obtain⟨_,_,rfl⟩:=zY.mp hx;rfl
   have l3:lfL (((S.map D.int).filter fun _=>true).map fun _=>D.bl false)=true:=m7 fun x hx=>by obtain⟨_,_,rfl⟩:=zY.mp hx;rfl
   have sl:S.length<=8:=by
    rw[<-hs]
    have:=length_filter_le (fun x:Int=>odW ws x.toNat) (up n.toNat)
    rw[v4] at this;walk_at "o"
   have nb1:oInB true (.bl true) (.lst (((S.map D.int).filter fun _=>true).map fun _=>D.bl false))=some (.v (.bl true)):=by
    rw[show(((S.map D.int).filter fun _=>true).map fun _=>D.bl false)=(((S.map D.int).filter fun _=>true).map fun _=>false).map D.bl by rw[jB];rfl,a7W]
    have:decide (true∈(((S.map D.int).filter fun _=>true).map fun _=>false))=false:=qG fun h=>by obtain⟨_,_,e⟩:=zY.mp h;cases e
    rw[this];rfl
   repeat(first|walk_at "z r" | simp only[r1,r2])
   rw[k8 (ρ1:=[some (.v (.tup [.int n,.tup (ts.map tieD)])),some (.v (.tup [.str "sides",.tup (S.map .int)])),some (.o (.dK (mK m) (mV m))),none]) (xs:=rngD 0 n.toNat) (fun B=>∃o0:Option D,B=[o0.map .v,some (.v (.dK (mK m) (mV m)))]) (evM m) id]
   ·rw[vm]
    repeat(first|walk_at "z r" | simp only[lr,a3F])
    rw[k8 (ρ1:=[some (.v (.tup [.int n,.tup (ts.map tieD)])),some (.v (.tup [.str "sides",.tup (S.map .int)])),some (.o (.dK (mK m) (mV m))),some (.v (.tup (S.map .int)))]) (xs:=S.map .int) (fun B=>∃o0:Option D,B=[o0.map .v]) (fun _=>true) (fun _=>.bl true)]
    ·repeat(first|walk_at "z r" | simp only[l1,g1,dr,dr2])
     rw[k8 (ρ1:=[some (.v (.tup [.int n,.tup (ts.map tieD)])),some (.v (.tup [.str "sides",.tup (S.map .int)])),some (.o (.dK (mK m) (mV m))),some (.v (.tup (S.map .int)))]) (xs:=S.map .int) (fun B=>∃o0:Option D,B=[o0.map .v]) (fun _=>true) (fun _=>.bl false)]
     ·repeat(first|walk_at "z r" | simp only[l3,nb1])
     ·walk_at "q"
     ·rintro _ ⟨o0,rfl⟩;rfl
     ·exact⟨none,rfl⟩
     ·rw[zD];unfold lim;walk_at "o"
     ·exact l3
     ·intro x hx B zs ⟨o0,hB⟩;subst hB;obtain⟨y,hy,rfl⟩:=zY.mp hx;refine⟨[some (.v (.int y))],.v (.bl false),⟨some (.int y),rfl⟩,?_,rfl,fun _=>⟨?_,.inl rfl⟩⟩
      ·unfold acc;walk_at "q"
      ·unfold acc;repeat(first|walk_at "z r" | simp only[a8u])
    ·walk_at "q"
    ·rintro _ ⟨o0,rfl⟩;rfl
    ·exact⟨none,rfl⟩
    ·rw[zD];unfold lim;walk_at "o"
    ·exact l1
    ·intro x hx B zs ⟨o0,hB⟩;subst hB;obtain⟨y,hy,rfl⟩:=zY.mp hx;refine⟨[some (.v (.int y))],.v (.bl true),⟨some (.int y),rfl⟩,?_,rfl,fun _=>⟨?_,.inl rfl⟩⟩
     ·unfold acc;walk_at "q"
     ·unfold acc;repeat(first|walk_at "z r" | simp only[a8z])
   ·repeat(first|walk_at "z r" | simp only[r1,r2])
   ·rintro _ ⟨o0,rfl⟩;rfl
   ·exact⟨none,rfl⟩
   ·rw[E4];unfold lim;walk_at "o"
   ·rw[vm];exact lr
   ·intro x hx B zs ⟨o0,hB⟩;subst hB;obtain⟨y,rfl,hy0,hy1⟩:=K9 hx;obtain⟨v1,e3,e4⟩:=R5 hA (x:=y) hy0 (by walk_at "o")
    have x1:=ix_m e3;have db:=a9W v1;rw[<-e4] at db;refine⟨[some (.v (.int y)),some (.v (.dK (mK m) (mV m)))],.v (.int y),⟨some (.int y),rfl⟩,?_,?_,fun _=>⟨?_,.inl rfl⟩⟩
    ·unfold acc;walk_at "q"
    ·show _=some (!od2 m y.toNat,_);unfold acc;repeat(first|walk_at "z r" | simp only[x1,z2,db])
    ·unfold acc;walk_at "q"
  ·walk_at "q"
  ·rintro _ ⟨o0,rfl⟩;rfl
  ·exact⟨none,rfl⟩
  ·rw[zD];unfold lim;walk_at "o"
  ·exact lb
  ·intro x hx B zs ⟨o0,hB⟩;subst hB;obtain⟨u,hu,rfl⟩:=zY.mp hx;have hu':=hw.t u hu;obtain⟨v1,e3,e4⟩:=R5 hA (x:=u.1) hu'.1 (by walk_at "o")
   obtain⟨v2,e5,e6⟩:=R5 hA (x:=u.2.1) (by walk_at "o") (by walk_at "o")
   have x1:=ix_m e3;have x2:=ix_m e5;have db:=a27 v1 v2;rw[<-e4,<-e6] at db;refine⟨[some (.v (tieD u)),some (.v (.dK (mK m) (mV m)))],.v (tieD u),⟨some (tieD u),rfl⟩,?_,?_,fun _=>⟨?_,.inl rfl⟩⟩
   ·unfold acc;walk_at "q"
   ·show _=some ((od2 m u.1.toNat==od2 m u.2.1.toNat),_);unfold acc tieD;repeat(first|walk_at "z r" | simp only[x1,x2,z2,db])
   ·unfold acc tieD;walk_at "q"
theorem a4n (ks:List Tie):∃T:List Tie,T.Perm ks/\(sortK (ks.map fun t=>[t.1,t.2.1,t.2.2])).map tupI=T.map tieD:=by
 have p:=X5 (ks.map fun t=>[t.1,t.2.1,t.2.2]);refine⟨(sortK (ks.map fun t=>[t.1,t.2.1,t.2.2])).map fun k=>(k.getD 0 0,k.getD 1 0,k.getD 2 0),?_,?_⟩
 ·have:=p.map fun k:List Int=>((k.getD 0 0,k.getD 1 0,k.getD 2 0):Tie)
  rw[jB] at this;refine this.trans ?_;rw[show((fun k:List Int=>((k.getD 0 0,k.getD 1 0,k.getD 2 0):Tie))∘fun t:Tie=>[t.1,t.2.1,t.2.2])=id from rfl,map_id]
 ·rw[jB];refine yN fun k hk=>?_;obtain⟨t,_,rfl⟩:=zY.mp (p.mem_iff.mp hk);rfl
theorem a0g {ks:List Tie}(h:ks.length<64):∃T:List Tie,T.Perm ks/\gSort (.lst (ks.map tieD))=some (.o (.lst (T.map tieD))):=by
 obtain⟨T,pT,eT⟩:=a4n ks;refine⟨T,pT,?_⟩
 have:=a2d (ks:=ks.map fun t:Tie=>[t.1,t.2.1,t.2.2]) (by rw[zD];exact h) fun k hk=>by obtain⟨t,_,rfl⟩:=zY.mp hk;exact List.cons_ne_nil _ _
 rw[eT,jB] at this;exact this
theorem a74 {n:Int}{ts:List Tie}(h:∀t∈ts,0<=t.1/\t.1<t.2.1/\t.2.1<n)(h8:n<=8)(hd:(ts.map fun t=>(t.1,t.2.1)).Nodup):ts.length<=49:=by
 have nd:(ts.map fun t=>t.1.toNat*7+(t.2.1-1).toNat).Nodup:=by
  refine xS.mpr ?_;refine xT ?_ (xS.mp hd);intro a b ha hb hab e
  have:=h a ha
  have:=h b hb
  exact hab (by rw[show a.1=b.1 by walk_at "o",show a.2.1=b.2.1 by walk_at "o"])
 have:=U7 (n:=49) nd fun x hx=>by
  obtain⟨t,ht,rfl⟩:=zY.mp hx
  have:=h t ht
  walk_at "o"
 rw[zD] at this;exact this
theorem a7w {n a b g:Int}{ts:List Tie}(h:WebOk n ts)(ha:0<=a)(hab:a<b)(hb:b<n)(hg:1<=g/\g<=10^15)(hn:[a,b]∉ts.map fun t=>[t.1,t.2.1]):WebOk n (ts++[(a,b,g)]):=by
 have t':∀t∈ts++[(a,b,g)],0<=t.1/\t.1<t.2.1/\t.2.1<n/\1<=t.2.2/\t.2.2<=10^15:=fun t ht=>by
  rcases xJ.mp ht with z|z
  ·exact h.t t z
  ·rw[qA.mp z];exact⟨ha,hab,hb,hg⟩
 have nd:((ts++[(a,b,g)]).map fun t=>(t.1,t.2.1)).Nodup:=by
  rw[jC,nodup_append];refine⟨h.nd,by simp,fun x hx y hy e=>?_⟩
  subst e;obtain⟨t,ht,e⟩:=zY.mp hx;have hy:x=(a,b):=by simpa using hy
  rw[hy] at e;injection e with e1 e2
  exact hn (zY.mpr ⟨t,ht,by rw[e1,e2]⟩)
 exact⟨h.n1,t',nd,by have:=a74 (fun t ht=>by have:=t' t ht;walk_at "o") h.n1.2 nd;walk_at "o"⟩
def oneB (bs:List Int):D->Bool
 | .int x=>bs.getD x.toNat 0==1
 | _=>false
theorem a5E (n:Nat)(bs:List Int):((rngD 0 n).filter (oneB bs)).map id=((up n).filter fun x=>bs.getD x.toNat 0==1).map .int:=by
 rw[map_id,G3,filter_map];rfl
abbrev C2:Stmt:=top 11
theorem G8:FnScope ["left","many","kind","rare","bits","ties","a","b"] ["left"] (defScope C2):=by walk_at "c"
def M3 (g:LL):Prop:=∀p:Int,∃(n q:Int) (ts:List Tie) (side:List Int),WebOk n ts/\g (poolD p) []=some (.v (.tup [webD n ts,.tup (side.map .int)]),poolD q)
theorem a0b {c9:LL}{w5:LL}(b7:FnL P w K mg base "_law_next" k c9)(b6:q9 c9)(w9:FnL P w K mg base "_law_tie" k w5)(y0:O0 w5)(c8:mg "range"=none)(j1:mg "tuple"=none)(F:Fun K "_law_parted" "_law_parted" C2 f fd)(B:Binds K fd ["left"] [])(hm:mg "_law_parted"=some (.ref f)):∃g,FnL P w K mg base "_law_parted" (k+1) g/\M3 g:=by
 have nd:=G8.nd
 refine⟨_,V4 F G8 B hm rfl rfl (fun cdv A outer s H E hr=>(b5 (j0 1 nd (m4 b3 (j3 b7 hr (a9 (a8 0) (a9 (c7 hr (v7 (a9 b3 (a9 b3 (a9 b3 (a9 b3 b0))))) (j3 b7 hr (a9 (a8 0) (a9 b3 b0)))) b0)))))
  (b5 (j0 2 nd (j3 b7 hr (a9 (a8 0) (a9 b3 b0))))
  (b5 (j0 3 nd (m4 b3 (j3 b7 hr (a9 (a8 0) (a9 b3 b0)))))
  (b5 (j0 4 nd (q5 (N:=["person","left"]) (js:=[none,some 0]) (li:=some (1,0)) rfl (v3 (by exact(.own (.cap rfl rfl rfl rfl .nil))) rfl (by exact⟨rfl,trivial⟩) (by rfl)) (B0 (B8 c8 (a9 (a8 1) b0))) (fun _ _ _ _=>(b9 0 (show((["person","left"]:List Str)++[accN]).Nodup by decide +kernel))) (fun _ _ _ _=>z0) (fun _ _ _ _=>(j3 b7 hr (a9 (a8 1) (a9 b3 b0))))))
  (b5 (j0 5 nd (v7 b0))
  (b5 (p8 zU rfl (B8 c8 (a9 (a8 1) b0)) (b9 6 nd) (b8 (p8 zU rfl (a8B c8 (a9 (m4 (a8 6) b3) (a9 (a8 1) b0))) (b9 7 nd) (b8 (A8 (R6 (T9 (a0T hr (c7 hr (a8 4) (a8 6)) (c7 hr (a8 4) (a8 7))) (L0 (M1 hr (j3 b7 hr (a9 (a8 0) (a9 (a8 3) b0))) b3)))) (b8 (Q1 (L4 (a8 5) (a9 (j3 w9 hr (a9 (a8 0) (a9 (a8 6) (a9 (a8 7) (a9 (a8 2) b0))))) b0)))) p9)))))
  (b8 (k5 (m8 (a9 (m8 (a9 (a8 1) (a9 (qx_t k7 z7 j1 (a9 (a8 5) b0)) b0))) (a9 (qx_t k7 z7 j1 (a9 (q5 (N:=["person","bits"]) (js:=[none,some 4]) (li:=none) rfl (v3 (by exact(.own (.cap rfl rfl rfl rfl .nil))) rfl (by exact⟨rfl,trivial⟩) (by rfl)) (B0 (B8 c8 (a9 (a8 1) b0))) (fun _ _ _ _=>(b9 0 (show((["person","bits"]:List Str)++[accN]).Nodup by decide +kernel))) (fun _ _ _ _=>(R8 rfl (M1 hr (c7 hr (a8 1) (a8 0)) b3))) (fun _ _ _ _=>(a8 0))) b0)) b0)))))))))))),?_⟩
 intro p;have d4:dOk 4:=j7 (by decide) (by decide)
 have d5:dOk 5:=j7 (by decide) (by decide)
 have d3:dOk 3:=j7 (by decide) (by decide)
 have d2:dOk 2:=j7 (by decide) (by decide)
 obtain⟨i0,p0,h0,e0⟩:=b6 p 4 d4;obtain⟨s,hs,ea⟩:=six8 h0.1 h0.2;obtain⟨i1,p1,h1,e1⟩:=b6 p0 s (j7 (by walk_at "o") (by walk_at "o"))
 obtain⟨i2,p2,h2,e2⟩:=b6 p1 5 d5;obtain⟨i3,p3,h3,e3⟩:=b6 p2 3 d3;have lp:∀q,lfC (poolD q)=true:=fun q=>rfl;obtain⟨n,en,hn⟩:∃n:Int,1+i1=n/\1<=n/\n<=8:=⟨_,rfl,by walk_at "o",by walk_at "o"⟩
 obtain⟨ra,er,hra⟩:∃ra:Int,1+i3=ra/\1<=ra/\ra<=4:=⟨_,rfl,by walk_at "o",by walk_at "o"⟩
 have r1:(-(2^62:Int)<=n/\n<2^62):=by walk_at "o"
 repeat(first|walk_at "z r" | simp only[e0,lp,ea,e1,e2,e3,en,er,r1])
 generalize ec:fComp _ _ _ _ _ _ _=r;refine a47 ec (fun d B zs=>∃(o:Option D) (m:Int) (bs:List Int),B=[o.map .v,some (.l (poolD m))]/\zs=bs.map .int/\bs.length=d.length) (xs:=rngD 0 n.toNat) (ρ1:=[some (.l (poolD p3)),some (.v (.int n)),some (.v (.int i2)),some (.v (.int ra)),none,none,none,none]) ?_ ?_ ?_ ?_ ?_ ?_ ?_ ?_
 ·repeat(first|walk_at "z r" | simp only[r1])
 ·rw[E4];unfold lim;walk_at "o"
 ·rfl
 ·rintro d _ _ ⟨_,_,_,rfl,_⟩;rfl
 ·exact⟨none,p3,[],rfl,rfl,rfl⟩
 ·rintro d x _ _ hx ⟨o,m,bs,rfl,rfl,hb⟩ hl;obtain⟨i,rfl,_⟩:=K9 hx;obtain⟨j,m',hj,ej⟩:=b6 m 2 d2;rw[zD] at hl;unfold lim at hl;refine⟨[some (.v (.int i)),some (.l (poolD m'))],(bs++[j]).map .int,?_,⟨some _,m',bs++[j],rfl,rfl,?_⟩,?_⟩
  ·repeat(first|walk_at "z r" | simp only[ej,lp,zD,hl,jC])
  ·rw[zZ,zZ,hb];rfl
  ·rw[zD,zD,zZ];exact zE _
 ·rintro _ _ ⟨o,m,bs,rfl,rfl,_⟩;exact⟨g9 bs,_,rfl,rfl⟩
 ·rintro _ _ c ⟨o,m,bs,rfl,rfl,hb⟩ hc rfl;cases hc;rw[E4] at hb;have lb:=g9 bs
  repeat(first|walk_at "z r" | simp only[r1,lb])
  generalize el:loopF _ _ _=r;refine n6 el (fun i ρ=>∃(p:Int) (ts:List Tie) (o8 o9:Option D),ρ=[some (.l (poolD p)),some (.v (.int n)),some (.v (.int i2)),some (.v (.int ra)),some (.o (.lst (bs.map .int))),some (.o (.lst (ts.map tieD))),o8.map .v,o9.map .v]/\Tz n (i:Int) 0 ts) ⟨m,[],none,none,rfl,⟨(fun _ h=>by cases h),nodup_nil⟩⟩ ?_ ?_
  ·rintro i x _ hx ⟨p,ts,o8,o9,rfl,ht⟩;obtain⟨rfl,hi⟩:=N4 hx;rw[Int.zero_add];have r2:((-(2^62:Int)<=(i:Int)+1/\(i:Int)+1<2^62)/\-(2^62:Int)<=n/\n<2^62):=by walk_at "o"
   repeat(first|walk_at "z i" | simp only[r2])
   generalize el2:loopF _ _ _=r2;refine n6 el2 (fun j ρ=>∃(p:Int) (ts:List Tie) (o9:Option D),ρ=[some (.l (poolD p)),some (.v (.int n)),some (.v (.int i2)),some (.v (.int ra)),some (.o (.lst (bs.map .int))),some (.o (.lst (ts.map tieD))),some (.v (.int (i:Int))),o9.map .v]/\Tz n (i:Int) ((i:Int)+1+(j:Int)) ts) ⟨p,ts,o9,rfl,ht.next (by walk_at "o")⟩ ?_ ?_
   ·rintro j x _ hx ⟨p,ts,o9,rfl,ht⟩;obtain⟨rfl,hj⟩:=N4 hx;obtain⟨B,eB,hB⟩:∃B:Int,(i:Int)+1+(j:Int)=B/\(i:Int)<B/\B<n:=⟨_,rfl,by walk_at "o",by walk_at "o"⟩
    have eB':(i:Int)+1+((j+1:Nat):Int)=B+1:=by walk_at "o"
    rw[eB] at ht ⊢;rw[eB'];have x1:=t9 (ns:=bs) (i:=(i:Int)) (by walk_at "o") (by walk_at "o")
    have x2:=t9 (ns:=bs) (i:=B) (by walk_at "o") (by walk_at "o")
    obtain⟨w,q0,hw,ew⟩:=b6 p ra (j7 (by walk_at "o") (by walk_at "o"))
    by_cases hne:(bs.getD (i:Int).toNat 0==bs.getD B.toNat 0)=true
    ·refine⟨_,?_,p,ts,some (.int B),rfl,ht.next (by walk_at "o")⟩
     repeat(first|walk_at "z r" | simp only[x1,x2,hne])
    ·have hne':(bs.getD (i:Int).toNat 0==bs.getD B.toNat 0)=false:=by simpa using hne
     by_cases hz:w=0
     ·subst hz;obtain⟨gn,q1,hg,et⟩:=y0 q0 (i:Int) B i2 h2.1 h2.2;have hlen:ts.length<1000000:=by have:=(ht.web hn).len;walk_at "o"
      have z00:((0:Int)==0)=true:=rfl;have lt:lf (tieD ((i:Int),B,gn))=true:=rfl;refine⟨_,?_,q1,ts++[((i:Int),B,gn)],some (.int B),rfl,ht.put (by walk_at "o") hB.1 hB.2 hg⟩
      rw[jC]
      repeat(first|walk_at "z r" | simp only[x1,x2,hne',ew,lp,z00,et,lt,zD,hlen])
      try rfl
     ·have hz':(w==0)=false:=by simpa using hz
      refine⟨_,?_,q0,ts,some (.int B),rfl,ht.next (by walk_at "o")⟩
      repeat(first|walk_at "z r" | simp only[x1,x2,hne',ew,lp,hz'])
   ·rintro _ rfl ⟨p,ts,o9,rfl,ht⟩;refine⟨_,rfl,p,ts,some (.int (i:Int)),o9,rfl,?_⟩;rw[show((i+1:Nat):Int)=(i:Int)+1 by walk_at "o"]
    exact ht.row
  ·rintro _ rfl ⟨p,ts,o8,o9,rfl,ht⟩;have lt:=B5 ts;have es:=a5E n.toNat bs;have lS:=g9 ((up n.toNat).filter fun x=>bs.getD x.toNat 0==1);refine⟨n,p,ts,(up n.toNat).filter fun x=>bs.getD x.toNat 0==1,ht.web hn,?_⟩;unfold webD
   repeat(first|walk_at "z r" | simp only[lt,lp])
   rw[k8 (ρ1:=[some (.l (poolD p)),some (.v (.int n)),some (.v (.int i2)),some (.v (.int ra)),some (.o (.lst (bs.map .int))),some (.o (.lst (ts.map tieD))),o8.map .v,o9.map .v]) (xs:=rngD 0 n.toNat) (fun B=>∃o1:Option D,B=[o1.map .v,some (.v (.lst (bs.map .int)))]) (oneB bs) id]
   ·rw[es]
    repeat(first|walk_at "z r" | simp only[lS,lt,lp])
   ·repeat(first|walk_at "z r" | simp only[r1])
   ·rintro _ ⟨_,rfl⟩;rfl
   ·exact⟨none,rfl⟩
   ·rw[E4];unfold lim;walk_at "o"
   ·rw[es];exact lS
   ·rintro x hx _ zs ⟨o1,rfl⟩;obtain⟨i,rfl,q1,q2⟩:=K9 hx;have x1:=t9 (ns:=bs) (i:=i) (by walk_at "o") (by walk_at "o")
    refine⟨[some (.v (.int i)),some (.v (.lst (bs.map .int)))],.v (.int i),⟨some _,rfl⟩,?_,?_,fun _=>⟨?_,.inl rfl⟩⟩
    ·walk_at "q"
    ·show _=some (bs.getD i.toNat 0==1,_)
     repeat(first|walk_at "z r" | simp only[x1])
    ·walk_at "q"
theorem a6p {neg:Bool}{a b:Int}{ts:List Tie}:oInG neg (.tup [.int a,.int b]) (.lst ((ts.map fun t=>[t.1,t.2.1]).map tupI))=some (nb neg (decide ([a,b]∈ts.map fun t=>[t.1,t.2.1]))):=a35 (ns:=[a,b]) rfl (F2 _)
abbrev G9:Stmt:=top 13
theorem Q7:FnScope ["left","web","many","ties","k","a","b","two"] ["left","web","many"] (defScope G9):=by walk_at "c"
def K5 (g:LL):Prop:=∀(p n k:Int) (ts:List Tie),WebOk n ts->0<=k->k<=9->∃(q:Int) (us:List Tie),WebOk n us/\g (poolD p) [webD n ts,.int k]=some (.v (webD n us),poolD q)
theorem a1y {c9:LL}(b7:FnL P w K mg base "_law_next" k c9)(b6:q9 c9)(T4:mg "list"=none)(c8:mg "range"=none)(j1:mg "tuple"=none)(m_min:mg "min"=none)(m_max:mg "max"=none)(u9:mg "sorted"=none)(F:Fun K "_law_more" "_law_more" G9 f fd)(B:Binds K fd ["left","web","many"] [])(hm:mg "_law_more"=some (.ref f)):∃g,FnL P w K mg base "_law_more" (k+1) g/\K5 g:=by
 have nd:=Q7.nd
 refine⟨_,V4 F Q7 B hm rfl rfl (fun cdv A outer s H E hr=>(b5 (j0 3 nd (a5t rfl T4 (a9 (c7 hr (a8 1) b3) b0)))
  (b5 (p8 zU rfl (B8 c8 (a9 (a8 2) b0)) (b9 4 nd) (b5 (j0 5 nd (j3 b7 hr (a9 (a8 0) (a9 (c7 hr (a8 1) b3) b0))))
  (b5 (j0 6 nd (j3 b7 hr (a9 (a8 0) (a9 (c7 hr (a8 1) b3) b0))))
  (b5 (j0 7 nd (m8 (a9 (qx_b (D2 rfl) Y0 m_min (a9 (a8 5) (a9 (a8 6) b0))) (a9 (qx_b (L1 rfl) a1A m_max (a9 (a8 5) (a9 (a8 6) b0))) b0))))
  (b8 (A8 (R6 (T9 (a0T hr (a8 5) (a8 6)) (L0 (D1 hr (a8 7) (q5 (N:=["tie"]) (js:=[none]) (li:=none) rfl (v3 (by exact(.own .nil)) rfl (by exact trivial) (by rfl)) (P0 3) (fun _ _ _ _=>(b9 0 (show((["tie"]:List Str)++[accN]).Nodup by decide +kernel))) (fun _ _ _ _=>z0) (fun _ _ _ _=>(J2 (a8 0) R9 (R0 b3)))))))) (b8 (Q1 (L4 (a8 3) (a9 (m4 (a8 7) (m8 (a9 (m4 b3 (j3 b7 hr (a9 (a8 0) (a9 b3 b0)))) b0))) b0)))) p9))))))
  (b8 (k5 (m8 (a9 (c7 hr (a8 1) b3) (a9 (qx_t k7 z7 j1 (a9 (a0L hr rfl u9 (a9 (a8 3) b0)) b0)) b0)))))))),?_⟩
 intro p n k ts hw k0 k9;have hn:=hw.n1;have lp:∀q,lfC (poolD q)=true:=fun q=>rfl;have lt0:=B5 ts;have r1:(-(2^62:Int)<=k/\k<2^62):=by walk_at "o"
 unfold webD
 repeat(first|walk_at "z r" | simp only[lp,lt0,r1])
 generalize el:loopF _ _ _=r;refine n6 el (fun i ρ=>∃(p:Int) (us:List Tie) (o4 o5 o6 o7:Option D),ρ=[some (.l (poolD p)),some (.v (.tup [.int n,.tup (ts.map tieD)])),some (.v (.int k)),some (.o (.lst (us.map tieD))),o4.map .v,o5.map .v,o6.map .v,o7.map .v]/\WebOk n us) ⟨p,ts,none,none,none,none,rfl,hw⟩ ?_ ?_
 ·rintro i x _ hx ⟨p,us,o4,o5,o6,o7,rfl,hu⟩;have ul:=hu.len;have dn:dOk n:=j7 (by walk_at "o") (by walk_at "o")
  obtain⟨a,p1,ha,e1⟩:=b6 p n dn;obtain⟨b,p2,hb,e2⟩:=b6 p1 n dn;obtain⟨A,eA,hA⟩:∃A:Int,(if b<a then b else a)=A/\A=min a b:=⟨_,rfl,by split<;>walk_at "o"⟩
  obtain⟨B,eB,hB⟩:∃B:Int,(if b>a then b else a)=B/\B=max a b:=⟨_,rfl,by split<;>walk_at "o"⟩
  obtain⟨j,p3,hj,e3⟩:=b6 p2 9 (j7 (by decide) (by decide))
  have l2:lfL ((us.map fun t=>[t.1,t.2.1]).map tupI)=true:=m7 fun x hx=>by
   obtain⟨o,_,rfl⟩:=zY.mp hx;exact g9 o
  have gi:=a6p (neg:=true) (a:=A) (b:=B) (ts:=us);have cm:∀(p2:Int),fComp (fiName 3) none [none] (gfName 0) (fun ρ=>some (true,ρ)) (fSl (fVar 0) fO0 (fO1 (fC (D.int 2)))) [some (.l (poolD p2)),some (.v (.tup [.int n,.tup (ts.map tieD)])),some (.v (.int k)),some (.o (.lst (us.map tieD))),some (.v x),some (.v (.int a)),some (.v (.int b)),some (.v (.tup [.int A,.int B]))]=some (.o (.lst ((us.map fun t=>[t.1,t.2.1]).map tupI)),[some (.l (poolD p2)),some (.v (.tup [.int n,.tup (ts.map tieD)])),some (.v (.int k)),some (.o (.lst (us.map tieD))),some (.v x),some (.v (.int a)),some (.v (.int b)),some (.v (.tup [.int A,.int B]))]):=fun p2=>by
   have lu:=B5 us;rw[k8 (ρ1:=[some (.l (poolD p2)),some (.v (.tup [.int n,.tup (ts.map tieD)])),some (.v (.int k)),some (.o (.lst (us.map tieD))),some (.v x),some (.v (.int a)),some (.v (.int b)),some (.v (.tup [.int A,.int B]))]) (xs:=us.map tieD) (fun B=>∃o0:Option D,B=[o0.map .v]) (fun _=>true) twoH]
   ·rw[X0]
   ·repeat(first|walk_at "z r" | simp only[lu])
   ·rintro _ ⟨o0,rfl⟩;rfl
   ·exact⟨none,rfl⟩
   ·rw[zD];unfold lim;walk_at "o"
   ·rw[X0];exact l2
   ·intro x hx B zs ⟨o0,hB⟩;subst hB;obtain⟨t,ht,rfl⟩:=zY.mp hx;refine⟨[some (.v (tieD t))],.v (.tup [.int t.1,.int t.2.1]),⟨some (tieD t),rfl⟩,?_,?_,fun _=>⟨?_,.inl rfl⟩⟩
    ·unfold acc;walk_at "q"
    ·rfl
    ·unfold acc tieD;repeat(first|walk_at "z r" | simp only[a6u])
  by_cases hab:a=b
  ·have nb':(a==b)=true:=by simpa using hab
   refine⟨_,?_,p2,us,some x,some (.int a),some (.int b),some (.tup [.int A,.int B]),rfl,hu⟩
   repeat(first|walk_at "z r" | simp only[e1,e2,lp,eA,eB,nb'])
  ·have nb':(a==b)=false:=by simpa using hab
   by_cases hin:[A,B]∈us.map fun t=>[t.1,t.2.1]
   ·rw[qE hin] at gi;refine⟨_,?_,p2,us,some x,some (.int a),some (.int b),some (.tup [.int A,.int B]),rfl,hu⟩
    repeat(first|walk_at "z r" | simp only[e1,e2,lp,eA,eB,nb',cm,l2,gi])
   ·rw[qG hin] at gi;have lt:lf (tieD (A,B,1+j))=true:=rfl;have ne2:([D.int A,D.int B]=[])=False:=eq_false (List.cons_ne_nil _ _);have hl:us.length<1000000:=by walk_at "o"
    refine⟨_,?_,p3,us++[(A,B,1+j)],some x,some (.int a),some (.int b),some (.tup [.int A,.int B]),rfl,a7w hu (by walk_at "o") (by walk_at "o") (by walk_at "o") (by walk_at "o") hin⟩
    rw[jC]
    repeat(first|walk_at "z r" | simp only[e1,e2,lp,eA,eB,nb',cm,l2,gi,e3,zD,hl,ne_eq,ne2,not_false_eq_true])
    try rfl
 ·rintro _ rfl ⟨p,us,o4,o5,o6,o7,rfl,hu⟩;have ul:=hu.len;obtain⟨T,pT,eT⟩:=a0g (ks:=us) (by walk_at "o")
  have lt:=B5 us;have lT:=B5 T;refine⟨p,T,hu.perm pT,?_⟩
  repeat(first|walk_at "z r" | simp only[lt,eT,lT,lp])
theorem a71 (i:Nat):up (i+1)=up i++[(i:Int)]:=by
 unfold up;rw[range_succ,jC];simp
theorem a5u {os us:List Int}(h:os.Perm us)(j:Nat)(x:Int):(insL os j x).Perm (us++[x]):=by
 unfold insL;refine List.perm_middle.trans ?_;rw[List.take_append_drop];refine(h.cons x).trans ?_;exact(List.perm_append_singleton x us).symm
theorem a7T (os:List Int)(j:Nat)(x:Int):insL (os.map D.int) j (.int x)=(insL os j x).map .int:=by
 unfold insL;rw[jC,zJ,List.map_take,map_drop]
def pv (m k:Nat):Nat:=if k=0 then m-1 else k-1
def rtT (m:Nat) (os:List Int) (k:Nat):Tie:=(min (os.getD (pv m k) 0) (os.getD k 0),max (os.getD (pv m k) 0) (os.getD k 0),5)
theorem a7u {m:Nat}{os:List Int}(h:os.length=m){k:Nat}(hk:k<m):atI (os.map D.int) ((k:Int)-1)=some (.int (os.getD (pv m k) 0)):=by
 by_cases c:k=0
 ·subst c;unfold atI ixN pv;rw[if_neg (by walk_at "o"),zD,if_pos (by walk_at "o"),bind_some,zW,show(((0:Nat):Int)-1+(os.length:Int)).toNat=m-1 by walk_at "o",if_pos rfl,zH,zM (by walk_at "o")]
  rfl
 ·rw[t9 (by walk_at "o") (by walk_at "o")]
  unfold pv;rw[if_neg c,show((k:Int)-1).toNat=k-1 by walk_at "o"]
theorem a6H {os:List Int}(nd:os.Nodup){a b:Nat}(ha:a<os.length)(hb:b<os.length)(e:os.getD a 0=os.getD b 0):a=b:=by
 rw[zH,zH,zM ha,zM hb] at e;have e:os[a]=os[b]:=e;rcases Nat.lt_trichotomy a b with z|z|z
 ·exact absurd e (xM.mp nd a b ha hb z)
 ·exact z
 ·exact absurd e.symm (xM.mp nd b a hb ha z)
theorem a6d {m:Nat}{os:List Int}(h:os.Perm (up m))(h3:3<=m)(h8:m<=8):WebOk (m:Int) ((List.range m).map (rtT m os)):=by
 have nd:os.Nodup:=h.nodup_iff.mpr (by
  unfold up;refine xS.mpr (nodup_range.imp fun q e=>q ?_)
  walk_at "o")
 have ol:os.length=m:=by rw[h.length_eq,v4]
 have rg:∀k,k<m->0<=os.getD k 0/\os.getD k 0<m:=fun k hk=>by
  have:os.getD k 0∈os:=by
   rw[zH,zM (by walk_at "o")]
   exact getElem_mem _
  exact S5.mp (h.mem_iff.mp this)
 have pl:∀k,k<m->pv m k<m/\pv m k≠k:=fun k hk=>by unfold pv;split<;>walk_at "o"
 have inj:∀a b,a<m->b<m->os.getD a 0=os.getD b 0->a=b:=fun a b ha hb e=>a6H nd (by walk_at "o") (by walk_at "o") e
 refine⟨by walk_at "o",fun t ht=>?_,?_,by rw[zD,length_range];walk_at "o"⟩
 ·obtain⟨k,hk,rfl⟩:=zY.mp ht;have hk:=xB.mp hk;have p:=pl k hk;have r1:=rg k hk;have r2:=rg _ p.1;have ne:os.getD (pv m k) 0≠os.getD k 0:=fun e=>p.2 (inj _ _ p.1 hk e);show 0<=min (os.getD (pv m k) 0) (os.getD k 0)/\min (os.getD (pv m k) 0) (os.getD k 0)<max (os.getD (pv m k) 0) (os.getD k 0)/\max (os.getD (pv m k) 0) (os.getD k 0)<(m:Int)/\(1:Int)<=5/\(5:Int)<=10^15;walk_at "o"
 ·rw[jB];refine xS.mpr (xT ?_ nodup_range);intro a b ha hb hab e;have ha:=xB.mp ha;have hb:=xB.mp hb;have pa:=pl a ha;have pb:=pl b hb;have e1:min (os.getD (pv m a) 0) (os.getD a 0)=min (os.getD (pv m b) 0) (os.getD b 0):=xG Prod.fst e;have e2:max (os.getD (pv m a) 0) (os.getD a 0)=max (os.getD (pv m b) 0) (os.getD b 0):=xG Prod.snd e;have cs:os.getD a 0=os.getD b 0\/(os.getD (pv m a) 0=os.getD b 0/\os.getD a 0=os.getD (pv m b) 0):=by walk_at "o"
  rcases cs with q|⟨q1,q2⟩
  ·exact hab (inj _ _ ha hb q)
  ·have k1:=inj _ _ pa.1 hb q1;have k2:=inj _ _ ha pb.1 q2;unfold pv at k1 k2;split at k1<;>split at k2<;>walk_at "o"
abbrev G5:Stmt:=top 14
theorem Q4:FnScope ["left","many","order","person","ties","k"] ["left"] (defScope G5):=by walk_at "c"
def V9 (g:LL):Prop:=∀p:Int,∃(n q:Int) (ts:List Tie),WebOk n ts/\g (poolD p) []=some (.v (webD n ts),poolD q)
theorem a1D {u5:LL}{c9:LL}(u6:FnL P w K mg base "_law_more" k u5)(u7:K5 u5)(b7:FnL P w K mg base "_law_next" k c9)(b6:q9 c9)(c8:mg "range"=none)(j1:mg "tuple"=none)(m_min:mg "min"=none)(m_max:mg "max"=none)(u9:mg "sorted"=none)(m_len:mg "len"=none)(F:Fun K "_law_ring" "_law_ring" G5 f fd)(B:Binds K fd ["left"] [])(hm:mg "_law_ring"=some (.ref f)):∃g,FnL P w K mg base "_law_ring" (k+1) g/\V9 g:=by
 have nd:=Q4.nd
 refine⟨_,V4 F Q4 B hm rfl rfl (fun cdv A outer s H E hr=>(b5 (j0 1 nd (m4 b3 (j3 b7 hr (a9 (a8 0) (a9 b3 b0)))))
  (b5 (j0 2 nd (v7 b0))
  (b5 (p8 zU rfl (B8 c8 (a9 (a8 1) b0)) (b9 3 nd) (b8 (Q1 (a4I (a8 2) (a9 (j3 b7 hr (a9 (a8 0) (a9 (m4 (qx_b j6 C6 m_len (a9 (a8 2) b0)) b3) b0))) (a9 (a8 3) b0))))))
  (b5 (j0 4 nd (v7 b0))
  (b5 (p8 zU rfl (B8 c8 (a9 (a8 1) b0)) (b9 5 nd) (b8 (Q1 (L4 (a8 4) (a9 (m8 (a9 (qx_b (D2 rfl) Y0 m_min (a9 (c7 hr (a8 2) (K6 (a8 5) b3)) (a9 (c7 hr (a8 2) (a8 5)) b0))) (a9 (qx_b (L1 rfl) a1A m_max (a9 (c7 hr (a8 2) (K6 (a8 5) b3)) (a9 (c7 hr (a8 2) (a8 5)) b0))) (a9 b3 b0)))) b0)))))
  (b8 (k5 (j3 u6 hr (a9 (a8 0) (a9 (m8 (a9 (a8 1) (a9 (qx_t k7 z7 j1 (a9 (a0L hr rfl u9 (a9 (a8 4) b0)) b0)) b0))) (a9 (j3 b7 hr (a9 (a8 0) (a9 b3 b0))) b0)))))))))))),?_⟩
 intro p;have lp:∀q,lfC (poolD q)=true:=fun q=>rfl;obtain⟨i0,p0,h0,e0⟩:=b6 p 6 (j7 (by decide) (by decide))
 obtain⟨m,em,hm⟩:∃m:Nat,3+i0=(m:Int)/\3<=m/\m<=8:=⟨(3+i0).toNat,by walk_at "o",by walk_at "o",by walk_at "o"⟩
 have r1:(-(2^62:Int)<=(m:Int)/\(m:Int)<2^62):=by walk_at "o"
 repeat(first|walk_at "z r" | simp only[e0,lp,em,r1,zI])
 generalize el:loopF _ _ _=r;refine n6 el (fun i ρ=>∃(p:Int) (os:List Int) (o3:Option D),ρ=[some (.l (poolD p)),some (.v (.int (m:Int))),some (.o (.lst (os.map .int))),o3.map .v,none,none]/\os.Perm (up i)) ⟨p0,[],none,rfl,List.Perm.nil⟩ ?_ ?_
 ·rintro i x _ hx ⟨p,os,o3,rfl,ho⟩;obtain⟨rfl,hi⟩:=N4 hx;rw[Int.zero_add];have ol:os.length=i:=by rw[ho.length_eq,v4]
  obtain⟨j,q,hj,ej⟩:=b6 p ((i:Int)+1) (j7 (by walk_at "o") (by walk_at "o"))
  have c:(0<=j/\j<2^62)/\i<1000000:=by walk_at "o"
  have im:=a7T os j.toNat (i:Int);have lo:=g9 (insL os j.toNat (i:Int));refine⟨_,?_,q,insL os j.toNat (i:Int),some (.int (i:Int)),rfl,by rw[a71];exact a5u ho _ _⟩
  repeat(first|walk_at "z r" | simp only[zD,ol,ej,lp,r_ins,c,im,lo])
 ·rintro _ rfl ⟨p,os,o3,rfl,ho⟩;rw[E4] at ho;have ol:os.length=m:=by rw[ho.length_eq,v4]
  have lo:=g9 os
  repeat(first|walk_at "z r" | simp only[r1,zI,lo])
  generalize el2:loopF _ _ _=r2;refine n6 el2 (fun i ρ=>∃o5:Option D,ρ=[some (.l (poolD p)),some (.v (.int (m:Int))),some (.o (.lst (os.map .int))),o3.map .v,some (.o (.lst (((List.range i).map (rtT m os)).map tieD))),o5.map .v]) ⟨none,rfl⟩ ?_ ?_
  ·rintro i x _ hx ⟨o5,rfl⟩;obtain⟨rfl,hi⟩:=N4 hx;rw[Int.zero_add];have a1:=a7u ol (k:=i) (by walk_at "o")
   have a2:=t9 (ns:=os) (i:=(i:Int)) (by walk_at "o") (by walk_at "o")
   rw[zI] at a2;obtain⟨A,eA,hA⟩:∃A:Int,(if os.getD i 0<os.getD (pv m i) 0 then os.getD i 0 else os.getD (pv m i) 0)=A/\A=min (os.getD (pv m i) 0) (os.getD i 0):=⟨_,rfl,by split<;>walk_at "o"⟩
   obtain⟨B,eB,hB⟩:∃B:Int,(if os.getD i 0>os.getD (pv m i) 0 then os.getD i 0 else os.getD (pv m i) 0)=B/\B=max (os.getD (pv m i) 0) (os.getD i 0):=⟨_,rfl,by split<;>walk_at "o"⟩
   have hl:i<1000000:=by walk_at "o"
   refine⟨_,?_,some (.int (i:Int)),rfl⟩;rw[range_succ,jC,jC];have et:[rtT m os i].map tieD=[D.tup [.int A,.int B,.int 5]]:=by rw[hA,hB];rfl
   rw[List.map_singleton,et]
   repeat(first|walk_at "z r" | simp only[a1,a2,eA,eB,zD,length_range,hl])
  ·rintro _ rfl ⟨o5,rfl⟩;rw[E4];have hw:=a6d ho hm.1 hm.2;have wl:=hw.len;generalize (List.range m).map (rtT m os)=us at hw wl;obtain⟨T,pT,eT⟩:=a0g (ks:=us) (by walk_at "o")
   have lt:=B5 us;have lT:=B5 T;obtain⟨k,q,hk,ek⟩:=b6 p 3 (j7 (by decide) (by decide))
   obtain⟨q2,vs,hv,ev⟩:=u7 q (m:Int) k T (hw.perm pT) hk.1 (by walk_at "o")
   have lv:=Z5 (m:Int) vs;refine⟨(m:Int),q2,vs,hv,?_⟩;unfold webD at ev lv ⊢
   repeat(first|walk_at "z r" | simp only[lt,eT,lT,lp,ek,ev,lv])
abbrev O9:Stmt:=top 18
theorem a5R:FnScope ["script","cell","left","web","some"] ["script"] (defScope O9):=by walk_at "c"
theorem a9S {J1:LO}{B9:LL}{u5:LL}{O1:LL}{G4:LL}{c9:LL}{A5:LO}(K0:Fn P w K mg base "_law_deal" k J1)(J6:W4 J1)(C8:FnL P w K mg base "_law_parted" k B9)(C5:M3 B9)(u6:FnL P w K mg base "_law_more" k u5)(u7:K5 u5)(N6:FnL P w K mg base "_law_web" k O1)(O2:Z3 O1)(J7:FnL P w K mg base "_law_ring" k G4)(J9:V9 G4)(b7:FnL P w K mg base "_law_next" k c9)(b6:q9 c9)(E1:Fn P w K mg base "_law_right" k A5)(s0:O6 A5)(m_all:mg "all"=none)(F:Fun K "law" "law" O9 f fd):FnOk P w K mg base CX0 (k+1) f fd ["script"] (spLaw K):=by
 have nd:=a5R.nd
 refine a9q F a5R rfl rfl (fun cdv A outer s H E hr=>(b5 (p8 zU rfl (A4 (m4 (v7 (a9 b3 b0)) (a8 0))) (b9 1 nd) (b5 (j0 2 nd (C0 K0 hr (a9 (a8 1) b0)))
  (b5 (j0 3 nd (c7 hr (j3 C8 hr (a9 (a8 2) b0)) b3))
  (b5 (j0 4 nd (v7 (a9 (a8 3) (a9 (j3 u6 hr (a9 (a8 2) (a9 (a8 3) (a9 (m4 b3 (j3 b7 hr (a9 (a8 2) (a9 b3 b0)))) b0)))) (a9 (j3 N6 hr (a9 (a8 2) b0)) (a9 (j3 J7 hr (a9 (a8 2) b0)) b0))))))
  (b8 (A8 (U1 (U9 (qx_b (L3 rfl) Q5 m_all (a9 (q5 (N:=["one"]) (js:=[none]) (li:=none) rfl (v3 (by exact(.own .nil)) rfl (by exact trivial) (by rfl)) (P0 4) (fun _ _ _ _=>(b9 0 (show((["one"]:List Str)++[accN]).Nodup by decide +kernel))) (fun _ _ _ _=>z0) (fun _ _ _ _=>(C0 E1 hr (a9 (a8 0) b0)))) b0)))) (b8 (k5 Z2)) p9))))))
  (b8 (k5 Z2)))) ?_
 intro ns hl;have hlen:1+(ns.map D.int).length<=1000000:=by rw[zD];walk_at "o"
 repeat(first|walk_at "z r" | simp only[hlen])
 generalize el:loopF _ _ _=r;refine a0E el (fun _ ρ=>∃x1 x2 x3 x4:Option W,ρ=[some (.v (.lst (ns.map .int))),x1,x2,x3,x4]/\(freeO x1=true/\freeO x2=true/\freeO x3=true/\freeO x4=true)) ⟨none,none,none,none,rfl,rfl,rfl,rfl,rfl⟩ ?_ ?_
 ·rintro d x _ hx _ ⟨x1,x2,x3,x4,rfl,f1,f2,f3,f4⟩;have hx':∃c:Int,x= .int c:=by
   rcases zO.mp hx with rfl|hx
   ·exact⟨0,rfl⟩
   ·obtain⟨c,_,rfl⟩:=a0d hx;exact⟨c,rfl⟩
  obtain⟨c,rfl⟩:=hx';have lp:∀q,lfC (poolD q)=true:=fun q=>rfl;have lp':∀q,lfW (.o (poolD q))=true:=fun q=>rfl;obtain⟨p,e0⟩:=J6 c;obtain⟨n,p1,ts,side,hw,e1⟩:=C5 p;obtain⟨j,p2,hj,e2⟩:=b6 p1 2 (j7 (by decide) (by decide))
  obtain⟨p3,us,hu,e3⟩:=u7 p2 n (1+j) ts hw (by walk_at "o") (by walk_at "o")
  obtain⟨n4,p4,vs,hv,e4⟩:=O2 p3;obtain⟨n5,p5,zs,hz,e5⟩:=J9 p4;have l1:=Z5 n ts;have l2:=Z5 n us;have l3:=Z5 n4 vs;have l4:=Z5 n5 zs;have ls:=g9 side;have ok:∀y∈[webD n ts,webD n us,webD n4 vs,webD n5 zs],A5 [y]=some (.v (.bl true)):=fun y hy=>by
   simp only[zO,jS,yG] at hy;rcases hy with rfl|rfl|rfl|rfl
   ·exact s0 _ _ hw
   ·exact s0 _ _ hu
   ·exact s0 _ _ hv
   ·exact s0 _ _ hz
  have lw:∀y∈[webD n ts,webD n us,webD n4 vs,webD n5 zs],lf y=true:=fun y hy=>by
   simp only[zO,jS,yG] at hy;rcases hy with rfl|rfl|rfl|rfl
   ·exact l1
   ·exact l2
   ·exact l3
   ·exact l4
  have ix0:oIxG (.tup [webD n ts,.tup (side.map .int)]) (.int 0)=some (.v (webD n ts)):=rfl
  repeat(first|walk_at "z r" | simp only[f1,f2,f3,f4,e0,lp,lp',e1,ix0,l1,ls,e2,e3,l2,e4,l3,e5,l4])
  rw[k8 (ρ1:=[some (.v (.lst (ns.map .int))),some (.v (.int c)),some (.o (poolD p5)),some (.v (webD n ts)),some (.o (.lst [webD n ts,webD n us,webD n4 vs,webD n5 zs]))]) (xs:=[webD n ts,webD n us,webD n4 vs,webD n5 zs]) (fun B=>∃o1:Option D,B=[o1.map .v]) (fun _=>true) (fun _=>.bl true)]
  ·refine⟨_,?_,some (.v (.int c)),some (.o (poolD p5)),some (.v (webD n ts)),some (.o (.lst [webD n ts,webD n us,webD n4 vs,webD n5 zs])),rfl,rfl,rfl,rfl,rfl⟩;have gb:gBools (fun bs=>bs.all id) (.lst (([webD n ts,webD n us,webD n4 vs,webD n5 zs].filter fun _=>true).map fun _=>D.bl true))=some (.v (.bl true)):=rfl;have lb:lfL (([webD n ts,webD n us,webD n4 vs,webD n5 zs].filter fun _=>true).map fun _=>D.bl true)=true:=rfl
   repeat(first|walk_at "z r" | simp only[gb,lb])
  ·repeat(first|walk_at "z r" | simp only[l1,l2,l3,l4])
  ·rintro _ ⟨_,rfl⟩;rfl
  ·exact⟨none,rfl⟩
  ·show(4:Nat)<=lim;unfold lim;walk_at "o"
  ·rfl
  ·rintro y hy _ zs' ⟨o1,rfl⟩;have q:=ok y hy;have ly:=lw y hy;refine⟨[some (.v y)],.v (.bl true),⟨some _,rfl⟩,?_,rfl,fun _=>⟨?_,.inl rfl⟩⟩
   ·walk_at "q"
   ·repeat(first|walk_at "z r" | simp only[q,ly])
 ·rintro _ rfl ⟨x1,x2,x3,x4,rfl,_⟩;walk_at "q"
end
end Q66
namespace Q66
open PySem PySem.Spec PyProof.Rows L2 Z
structure DI (K:PySem.W.Frag) (x:Str) (st:Stmt) (f:Addr) (fd:FuncData):Prop where
 a:PySem.W.nsIn K mainGlobals x=some (some (.ref f))
 F:Fun K x x st f fd
theorem DI.mk2 {K:PySem.W.Frag}{x:Str}{st:Stmt}{f:Addr}{od an:Option Addr}{sl:Array (Option Value)}{oc kV dc pm cd ct:Value}(a:PySem.W.nsIn K mainGlobals x=some (some (.ref f)))(l:K.lookup f=some ⟨oc,od,.func (PySem.W.fnOf x x (defArgs st) (defBody st) (defScope st) .none kV dc pm an cd ct),sl⟩)(c:PySem.W.codeIn K cd x=true)(k:PySem.W.keepIn K (.ref f)=true):DI K x st f (PySem.W.fnOf x x (defArgs st) (defBody st) (defScope st) .none kV dc pm an cd ct):=⟨a,a50 l c k⟩
section
variable {P:Program}{w:World}{K:PySem.W.Frag}{mg:Str->Option Value}{base:Heap}{x:Str}{j k:Nat}
theorem _root_.Z.FnS.up {sp:Sp}(F:FnS P w K mg base x j sp)(h:j<=k:=by decide):FnS P w K mg base x k sp:=F.mono h
end
theorem a9E {l:PySem.W.OpenLaw}{w:World}{K:PySem.W.Frag}{h:Heap}{mg:Str->Option Value}{fa f1 f2 f3 f4 f5 f6 f7 f8 f9 f10 f11 f12 f13 f14 f15 f16:Addr}{d1 d2 d3 d4 d5 d6 d7 d8 d9 d10 d11 d12 d13 d14 d15:FuncData}(X:K.In h)(G:h.Ns mainGlobals mg)(hfa:mg "law"=some (.ref fa))
  {od an:Option Addr} {sl:Array (Option Value)} {oc kV dc pm cd ct:Value}
  (i1:DI K "_law_mixed" E8 f1 d1) (i2:DI K "_law_deal" G7 f2 d2) (i3:DI K "_law_next" K4 f3 d3) (i4:DI K "_law_tie" O3 f4 d4) (i5:DI K "_law_parted" C2 f5 d5) (i6:DI K "_law_more" G9 f6 d6) (i7:DI K "_law_web" N5 f7 d7) (i8:DI K "_law_ring" G5 f8 d8) (i9:DI K "parts" a1k f9 d9) (i10:DI K "ways_of" V5 f10 d10) (i11:DI K "closed" Y4 f11 d11) (i12:DI K "two_sides" G0 f12 d12) (i13:DI K "_law_steps" E3 f13 d13) (i14:DI K "_law_is_round" z9 f14 d14) (i15:DI K "_law_right" F1 f15 d15)
  (a:PySem.W.nsIn K mainGlobals "law"=some (some (.ref f16))) (ll:K.lookup f16=some ⟨oc,od,.func (PySem.W.fnOf "law" "law" (defArgs O9) (defBody O9) (defScope O9) .none kV dc pm an cd ct),sl⟩) (c:PySem.W.codeIn K cd "law"=true) (k:PySem.W.keepIn K (.ref f16)=true)
  (y1:PySem.W.nsIn K mainGlobals "range"=some none) (y2:PySem.W.nsIn K mainGlobals "divmod"=some none) (y3:PySem.W.nsIn K mainGlobals "tuple"=some none) (y4:PySem.W.nsIn K mainGlobals "list"=some none) (y5:PySem.W.nsIn K mainGlobals "min"=some none) (y6:PySem.W.nsIn K mainGlobals "max"=some none) (y7:PySem.W.nsIn K mainGlobals "sorted"=some none) (y8:PySem.W.nsIn K mainGlobals "len"=some none) (y9:PySem.W.nsIn K mainGlobals "set"=some none) (y10:PySem.W.nsIn K mainGlobals "enumerate"=some none) (y11:PySem.W.nsIn K mainGlobals "all"=some none) (y12:PySem.W.nsIn K mainGlobals "isinstance"=some none) (y13:PySem.W.nsIn K mainGlobals "int"=some none) (y14:PySem.W.nsIn K mainGlobals "bool"=some none):
  ∃fd:FuncData,(∀(s:Shared) (v:Value),BindsTo s fd ⟨[v],[]⟩ [("script",v)])/\∀base:Heap,K.In base->base.Ns mainGlobals mg->FnOk l.prog w K mg base CX0 60 fa fd ["script"] (spLaw K):=by
 cases hfa.symm.trans (qU X G a);have c8:=qN X G y1;have a0k:=qN X G y2;have j1:=qN X G y3;have T4:=qN X G y4;have m_min:=qN X G y5;have m_max:=qN X G y6;have u9:=qN X G y7;have m_len:=qN X G y8;have m_set:=qN X G y9;have F8:=qN X G y10;have m_all:=qN X G y11;have j4:=qN X G y12;have m_int:=qN X G y13;have S7:=qN X G y14;refine⟨PySem.W.fnOf "law" "law" (defArgs O9) (defBody O9) (defScope O9) .none kV dc pm an cd ct,fun s v=>.of_eq rfl,fun base _ _=>?_⟩;obtain⟨E2,F0,D7⟩:=a0u (P:=l.prog) (w:=w) (base:=base) (k:=0) i1.F (i1.F.binds (ps:=["cell","k"]) fun _ _ _ _ _ _ us hl=>us2 hl fun _ _=>rfl) (qU X G i1.a);obtain⟨J1,K0,J6⟩:=a1i (P:=l.prog) (w:=w) (base:=base) (k:=1) F0.up D7 c8 i2.F (i2.F.binds (ps:=["cell"]) fun _ _ _ _ _ _ us hl=>us1 hl fun _=>rfl) (qU X G i2.a);obtain⟨c9,b7,b6⟩:=a1w (P:=l.prog) (w:=w) (base:=base) (k:=0) a0k i3.F (i3.F.binds (ps:=["left","many"]) fun _ _ _ _ _ _ us hl=>us2 hl fun _ _=>rfl) (qU X G i3.a);obtain⟨w5,w9,y0⟩:=a11 (P:=l.prog) (w:=w) (base:=base) (k:=1) b7.up b6 i4.F (i4.F.binds (ps:=["left","a","b","kind"]) fun _ _ _ _ _ _ us hl=>us4 hl fun _ _ _ _=>rfl) (qU X G i4.a);obtain⟨B9,C8,C5⟩:=a0b (P:=l.prog) (w:=w) (base:=base) (k:=2) b7.up b6 w9.up y0 c8 j1 i5.F (i5.F.binds (ps:=["left"]) fun _ _ _ _ _ _ us hl=>us1 hl fun _=>rfl) (qU X G i5.a);obtain⟨u5,u6,u7⟩:=a1y (P:=l.prog) (w:=w) (base:=base) (k:=1) b7.up b6 T4 c8 j1 m_min m_max u9 i6.F (i6.F.binds (ps:=["left","web","many"]) fun _ _ _ _ _ _ us hl=>us3 hl fun _ _ _=>rfl) (qU X G i6.a);obtain⟨O1,N6,O2⟩:=a1V (P:=l.prog) (w:=w) (base:=base) (k:=2) b7.up b6 w9.up y0 c8 j1 i7.F (i7.F.binds (ps:=["left"]) fun _ _ _ _ _ _ us hl=>us1 hl fun _=>rfl) (qU X G i7.a);obtain⟨G4,J7,J9⟩:=a1D (P:=l.prog) (w:=w) (base:=base) (k:=2) u6.up u7 b7.up b6 c8 j1 m_min m_max u9 m_len i8.F (i8.F.binds (ps:=["left"]) fun _ _ _ _ _ _ us hl=>us1 hl fun _=>rfl) (qU X G i8.a);obtain⟨a1E,a1N,a1m⟩:=a54 (P:=l.prog) (w:=w) (base:=base) (k:=0) T4 c8 j1 m_min m_max u9 m_set i9.F (i9.F.binds (ps:=["web"]) fun _ _ _ _ _ _ us hl=>us1 hl fun _=>rfl) (qU X G i9.a);obtain⟨U0,T1,S4⟩:=a22 (P:=l.prog) (w:=w) (base:=base) (k:=1) a1N.up a1m c8 i10.F (i10.F.binds (ps:=["web"]) fun _ _ _ _ _ _ us hl=>us1 hl fun _=>rfl) (qU X G i10.a);obtain⟨X3,Z0,a0l⟩:=a4s (P:=l.prog) (w:=w) (base:=base) (k:=0) m_min m_len i11.F (i11.F.binds (ps:=["one","other"]) fun _ _ _ _ _ _ us hl=>us2 hl fun _ _=>rfl) (qU X G i11.a);obtain⟨J0,B4,G6⟩:=a1O (P:=l.prog) (w:=w) (base:=base) (k:=2) T1.up S4 Z0.up a0l j1 m_len F8 i12.F (i12.F.binds (ps:=["web"]) fun _ _ _ _ _ _ us hl=>us1 hl fun _=>rfl) (qU X G i12.a);obtain⟨D6,E6,E7⟩:=a0s (P:=l.prog) (w:=w) (base:=base) (k:=0) c8 i13.F (i13.F.binds (ps:=["web"]) fun _ _ _ _ _ _ us hl=>us1 hl fun _=>rfl) (qU X G i13.a);obtain⟨A3,z8,A2⟩:=T6 (P:=l.prog) (w:=w) (base:=base) (k:=0) m_all j4 j1 m_len m_set c8 m_int m_min m_max S7 i14.F (i14.F.binds (ps:=["web","thing"]) fun _ _ _ _ _ _ us hl=>us2 hl fun _ _=>rfl) (qU X G i14.a);obtain⟨A5,E1,s0⟩:=a0r (P:=l.prog) (w:=w) (base:=base) (k:=3) B4.up G6 E6.up E7 z8.up A2 j1 j4 m_len m_all c8 S7 m_int i15.F (i15.F.binds (ps:=["web"]) fun _ _ _ _ _ _ us hl=>us1 hl fun _=>rfl) (qU X G i15.a);exact a9S (P:=l.prog) (w:=w) (base:=base) (k:=59) K0.up J6 C8.up C5 u6.up u7 N6.up O2 J7.up J9 b7.up b6 E1.up s0 m_all (a50 (st:=O9) ll c k)
end Q66
open PySem PySem.W PyProof.Rows
namespace PySem.W.Fast
def tw3590639719924518755:=()
def tw5775019227780111191:=()
def tw14945078213592943646:=()
def tw41554279076646577:=()
def tw3867269047156883066:=()
def tw1795514643042333539:=()
def tw1443340290877901492:=()
def tw14133251456597279009:=()
def tw16080242636770021171:=()
def tw10142423422990754740:=()
def tw8147356154530870347:=()
def tw12700540980236204175:=()
def tw12102201051164950407:=()
def tw6203205426862703638:=()
def tw6902351804539638486:=()
def tw18186068317410902656:=()
def tw1135667441555363821:=()
def tw12835714422396650929:=()
def tw967677885464659638:=()
def tw8128208937844579392:=()
def tw6893524238289583760:=()
def tw12471285536628801062:=()
def tw13692756632088174819:=()
def tw15836620246667390894:=()
def tw15954566790504845927:=()
def tw17352954580414375535:=()
def tw14951265462147711295:=()
def tw662185108793556063:=()
def tw18375969614114506386:=()
def tw11426101074443465144:=()
def tw339131859654427571:=()
def tw15893218355762218893:=()
def tw1536043270467937286:=()
def tw4952279392779350743:=()
def tw8100622245172556716:=()
def tw2384199617061854938:=()
def tw13743240396095953934:=()
def tw16525962185563514025:=()
def tw2207952064445301455:=()
def tw2488108056260141824:=()
def tw15597981523098884370:=()
def tw6846075258349581888:=()
def tw17322050259170885359:=()
def tw1604732592528445484:=()
def tw5528209326103551655:=()
def tw439168992451013254:=()
def tw13023898814639291887:=()
def tw3496702988456972795:=()
def tw16828382127557826332:=()
def tw2595626511190703819:=()
def tw2178445492020769255:=()
def tw15855185750524568439:=()
def tw3941141220697556213:=()
def tw3820148992522821921:=()
def tw14824696795074700919:=()
def tw5697056145325468636:=()
def tw14745292057724923259:=()
def tw4697090193330370550:=()
def tw17530550261608355638:=()
def tw11638187042836632335:=()
def tw6903658923440693441:=()
def tw304227960740951955:=()
def tw6884383625534369728:=()
def tw5578075659411337803:=()
def tw13639037103920987126:=()
def tw14326702772108847835:=()
def tw9880142668756544973:=()
def tw648125896127323262:=()
def tw7527903554020433734:=()
def tw13457248193776007833:=()
def tw4829981503173400931:=()
def tw12149900103999574058:=()
def tw10904984944579117852:=()
def tw2029027171010120354:=()
def tw2295735440876519219:=()
def tw247923667005783461:=()
def tw6700539522562473288:=()
def tw18305589191220889000:=()
def tw13670088469249959360:=()
def tw7766990397026875054:=()
def tw6044404096572004590:=()
def tw4190528368413915120:=()
def tw11304153398395041364:=()
def tw4285140016507921955:=()
def tw3175764642648702158:=()
def tw9934369397058165061:=()
def tw17370830292776842411:=()
def tw15194300669571197232:=()
def tw7096307044874076421:=()
def tw13856876732172791571:=()
def tw15885050406194986979:=()
def tw8527862395473817975:=()
def tw3810979513503422848:=()
def tw13415981034953654515:=()
def tw790206574339854605:=()
def tw10776288712520614571:=()
def tw1542729053027311424:=()
end PySem.W.Fast
set_option maxRecDepth 100000 in
set_option maxHeartbeats 0 in
theorem PySem.Challenge.cw_twainhoard_k66_sides_or_a_round_holds : PySem.Challenge.rw_twainhoard_k66_sides_or_a_round.Holds := by
 w_on;o_law;k_head;(case hw=>w_witness2)
 k_fill
 refine Z.walk (l:=PySem.Challenge.rw_twainhoard_k66_sides_or_a_round) rfl rfl (fun w h Y=>PySem.W.kIn_of Y) ?F
 case F=>
  intro w mg fa h KX G hmg
  refine' Q66.a9E KX G hmg (Q66.DI.mk2 ?_ ?_ ?_ ?_) (Q66.DI.mk2 ?_ ?_ ?_ ?_) (Q66.DI.mk2 ?_ ?_ ?_ ?_) (Q66.DI.mk2 ?_ ?_ ?_ ?_) (Q66.DI.mk2 ?_ ?_ ?_ ?_) (Q66.DI.mk2 ?_ ?_ ?_ ?_) (Q66.DI.mk2 ?_ ?_ ?_ ?_) (Q66.DI.mk2 ?_ ?_ ?_ ?_) (Q66.DI.mk2 ?_ ?_ ?_ ?_) (Q66.DI.mk2 ?_ ?_ ?_ ?_) (Q66.DI.mk2 ?_ ?_ ?_ ?_) (Q66.DI.mk2 ?_ ?_ ?_ ?_) (Q66.DI.mk2 ?_ ?_ ?_ ?_) (Q66.DI.mk2 ?_ ?_ ?_ ?_) (Q66.DI.mk2 ?_ ?_ ?_ ?_) ?_ ?_ ?_ ?_ ?_ ?_ ?_ ?_ ?_ ?_ ?_ ?_ ?_ ?_ ?_ ?_ ?_ ?_
  all_goals try k_is
