import PyProof.Rows.All
import Wide.All
import OpenK.AllK
import Wide.FinOn
import Lean
import PyProof.EqAt
import PyProof.EqKinds
import PyProof.TupleCall
import PyProof.DictRoadsH
import PyProof.DictRoads
import PyProof.DictIter
import PyProof.CompUse
import PyProof.SumWalkG
import KE.KSort
import PyProof.EnumMake
import PyProof.Rows.ZipGen
import PyProof.Rows.RuleDivmod
import PyProof.ListRange
import KE.KDictSum
import KE.KSortTup
import PyProof.DictCompW
import PyProof.ListMulAny
import PyProof.ReprRoads
import PyProof.FitsInt
import PyProof.WalksMore
import PyProof.Rows.Range3
import PyProof.Rows.ListMulArg
import PySem.Challenge.RW_twainhoard_k26_doubles_known
set_option Elab.async false
set_option compiler.extract_closed false
set_option genSizeOf false
set_option genInjectivity false
set_option bootstrap.genMatcherCode false
set_option linter.all false
set_option maxRecDepth 100000
theorem ex5 {α β:Type}{A B C:α->β->Prop}{G:Prop}(h:∃x y,A x y/\B x y/\C x y)(k:∀x y,A x y->B x y->C x y->G):G:=by
 obtain ⟨x,y,a,b,c⟩:=h;exact k x y a b c
open List (mem_filterMap filterMap_cons set_comm nodup_cons of_mem_zip length_take length_replicate zip_nil_left all_cons any_cons reverse_cons append_assoc find?_cons nodup_nil getElem?_eq_getElem getElem_mem take_add_one sum_append take_length nil_append length_mapIdx length_range pairwise_cons getElem_map drop_drop range_succ length_reverse cons_append isEmpty_nil map_set mem_flatMap filter_map map_id perm_iff_count count_append)
open Option (isSome_iff_exists getD_none isSome_map bind_some toList_some)

abbrev zA:=@PySem.wpAny_bind
abbrev zB:=@PySem.wpAny_pure
abbrev zC:=@List.length_map
abbrev zD:=@PySem.Heap.get?_push_of_some
abbrev zE:=@Nat.le_refl
abbrev zF:=@PySem.wpAny_mono
abbrev zG:=@List.getElem?_eq_some_iff
abbrev zH:=@List.map_cons
abbrev zI:=@List.mem_cons_of_mem
abbrev zJ:=@List.mem_cons_self
abbrev zK:=@Nat.lt_of_lt_of_le
abbrev zL:=@List.map_append
abbrev zM:=@List.length_append
abbrev zN:=@List.mem_singleton
abbrev zO:=@List.size_toArray
abbrev zP:=@Bool.false_ne_true
abbrev zQ:=@List.getD_eq_getElem?_getD
abbrev zR:=@List.getElem?_set_ne
abbrev zS:=@PySem.Heap.get?_push_size
abbrev zT:=@Nat.ne_of_lt
abbrev zU:=@PySem.PassesOwn.never
abbrev zV:=@List.getElem?_map
abbrev zW:=@PySem.Heap.lt_size
abbrev zX:=@List.mem_cons
abbrev zY:=@PySem.W.mg_of
abbrev zZ:=@List.mem_map
abbrev qA:=@List.mem_append_right
abbrev qB:=@List.getElem?_eq_getElem
abbrev qC:=@Nat.le_trans
abbrev qD:=@PySem.wpAny_newObj_type
abbrev qE:=@PySem.wpAny_callSpecial?_slot
abbrev qF:=@List.map_map
abbrev qG:=@List.mem_append
abbrev qH:=@PySem.W.mg_none_of
abbrev qI:=@PySem.wpAny_holding
abbrev qJ:=@List.length_cons
abbrev qK:=@decide_eq_false
abbrev qL:=@decide_eq_true
abbrev qM:=@List.getElem?_append_left
abbrev qN:=@PyProof.Rows.slot_tuple_getitem
abbrev qO:=@PySem.wpAny_call_entry
abbrev qP:=@PySem.wpAny_field
abbrev qQ:=@Int.toNat_natCast
abbrev qR:=@List.getElem?_append_right
abbrev qS:=@List.length_set
abbrev qT:=@Ne.symm
abbrev qU:=@PyProof.Rows.callWith_type1
abbrev qV:=@Option.some.inj
abbrev qW:=@List.mem_filter
abbrev qX:=@List.mem_of_getElem?
abbrev qY:=@List.flatten_append
abbrev qZ:=@PySem.Heap.SameBut.update
abbrev jA:=@List.getElem?_eq_none
abbrev jB:=@PySem.wpAny_setField_rec
abbrev jC:=@if_true
abbrev jD:=@Nat.lt_irrefl
abbrev jE:=@List.not_mem_nil
abbrev jF:=@Option.map_some
abbrev jG:=@List.sum_cons
abbrev jH:=@List.getElem?_cons_succ
abbrev jI:=@Bool.false_eq_true
abbrev jJ:=@Bool.and_eq_true
abbrev jK:=@List.length_singleton
abbrev jL:=@List.map_congr_left
abbrev jM:=@PySem.sizeLine_eq
abbrev jN:=@Nat.zero_le
abbrev jO:=@PySem.wpAny_standAt
abbrev jP:=@List.flatten_cons
abbrev jQ:=@List.append_assoc
abbrev jR:=@List.nodup_append
abbrev jS:=@List.mem_range
abbrev jT:=@PySem.wpAny_rule
abbrev jU:=@List.getElem?_range
abbrev jV:=@PySem.F.slot_dict_keyiterator_next
abbrev jW:=@if_false
abbrev jX:=@or_false
abbrev jY:=@Array.length_toList
abbrev jZ:=@List.zip_cons_cons
abbrev xA:=@Array.getElem?_toList
abbrev xB:=@List.getElem?_eq_none_iff
abbrev xC:=@List.mem_append_left
abbrev xD:=@List.append_nil
abbrev xE:=@PySem.W.kia_one
abbrev xF:=@Nat.sub_self
abbrev xG:=@PyProof.Rows.KeyOrd.kle_refl
abbrev xH:=@PySem.AutoSeq1.wpAny_loadPart'
abbrev xI:=@of_decide_eq_true
abbrev xJ:=@PySem.Paired.length
abbrev xK:=@PySem.wpAny_typeNameOfWhole_keyiter
abbrev xL:=@PySem.Heap.get?_update_self
abbrev xN:=@PySem.Heap.get?_update_ne
abbrev xO:=@PySem.wpAny_seqItems
abbrev xP:=@List.Perm.refl
abbrev xQ:=@List.all_eq_true
abbrev xR:=@Array.getElem?_eq_none
abbrev xS:=@PyProof.Rows.assignInOrder_cons
abbrev xT:=@List.ext_getElem?
abbrev xU:=@List.flatMap_cons
abbrev xV:=@PySem.wpAny_passesOwn
abbrev xW:=@List.map_nil
abbrev xX:=@PySem.wpAny_truthy_bool
abbrev xY:=@List.length_nil
abbrev xZ:=@List.drop_eq_getElem_cons
abbrev yA:=@PySem.Calls.call_function_entry
abbrev yB:=@Nat.pow_le_pow_right
abbrev yC:=@PySem.Heap.size_push
abbrev yD:=@List.replicate_succ
abbrev yE:=@PySem.wpAny_typeNameOf_keyiter
abbrev yF:=@List.pairwise_map
abbrev yG:=@PySem.mem_of_lookup
abbrev yH:=@Int.toNat_of_nonneg
abbrev yI:=@List.getElem?_replicate
abbrev yJ:=@List.getElem?_cons_zero
abbrev yK:=@List.filter_cons_of_pos
abbrev yL:=@List.map_singleton
abbrev yM:=@PySem.wpAny_Call_Name_kw
abbrev yN:=@PySem.tupleKind_room_in1
abbrev yO:=@List.length_eq_zero_iff
abbrev yP:=@PyProof.Rows.get?_update_seq
abbrev yQ:=@congrArg
abbrev yR:=@PyProof.Rows.subscriptTail_builtinR
abbrev yS:=@List.getElem?_set_self
abbrev yT:=@PySem.wpAny_sequenceKey
abbrev yU:=@PySem.wpAny_pyIter_list
abbrev yV:=@decide_eq_true_eq
abbrev yW:=@Bool.false_and
abbrev yX:=@PySem.F.slot_enumerate_next
noncomputable section
local macro_rules | `(tactic| walk_at "o") => `(tactic| first | lia | omega)
namespace L2
open PySem PySem.Spec PyProof.Rows
abbrev Key:=Sum Int Str
def keyIs:Key->Value->Bool
 | .inl k,v=>Value.isInt k v
 | .inr x,v=>Value.isStrOf x v
def keyH (w:World):Key->Int
 | .inl k=>hashInt k
 | .inr x=>hashStr w x
theorem w5:∀{k:Key} {v:Value},keyIs k v=true->(∃i t,k=Sum.inl i/\v=Value.int i t)\/(∃x t,k=Sum.inr x/\v=Value.str x t)
 | .inl i,v,h=>by
  obtain⟨t,e⟩:=Value.isInt_shape (k:=i) (v:=v) h;exact .inl ⟨i,t,rfl,e⟩
 | .inr x,v,h=>by
  obtain⟨t,e⟩:=Value.isStrOf_shape (x:=x) (v:=v) h;exact .inr ⟨x,t,rfl,e⟩
theorem a8u (i:Int)(t:Tok):keyIs (.inl i) (.int i t)=true:=by simp[keyIs,Value.isInt]
theorem a8h (x:Str)(t:Tok):keyIs (.inr x) (.str x t)=true:=by simp[keyIs,Value.isStrOf]
theorem b32 (a b:Int):decide ((Sum.inl a:Key)=Sum.inl b)=(a==b):=by
 by_cases e:a=b
 ·subst e;simp
 ·have h:¬(Sum.inl a:Key)=Sum.inl b:=fun q=>e (Sum.inl.inj q);rw[qK h];exact(beq_eq_false_iff_ne.mpr e).symm
theorem b34 (a b:Str):decide ((Sum.inr a:Key)=Sum.inr b)=decide (a=b):=by
 by_cases e:a=b
 ·subst e;simp
 ·have h:¬(Sum.inr a:Key)=Sum.inr b:=fun q=>e (Sum.inr.inj q);rw[qK h,qK e]
theorem b4A (a:Int)(b:Str):decide ((Sum.inl a:Key)=Sum.inr b)=false:=qK (fun q=>nomatch q)
theorem b3V (a:Str)(b:Int):decide ((Sum.inr a:Key)=Sum.inl b)=false:=qK (fun q=>nomatch q)
def mixKind (prog:Program) (w:World):PySem.KeyKind prog w Key where
 is:=keyIs
 hash:=keyH w
 inj:=fun v a b ha hb=>by
  rcases w5 ha with ⟨i,t,rfl,rfl⟩|⟨x,t,rfl,rfl⟩
  ·rcases w5 hb with ⟨j,u,rfl,e⟩|⟨y,u,rfl,e⟩
   ·injection e with e1 _;rw[e1]
   ·exact nomatch e
  ·rcases w5 hb with ⟨j,u,rfl,e⟩|⟨y,u,rfl,e⟩
   ·exact nomatch e
   ·injection e with e1 _;rw[e1]
 byValue:=fun k v h=>by
  rcases w5 h with ⟨i,t,rfl,rfl⟩|⟨x,t,rfl,rfl⟩<;>rfl
 pyHash:=fun hv h=>by
  rcases w5 hv with ⟨i,t,rfl,rfl⟩|⟨x,t,rfl,rfl⟩
  ·exact wpAny_pyHash_int h
  ·exact wpAny_pyHash_str h
 eqBool:=fun hu hv h=>by
  rcases w5 hu with ⟨i,t,rfl,rfl⟩|⟨x,t,rfl,rfl⟩
  ·rcases w5 hv with ⟨j,u,rfl,rfl⟩|⟨y,u,rfl,rfl⟩
   ·rw[b32] at h;exact wpAny_eqBool_int h
   ·rw[b4A] at h;exact SeqAt.EqAt.int_str i t y u _ _ _ _ h
  ·rcases w5 hv with ⟨j,u,rfl,rfl⟩|⟨y,u,rfl,rfl⟩
   ·rw[b3V] at h;exact SeqAt.EqAt.str_int x t j u _ _ _ _ h
   ·rw[b34] at h;exact wpAny_eqBool_str h
 «strs»:=fun k x t v h=>by
  rcases w5 h with ⟨i,u,rfl,e⟩|⟨y,u,rfl,e⟩
  ·exact nomatch e
  ·injection e with e1 _
   subst e1;cases v<;>rfl
theorem a4Y (prog:Program)(w:World)(i:Int)(t:Tok):(mixKind prog w).is (.inl i) (.int i t)=true:=a8u i t
theorem a5g (prog:Program)(w:World)(x:Str)(t:Tok):(mixKind prog w).is (.inr x) (.str x t)=true:=a8h x t
inductive V where
 | non|bl (b:Bool)|int (i:Int)|str (x:Str)|byt (b:Array UInt8)|flt (b:UInt64)|ref (a:Addr)|ty (n:String)
def RelV:V->Value->Prop
 | .non,u=>u=Value.none
 | .bl b,u=>u=Value.bool b
 | .int i,u=>∃t,u=Value.int i t
 | .str x,u=>∃t,u=Value.str x t
 | .byt b,u=>∃t,u=Value.bytes b t
 | .flt b,u=>∃t,u=Value.float b t
 | .ref a,u=>u=Value.ref a
 | .ty n,u=>u=Value.type n
abbrev Vals:List V->List Value->Prop:=Paired RelV
theorem Vals.length {xs:List V}{us:List Value}(r:Vals xs us):xs.length=us.length:=xJ r
theorem Vals.get:∀{xs:List V} {us:List Value} {i:Nat} {x:V},Vals xs us->xs[i]? =some x->∃u,us[i]? =some u/\RelV x u
 | _,_,_,_,.nil,e=>by simp at e
 | _,_,0,_,.cons r _,e=>by simp at e;subst e;exact⟨_,rfl,r⟩
 | _,_,i+1,x,.cons _ t,e=>by
  obtain⟨u,h1,h2⟩:=Vals.get (i:=i) (x:=x) t (by simpa using e)
  exact⟨u,by simpa using h1,h2⟩
theorem Vals.set {x:V}{u:Value}(r:RelV x u):∀{xs:List V} {us:List Value} (i:Nat),Vals xs us->Vals (xs.set i x) (us.set i u)
 | _,_,_,.nil=>.nil
 | _,_,0,.cons _ t=>.cons r t
 | _,_,i+1,.cons q t=>.cons q (Vals.set r i t)
theorem Vals.append:∀{xs ys:List V} {us ws:List Value},Vals xs us->Vals ys ws->Vals (xs++ys) (us++ws)
 | _,_,_,_,.nil,s=>s
 | _,_,_,_,.cons r t,s=>.cons r (Vals.append t s)
theorem Vals.take:∀{xs:List V} {us:List Value} (n:Nat),Vals xs us->Vals (xs.take n) (us.take n)
 | _,_,0,_=>.nil
 | _,_,_+1,.nil=>.nil
 | _,_,n+1,.cons r t=>.cons r (Vals.take n t)
theorem Vals.drop:∀{xs:List V} {us:List Value} (n:Nat),Vals xs us->Vals (xs.drop n) (us.drop n)
 | _,_,0,r=>r
 | _,_,_+1,.nil=>.nil
 | _,_,n+1,.cons _ t=>Vals.drop n t
def RelO:Option V->Option Value->Prop
 | some v,some u=>RelV v u
 | none,none=>True
 | _,_=>False
def KV {κ:Type}:List (κ×V)->List (κ×Value)->Prop:=Paired fun(p:κ×V) (q:κ×Value)=>p.1=q.1/\RelV p.2 q.2
def kV:Key->V
 | .inl i=>.int i
 | .inr x=>.str x
inductive HO where
 | lst (xs:List V)
 | tup (xs:List V)
 | dK (kvs:List (Key×V))|dT (kvs:List (List Key×V))
 | set (S:Int->Bool) (n:Nat)
 | ins (C dx:Addr) (fs:List (Str×V))
 | own (x:Addr)
 | xd (fs:List (Str×V))
 | met (f x:Addr)
 | rng (lo hi:Int)
 | frz (o:Obj) (u:HO)
 | tbl (ps:Array Value)
 | ext (φ:Heap->Prop)
abbrev Hp:=Addr->Option HO
def upd (H:Hp) (a:Addr) (o:HO):Hp:=fun b=>if b=a then some o else H b
theorem p9 {H:Hp}{a:Addr}{o:HO}:upd H a o a=some o:=by unfold upd;rw[if_pos rfl]
theorem g8 {H:Hp}{a b:Addr}{o:HO}(h:b≠a):upd H a o b=H b:=by unfold upd;rw[if_neg h]
theorem b2U {H:Hp}{a b:Addr}{o u:HO}(h:H a=some o)(h':H b=some u)(d:o≠u):a≠b:=by
 intro e;subst e;rw[h] at h';exact d (qV h')
theorem m4 {H:Hp}{a b:Addr}{o:HO}(h:H a=some o)(h':H b=none):a≠b:=by
 intro e;subst e;rw[h] at h';cases h'
def TupN (h:Heap) (a:Addr) (its:Array Value):Prop:=∃o,h.get? a=some o/\o.cls= .type "tuple"/\(∃n,o.data= .seq its n)/\o.dict=none
theorem TupN.is {h:Heap}{a:Addr}{its:Array Value}(x:TupN h a its):IsTup h a its:=let ⟨o,e,c,d,_⟩:=x;⟨o,e,c,d⟩
theorem TupN.new (h:Heap)(its:Array Value):TupN (h.push {cls:=.type "tuple",data:=.seq its}) h.objs.size its:=⟨_,zS _ rfl,rfl,⟨_,rfl⟩,rfl⟩
section
variable (P:Program)(w:World)
def ObjOk (H:Hp) (h:Heap) (a:Addr):HO->Prop
 | .lst xs=>xs.length<=sizeLine/\∃(its:List Value) (n:Nat),Vals xs its/\h.get? a=some {cls:=.type "list",data:=.seq its.toArray n}
 | .tup xs=>xs.length<=sizeLine/\∃its:List Value,Vals xs its/\TupN h a its.toArray
 | .dK kvs=>kvs.length<=sizeLine/\(a==sysModules)=false/\∃vs,KV kvs vs/\h.DictAt (mixKind P w) a vs kvs.length
 | .dT kvs=>kvs.length<=sizeLine/\(a==sysModules)=false/\∃xs:List (List Key×Addr×Value),
   Paired (fun(p:List Key×V) (q:List Key×Addr×Value)=>p.1=q.1/\H q.2.1=some (.tup (p.1.map kV))/\RelV p.2 q.2.2) kvs xs/\
   ∃o es,h.get? a=some o/\o.ExactDict/\o.data= .dict es kvs.length/\es.toList=xs.map (entryOfKey (tupleKind (mixKind P w)))/\(xs.map (·.1)).Nodup
 | .set S n=>h.SetOf (intKind P w) a S n
 | .ins C dx fs=>H dx=some (.own a)/\fs.length<=1000/\dx≠a/\h.get? a=some (PySem.W.instObj C dx)/\
   ∃mA,h.Ns1 dx mA/\(∀f,RelO (fs.lookup f) (mA f))/\PySem.Within mA (fs.map (·.1))
 | .own _=>∃o,h.get? a=some o
 | .xd fs=>∃mA,h.Ns1 a mA/\∀f,RelO (fs.lookup f) (mA f)
 | .rng lo hi=>∃t u v,h.get? a=some {cls:=.type "range",data:=.fields #[.int lo t,.int hi u,.int 1 v]}
 | .frz o u=>h.get? a=some o/\ObjOk H h a u
 | .tbl ps=>h.get? a=some {cls:=.none,data:=.fields ps}
 | .met f x=>h.get? a=some (PySem.W.methodObj (.ref f) (.ref x))
 | .ext φ=>φ h/\(∃o,h.get? a=some o)/\∀h1 h2:Heap,φ h1->(∀o,h1.get? a=some o->h2.get? a=some o)->φ h2
def HOk (H:Hp) (h:Heap):Prop:=∀a o,H a=some o->ObjOk P w H h a o
end
section
variable {P:Program}{w:World}{H H':Hp}{h h':Heap}{a:Addr}{o:HO}
theorem ObjOk.lt (x:ObjOk P w H h a o):a<h.objs.size:=by
 cases o with
 | lst xs=>obtain⟨_,_,_,_,e⟩:=x;exact zW e
 | tup xs=>obtain⟨_,_,_,p⟩:=x;exact p.is.lt
 | dK kvs=>obtain⟨_,_,_,_,o,_,e,_⟩:=x;exact zW e
 | dT kvs=>obtain⟨_,_,_,_,o,_,e,_⟩:=x;exact zW e
 | set S n=>obtain⟨o,_,_,_,e,_⟩:=x;exact zW e
 | ins C dx fs=>obtain⟨_,_,_,e,_⟩:=x;exact zW e
 | own y=>obtain⟨_,e⟩:=x;exact zW e
 | xd fs=>obtain⟨_,⟨_,_,_,e,_⟩,_⟩:=x;exact zW e
 | rng lo hi=>obtain⟨_,_,_,e⟩:=x;exact zW e
 | frz ob u=>obtain⟨e,_⟩:=x;exact zW e
 | tbl ps=>exact zW (show h.get? a=some _ from x)
 | met f y=>exact zW (show h.get? a=some _ from x)
 | ext φ=>obtain⟨_,⟨_,e⟩,_⟩:=x;exact zW e
theorem Paired.mapP {α β:Type}{F G:α->β->Prop}:∀{l₁:List α} {l₂:List β},Paired F l₁ l₂->(∀a b,F a b->G a b)->Paired G l₁ l₂
 | _,_,.nil,_=>.nil
 | _,_,.cons r t,f=>.cons (f _ _ r) (Paired.mapP t f)
theorem ObjOk.stay (x:ObjOk P w H h a o)(k:∀b u,(b=a\/H b=some (.own a))->h.get? b=some u->h'.get? b=some u)
  (ho:∀b,H b=some (.own a)->H' b=some (.own a)) (ht:∀b xs,H b=some (.tup xs)->H' b=some (.tup xs)):ObjOk P w H' h' a o:=by
 induction o with
 | lst xs=>obtain⟨z,its,n,r,e⟩:=x;exact⟨z,its,n,r,k _ _ (.inl rfl) e⟩
 | tup xs=>obtain⟨z,its,r,ob,e,c⟩:=x;exact⟨z,its,r,ob,k _ _ (.inl rfl) e,c⟩
 | dK kvs=>obtain⟨z,y,vs,r,ob,es,e,c⟩:=x;exact⟨z,y,vs,r,ob,es,k _ _ (.inl rfl) e,c⟩
 | dT kvs=>
  obtain⟨z,y,xs,r,ob,es,e,c⟩:=x;exact⟨z,y,xs,Paired.mapP r fun p q z=>⟨z.1,ht _ _ z.2.1,z.2.2⟩,ob,es,k _ _ (.inl rfl) e,c⟩
 | set S n=>obtain⟨ob,es,ep,t,e,c⟩:=x;exact⟨ob,es,ep,t,k _ _ (.inl rfl) e,c⟩
 | ins C dx fs=>
  obtain⟨d,z,ne,e,mA,⟨od,es,ep,e2,c⟩,r⟩:=x;exact⟨ho _ d,z,ne,k _ _ (.inl rfl) e,mA,⟨od,es,ep,k _ _ (.inr d) e2,c⟩,r⟩
 | own y=>obtain⟨ob,e⟩:=x;exact⟨ob,k _ _ (.inl rfl) e⟩
 | xd fs=>obtain⟨mA,⟨od,es,ep,e,c⟩,r⟩:=x;exact⟨mA,⟨od,es,ep,k _ _ (.inl rfl) e,c⟩,r⟩
 | rng lo hi=>obtain⟨t,u,v,e⟩:=x;exact⟨t,u,v,k _ _ (.inl rfl) e⟩
 | frz ob u ih=>obtain⟨e,q⟩:=x;exact⟨k _ _ (.inl rfl) e,ih q⟩
 | tbl ps=>
  have e:h.get? a=some {cls:=.none,data:=.fields ps}:=x;show h'.get? a=some {cls:=.none,data:=.fields ps};exact k a _ (.inl rfl) e
 | met f y=>
  have e:h.get? a=some (PySem.W.methodObj (.ref f) (.ref y)):=x;show h'.get? a=some (PySem.W.methodObj (.ref f) (.ref y));exact k a _ (.inl rfl) e
 | ext φ=>obtain⟨p,⟨o,e⟩,st⟩:=x;exact⟨st _ _ p fun o q=>k _ _ (.inl rfl) q,⟨o,k _ _ (.inl rfl) e⟩,st⟩
theorem HOk.lt (x:HOk P w H h)(e:H a=some o):a<h.objs.size:=(x a o e).lt
theorem HOk.fresh (x:HOk P w H h)(e:h.objs.size<=a):H a=none:=by
 cases q:H a with
 | none=>rfl
 | some u=>exact absurd (zK (x.lt q) e) (jD _)
theorem HOk.kept (x:HOk P w H h)(k:∀b u,h.get? b=some u->h'.get? b=some u):HOk P w H h':=fun a o e=>
 (x a o e).stay (fun b u _ q=>k b u q) (fun _ q=>q) fun _ _ q=>q
theorem HOk.laid (x:HOk P w H h)(k:∀b u,h.get? b=some u->h'.get? b=some u)(hp:h.objs.size<=a)(new:ObjOk P w (upd H a o) h' a o):HOk P w (upd H a o) h':=fun b u e=>by
 have hn:=x.fresh hp
 by_cases hb:b=a
 ·subst hb;rw[p9] at e;cases e;exact new
 ·rw[g8 hb] at e;exact(x b u e).stay (fun c v _ q=>k c v q) (fun c q=>by rw[g8 (m4 q hn)];exact q) fun c xs q=>by rw[g8 (m4 q hn)];exact q
end
def Rd (H:Hp) (a:Addr) (u:HO):Prop:=H a=some u\/∃o,H a=some (.frz o u)
theorem Rd.of {H:Hp}{a:Addr}{u:HO}(h:H a=some u):Rd H a u:=.inl h
theorem Rd.ok {P:Program}{w:World}{H:Hp}{h:Heap}{a:Addr}{u:HO}(r:Rd H a u)(x:HOk P w H h):ObjOk P w H h a u:=by
 rcases r with r|⟨o,r⟩
 ·exact x a u r
 ·obtain⟨_,q⟩:=x a _ r;exact q
def Mut:Option HO->Prop
 | some (.lst _)=>True
 | some (.dK _)=>True
 | some (.dT _)=>True
 | some (.set _ _)=>True
 | some (.ins _ _ _)=>True
 | some (.ext _)=>True
 | _=>False
section
variable {P:Program}{w:World}{H:Hp}{h h':Heap}{x e:Addr}{o':HO}
theorem HOk.write (ok:HOk P w H h)(mu:Mut (H x))(he:e=x\/H e=some (.own x))(k:∀b u,b≠e->h.get? b=some u->h'.get? b=some u)(heo:∃u,h'.get? e=some u)
  (new:ObjOk P w (upd H x o') h' x o'):HOk P w (upd H x o') h':=fun b u q=>by
 have nown:∀c y,H c=some (.own y)->c≠x:=fun c y r z=>by subst z;rw[r] at mu;exact mu
 have ntup:∀c xs,H c=some (.tup xs)->c≠x:=fun c xs r z=>by subst z;rw[r] at mu;exact mu
 by_cases hb:b=x
 ·subst hb;rw[p9] at q;cases q;exact new
 ·rw[g8 hb] at q
  by_cases hbe:b=e
  ·have q':H b=some (.own x):=by
    rcases he with z|z
    ·exact absurd (hbe.trans z) hb
    ·rw[hbe];exact z
   rw[q] at q';cases q';obtain⟨v,hv⟩:=heo;exact⟨v,by rw[hbe];exact hv⟩
  ·refine(ok b u q).stay (fun c v hc r=>k c v ?_ r) (fun c r=>by rw[g8 (nown c b r)];exact r) fun c xs r=>by rw[g8 (ntup c xs r)];exact r
   rcases hc with rfl|hc
   ·exact hbe
   ·rintro rfl;rcases he with z|z
    ·exact nown c b hc z
    ·rw[hc] at z;cases z;exact hb rfl
end
structure Un (fs ex:List Addr) (H H':Hp) (h h':Heap):Prop where
 keep:∀b o,h.get? b=some o->H b=none->b∉fs->b∉ex->h'.get? b=some o
 slot:∀b o,h.get? b=some o->H b=none->b∈fs->b∉ex->∃sl,h'.get? b=some {o with slots:=sl}
 free:∀b o,h.get? b=some o->H b=none->b∉ex->H' b=none
 there:∀b o,h.get? b=some o->b∉ex->∃o',h'.get? b=some o'
 tups:∀b xs,H b=some (.tup xs)->H' b=some (.tup xs)
 frzs:∀b o u,H b=some (.frz o u)->H' b=some (.frz o u)
 tbls:∀b ps,H b=some (.tbl ps)->∃more,H' b=some (.tbl (ps++more))
section
variable {fs ex:List Addr}{H H1:Hp}{h h1 h':Heap}{a x e:Addr}{o:HO}
theorem Un.any (u:Un fs ex H H1 h h1){b:Addr}{ob:Obj}(q:h.get? b=some ob)(n:H b=none)(hx:b∉ex):∃sl,h1.get? b=some {ob with slots:=sl}:=by
 by_cases hb:b∈fs
 ·exact u.slot b ob q n hb hx
 ·exact⟨ob.slots,u.keep b ob q n hb hx⟩
theorem Un.kept (k:∀b u,h.get? b=some u->h'.get? b=some u):Un fs ex H H h h':=
 ⟨fun b ob q _ _ _=>k b ob q,fun b ob q _ _ _=>⟨ob.slots,k b ob q⟩,fun _ _ _ n _=>n,fun b ob q _=>⟨ob,k b ob q⟩,fun _ _ q=>q,fun _ _ _ q=>q,fun _ ps q=>⟨#[],by rw[q];simp⟩⟩
theorem Un.refl:Un fs ex H H h h:=Un.kept fun _ _ q=>q
theorem Un.laid (k:∀b u,h.get? b=some u->h'.get? b=some u)(hp:h.objs.size<=a)(hn:H a=none):Un fs ex H (upd H a o) h h' where
 keep:=fun b u q _ _ _=>k b u q
 slot:=fun b u q _ _ _=>⟨u.slots,k b u q⟩
 free:=fun b u q n _=>by rw[g8 (zT (zK (zW q) hp))];exact n
 there:=fun b u q _=>⟨u,k b u q⟩
 tups:=fun b xs q=>by rw[g8 (m4 q hn)];exact q
 frzs:=fun b u xs q=>by rw[g8 (m4 q hn)];exact q
 tbls:=fun b ps q=>⟨#[],by rw[g8 (m4 q hn),q];simp⟩
theorem Un.write (mu:Mut (H x))(he:e=x\/H e=some (.own x))(k:∀b u,b≠e->h.get? b=some u->h'.get? b=some u)(heo:∃u,h'.get? e=some u):Un fs ex H (upd H x o) h h':=by
 have hx:∀b,H b=none->b≠x:=fun b n z=>by subst z;rw[n] at mu;exact mu
 have hb:∀b,H b=none->b≠e:=fun b n z=>by
  subst z;rcases he with r|r
  ·exact hx b n r
  ·rw[n] at r;cases r
 have hm:∀b u,H b=some u->¬Mut (some u)->b≠x:=fun b u q nm z=>by subst z;rw[q] at mu;exact nm mu
 refine⟨fun b u q n _ _=>k b u (hb b n) q,fun b u q n _ _=>⟨u.slots,k b u (hb b n) q⟩,fun b u q n _=>by rw[g8 (hx b n)];exact n,fun b u q _=>?_,
  fun b xs q=>by rw[g8 (hm b _ q fun z=>z)];exact q,fun b u xs q=>by rw[g8 (hm b _ q fun z=>z)];exact q,fun b ps q=>⟨#[],by rw[g8 (hm b _ q fun z=>z),q];simp⟩⟩
 by_cases hbe:b=e
 ·subst hbe;exact heo
 ·exact⟨u,k b u hbe q⟩
end
def trk (h:Heap) (H:Hp):List Addr:=(List.range h.objs.size).filter fun a=>(H a).isSome
def hidT (h:Heap) (H:Hp):Heap:=PySem.W.hideAll h (trk h H)
theorem a8z (h:Heap)(H:Hp):(hidT h H).objs.size=h.objs.size:=PySem.W.hideAll_size _ _
theorem b1p {h:Heap}{H:Hp}{b:Addr}{o:Obj}(e:h.get? b=some o)(n:H b=none):(hidT h H).get? b=some o:=
 PySem.W.hideAll_get _ e fun hm=>by
  have q:(H b).isSome=true:=(qW.mp hm).2;rw[n] at q;simp at q
theorem b18 {h:Heap}{H:Hp}{b:Addr}{o:Obj}(e:(hidT h H).get? b=some o):h.get? b=some o/\H b=none:=by
 have e':h.get? b=some o:=PySem.W.of_hideAll (trk h H) e;refine⟨e',?_⟩;cases q:H b with
 | none=>rfl
 | some x=>
  have hm:b∈trk h H:=qW.mpr ⟨jS.mpr (zW e'),by simp[q]⟩
  have z:(hidT h H).get? b=none:=PySem.W.hideAll_none (trk h H) hm;rw[z] at e;cases e
def allNews (g h:Heap) (L:Addr):List (Addr×Obj):=(List.range h.objs.size).filterMap fun a=>if a=L\/(g.get? a).isSome=true then none else(h.get? a).map fun o=>(a,o)
theorem a4X {g h:Heap}{L a:Addr}{o:Obj}(h1:a≠L)(h2:g.get? a=none)(h3:h.get? a=some o):(a,o)∈allNews g h L:=
 mem_filterMap.mpr ⟨a,jS.mpr (zW h3),by simp[h1,h2,h3]⟩
theorem a2e {g h:Heap}{L:Addr}{p:Addr×Obj}(hp:p∈allNews g h L):p.1≠L/\g.get? p.1=none/\h.get? p.1=some p.2:=by
 obtain⟨b,_,e⟩:=mem_filterMap.mp hp;split at e
 ·cases e
 ·rename_i hn;cases q:h.get? b with
  | none=>rw[q] at e;simp at e
  | some u=>
   rw[q] at e;simp only[jF,Option.some.injEq] at e;subst e;refine⟨fun z=>hn (.inl z),?_,q⟩;show g.get? b=none;cases r:g.get? b with
   | none=>rfl
   | some v=>exact(hn (.inr (by simp[r]))).elim
def rest (g h:Heap) (L d:Addr):List (Addr×Obj):=(allNews g h L).filter fun p=>decide (p.1≠d)
theorem a7G {g h:Heap}{L d:Addr}:∀p∈rest g h L d,p.1≠d:=fun p hp=>xI (qW.mp hp).2
theorem a9B {g h:Heap}{L d a:Addr}{o:Obj}(h1:a≠L)(h2:g.get? a=none)(h3:h.get? a=some o)(h4:a≠d):(a,o)∈rest g h L d:=
 qW.mpr ⟨a4X h1 h2 h3,qL h4⟩
theorem a9D {g h:Heap}{L:Addr}:News g L h (allNews g h L):=fun p hp=>let ⟨a,b,c⟩:=a2e hp;⟨c,a,b⟩
theorem b1M {g h:Heap}{L d:Addr}{o:Obj}(h1:d≠L)(h2:g.get? d=none)(h3:h.get? d=some o):News g L h ((d,o)::rest g h L d):=fun p hp=>by
 rcases zX.mp hp with rfl|hp
 ·exact⟨h3,h1,h2⟩
 ·exact a9D p (qW.mp hp).1
theorem a31 {g h h':Heap}{L d:Addr}{m:Str->Option Value}(k:∀b o,g.get? b=some o->h.get? b=some o)(F:Fr g L h' m)(N:News g L h' (rest g h L d)):
  ∀b o,b≠L->b≠d->h.get? b=some o->h'.get? b=some o:=fun b o h1 h2 e=>by
 cases q:g.get? b with
 | some u=>
  have:=k b u q
  rw[e] at this;cases this;exact F.keep b _ q
 | none=>exact(N (b,o) (a9B h1 q e h2)).1
structure Mod (K:PySem.W.Frag) (mg:Str->Option Value) (base:Heap):Prop where
 kin:K.In base
 glob:base.Ns mainGlobals mg
 blt:∃mb,base.Ns builtinsNs mb/\∀x:Str,x≠"__name__"->mb x=bootBuiltins x
 nolimit:base.NoLimit
structure Cx where
 prog:Program
 w:World
 K:PySem.W.Frag
 mg:Str->Option Value
 base:Heap
 A:Around
 N:List Str
 s₀:Shared
 H₀:Hp
 env:Env
 outer:List Env
 stack:List Env
 ex:List Addr
 fn:Str->Bool
 calm:Bool
 pn:List (Addr×Obj)
 xe:Value->Shared->Prop
def frs (l:List Env):List Addr:=l.filterMap (·.frame)
abbrev Cx.fs (X:Cx):List Addr:=frs X.outer
def Vis (sc:Scope) (x:Str):Prop:=sc.names.lookup x=some .local\/sc.names.lookup x=some .cell\/sc.names.lookup x=some .free
def Loc (sc:Scope) (x:Str):Prop:=sc.names.lookup x=some .local\/sc.names.lookup x=some .cell
def Look (env:Env) (h:Heap) (m:Str->Option Value) (x:Str) (u:Value):Prop:=
 (env.kindOf x=some .local/\m x=some u)\/((env.kindOf x=some .cell\/env.kindOf x=some .free)/\∃c,env.cells.lookup x=some c/\h.IsCell c (some u))
structure Cx.Ok (X:Cx):Prop where
 mod:Mod X.K X.mg X.base
 kind:X.env.scope.kind= .function
 glob:X.env.globals=mainGlobals
 blt:X.env.builtins=builtinsNs
 above:X.s₀.heap.objs.size<=X.env.locals
 inj:∀x y c,X.env.cells.lookup x=some c->X.env.cells.lookup y=some c->x=y
 has:∀x,(X.env.kindOf x=some .cell\/X.env.kindOf x=some .free)->∃c,X.env.cells.lookup x=some c
 cab:∀x c,X.fn x=true->X.env.cells.lookup x=some c->X.s₀.heap.objs.size<=c
 hd:X.calm=true->X.A.handled=none
 frames:X.A.frames=some X.stack
 stk:X.stack=X.outer\/(X.stack=X.env::X.outer/\X.env.frame=some X.env.locals)
 exf:∀b∈X.ex,b≠X.env.locals/\∀x c,X.env.cells.lookup x=some c->c≠b
 bs:∀b o,X.base.get? b=some o->X.s₀.heap.get? b=some o/\X.H₀ b=none
 bsz:X.base.objs.size<=X.s₀.heap.objs.size
 noex:∀b o,X.base.get? b=some o->b∉X.ex
 exfs:∀b∈X.ex,b∉X.fs
 funs:X.s₀.heap.FunFrames X.base X.outer
 frf:∀b∈X.fs,X.H₀ b=none
structure Inv (X:Cx) (pins:List (Addr×Obj)) (σ:List (Option V)) (H:Hp) (s:Shared):Prop where
 ok:X.Ok
 os:s.os=X.s₀.os
 bare:AllBare s.gens
 base:Un X.fs X.ex X.H₀ H X.s₀.heap s.heap
 loc:∃m,s.heap.Ns X.env.locals m/\∀(i:Nat) (x:Str) (v:V),X.N[i]? =some x->σ[i]? =some (some v)->Vis X.env.scope x->∃u,RelV v u/\Look X.env s.heap m x u
 cell:∀x c,X.env.cells.lookup x=some c->∃v,s.heap.IsCell c v
 free:H X.env.locals=none
 freeC:∀x c,X.env.cells.lookup x=some c->H c=none
 pin:∀p∈X.pn++pins,s.heap.get? p.1=some p.2/\H p.1=none/\p.1≠X.env.locals/\p.1∉X.fs/\∀v,p.2.data≠.cell v
 hok:HOk X.prog X.w H s.heap
 len:σ.length=X.N.length
section
variable {X:Cx}{pins:List (Addr×Obj)}{σ:List (Option V)}{H H':Hp}{s:Shared}{h':Heap}
theorem Cx.Ok.nofr (ok:X.Ok){b:Addr}{o:Obj}(e:X.base.get? b=some o):b∉X.fs:=fun hb=>by
 have:=(ok.funs.mem hb).1
 rw[e] at this;cases this
theorem Inv.bs (I:Inv X pins σ H s):∀b o,X.base.get? b=some o->s.heap.get? b=some o/\H b=none:=fun b o e=>
 ⟨I.base.keep b o (I.ok.bs b o e).1 (I.ok.bs b o e).2 (I.ok.nofr e) (I.ok.noex b o e),I.base.free b o (I.ok.bs b o e).1 (I.ok.bs b o e).2 (I.ok.noex b o e)⟩
theorem Inv.bk (I:Inv X pins σ H s):∀b o,X.base.get? b=some o->s.heap.get? b=some o:=fun b o e=>(I.bs b o e).1
theorem Inv.mod (I:Inv X pins σ H s):Mod X.K X.mg X.base:=I.ok.mod
theorem Inv.kIn (I:Inv X pins σ H s):X.K.In s.heap:=I.ok.mod.kin.keeps I.bk
theorem Inv.fr (I:Inv X pins σ H s):∃m,Fr X.base X.env.locals s.heap m:=
 let ⟨m,hn,_⟩:=I.loc
 ⟨m,hn,I.bk,qC I.ok.bsz I.ok.above⟩
theorem Inv.lt (I:Inv X pins σ H s):X.env.locals<s.heap.objs.size:=let ⟨_,hn,_⟩:=I.loc;hn.lt
theorem Inv.sz (I:Inv X pins σ H s):X.s₀.heap.objs.size<=s.heap.objs.size:=qC I.ok.above (Nat.le_of_lt I.lt)
theorem Inv.nofs (I:Inv X pins σ H s){a:Addr}(h:s.heap.objs.size<=a):a∉X.fs:=fun hb=>by
 obtain⟨_,o,ho,_⟩:=I.ok.funs.mem hb;exact absurd (zK (zW ho) (qC I.sz h)) (jD _)
theorem Inv.cne (I:Inv X pins σ H s):∀x c,X.env.cells.lookup x=some c->c≠X.env.locals:=fun x c e z=>by
 obtain⟨v,o,ho,hd⟩:=I.cell x c e;obtain⟨m,⟨o',es,ep,ho',hd',_⟩,_⟩:=I.loc;rw[z,ho'] at ho;cases ho;rw[hd'] at hd;cases hd
theorem Inv.funs (I:Inv X pins σ H s):s.heap.FunFrames X.base X.outer:=by
 have all:∀(l:List Env),(∀b∈frs l,b∈X.fs)->X.s₀.heap.FunFrames X.base l->s.heap.FunFrames X.base l:=by
  intro l
  induction l with
  | nil=>intro _ _;trivial
  | cons env r ih=>
   intro hs hl;obtain⟨hk,⟨L,o,hf,hn,ho,hd⟩,hr⟩:=hl;have hL:L∈X.fs:=hs L (by unfold frs;rw[filterMap_cons,hf];exact zJ)
   obtain⟨sl,e⟩:=I.base.slot L o ho (I.ok.frf L hL) hL fun z=>I.ok.exfs L z hL;exact⟨hk,⟨L,_,hf,hn,e,hd⟩,ih (fun b hb=>hs b (by unfold frs;rw[filterMap_cons,hf];exact zI _ hb)) hr⟩
 exact all X.outer (fun _ hb=>hb) I.ok.funs
theorem Inv.stack (I:Inv X pins σ H s):s.heap.FunFrames X.base X.stack:=by
 rcases I.ok.stk with e|⟨e,hf⟩
 ·rw[e];exact I.funs
 ·rw[e];obtain⟨m,hn,_⟩:=I.loc;refine .cons (by rw[I.ok.kind];decide) hf hn ?_ I.funs
  exact Heap.get?_none_of_le (qC I.ok.bsz I.ok.above)
theorem Inv.stkSub (I:Inv X pins σ H s):∀b∈frs X.stack,b∈X.env.locals::X.fs:=fun b hb=>by
 rcases I.ok.stk with e|⟨e,hf⟩
 ·rw[e] at hb;exact zI _ hb
 ·rw[e] at hb;unfold frs at hb;rw[filterMap_cons,hf] at hb;exact hb
theorem Inv.stkFree (I:Inv X pins σ H s):∀b∈frs X.stack,H b=none:=fun b hb=>by
 rcases zX.mp (I.stkSub b hb) with e|hb
 ·rw[e];exact I.free
 ·obtain⟨_,o,ho,_⟩:=I.ok.funs.mem hb;exact I.base.free b o ho (I.ok.frf b hb) fun z=>I.ok.exfs b z hb
theorem Inv.step {g':Array GenState}{t':Nat}{d':Drawn}{ch:List Addr}(I:Inv X pins σ H s)
  (hch:∀b∈ch,(b∈X.ex\/X.s₀.heap.objs.size<=b)/\b≠X.env.locals/\(∀x c,X.env.cells.lookup x=some c->c≠b)/\∀p∈X.pn++pins,p.1≠b)
  (keep:∀b o,b≠X.env.locals->b∉X.fs->b∉ch->s.heap.get? b=some o->H b=none->h'.get? b=some o)
  (slot:∀b o,b≠X.env.locals->b∈X.fs->b∉ch->s.heap.get? b=some o->H b=none->∃sl,h'.get? b=some {o with slots:=sl}) (free:∀b o,b∉ch->s.heap.get? b=some o->H b=none->H' b=none)
  (there:∀b o,b∉ch->s.heap.get? b=some o->∃o',h'.get? b=some o')
  (tups:∀b xs,H b=some (.tup xs)->H' b=some (.tup xs)) (frzs:∀b o u,H b=some (.frz o u)->H' b=some (.frz o u)) (tbls:∀b ps,H b=some (.tbl ps)->∃more,H' b=some (.tbl (ps++more)))
  (ns:∀m,s.heap.Ns X.env.locals m->h'.Ns X.env.locals m) (hok:HOk X.prog X.w H' h') (hg:AllBare g'):
  Inv X pins σ H' {s with heap:=h',gens:=g',drawn:=d',toks:=t'}:=by
 have neL:∀b o,X.s₀.heap.get? b=some o->b≠X.env.locals:=fun b o e=>zT (zK (zW e) I.ok.above);have neC:∀b o,X.s₀.heap.get? b=some o->b∉X.ex->b∉ch:=fun b o e hx hb=>by
  rcases(hch b hb).1 with z|z
  ·exact hx z
  ·exact absurd (zK (zW e) z) (jD _)
 have cellK:∀x c,X.env.cells.lookup x=some c->∀v,s.heap.IsCell c v->h'.IsCell c v:=fun x c e v ⟨o,ho,hd⟩=>by
  have nch:c∉ch:=fun z=>(hch c z).2.2.1 x c e rfl
  by_cases hc:c∈X.fs
  ·obtain⟨sl,q⟩:=slot c o (I.cne x c e) hc nch ho (I.freeC x c e);exact⟨_,q,hd⟩
  ·exact⟨o,keep c o (I.cne x c e) hc nch ho (I.freeC x c e),hd⟩
 refine⟨I.ok,I.os,hg,⟨fun b o e n hb hx=>?_,fun b o e n hb hx=>?_,fun b o e n hx=>?_,fun b o e hx=>?_,fun b xs e=>tups b xs (I.base.tups b xs e),fun b o xs e=>frzs b o xs (I.base.frzs b o xs e),fun b ps e=>?_⟩,?_,fun x c e=>?_,?_,fun x c e=>?_,fun p hp=>?_,hok,I.len⟩
 ·exact keep b o (neL b o e) hb (neC b o e hx) (I.base.keep b o e n hb hx) (I.base.free b o e n hx)
 ·obtain⟨sl,e1⟩:=I.base.slot b o e n hb hx;obtain⟨sl',e2⟩:=slot b _ (neL b o e) hb (neC b o e hx) e1 (I.base.free b o e n hx);exact⟨sl',e2⟩
 ·obtain⟨o',e1⟩:=I.base.there b o e hx;exact free b o' (neC b o e hx) e1 (I.base.free b o e n hx)
 ·obtain⟨o',e1⟩:=I.base.there b o e hx;exact there b o' (neC b o e hx) e1
 ·obtain⟨m1,e1⟩:=I.base.tbls b ps e;obtain⟨m2,e2⟩:=tbls b _ e1;exact⟨m1++m2,by rw[e2,Array.append_assoc]⟩
 ·obtain⟨m,hn,hl⟩:=I.loc;refine⟨m,ns m hn,fun i x v e1 e2 e3=>?_⟩;obtain⟨u,r,l⟩:=hl i x v e1 e2 e3;refine⟨u,r,?_⟩;rcases l with l|⟨k,c,e,z⟩
  ·exact .inl l
  ·exact .inr ⟨k,c,e,cellK x c e _ z⟩
 ·obtain⟨v,z⟩:=I.cell x c e;exact⟨v,cellK x c e v z⟩
 ·obtain⟨m,⟨o,_,_,ho,_⟩,_⟩:=I.loc;exact free _ o (fun z=>(hch _ z).2.1 rfl) ho I.free
 ·obtain⟨v,o,ho,hd⟩:=I.cell x c e;exact free c o (fun z=>(hch c z).2.2.1 x c e rfl) ho (I.freeC x c e)
 ·obtain⟨e,n,ne,nf,d⟩:=I.pin p hp;have nch:p.1∉ch:=fun z=>(hch p.1 z).2.2.2 p hp rfl;exact⟨keep p.1 p.2 ne nf nch e n,free p.1 p.2 nch e n,ne,nf,d⟩
theorem Inv.un {t':Nat}(I:Inv X pins σ H s)(u:Un X.fs [] H H' s.heap h')(hok:HOk X.prog X.w H' h'):Inv X pins σ H' {s with heap:=h',toks:=t'}:=by
 obtain⟨m,⟨o,es,ep,ho,r⟩,_⟩:=id I.loc;obtain⟨sl,hL⟩:=u.any ho I.free (by simp)
 exact I.step (g':=s.gens) (d':=s.drawn) (ch:=[]) (fun _ z=>nomatch z) (fun b o _ hb _ e n=>u.keep b o e n hb (by simp)) (fun b o _ hb _ e n=>u.slot b o e n hb (by simp)) (fun b o _ e n=>u.free b o e n (by simp)) (fun b o _ e=>u.there b o e (by simp)) u.tups u.frzs u.tbls (fun m' hm=>by
  obtain⟨o',es',ep',ho',r'⟩:=hm;rw[ho] at ho';cases ho'
  exact⟨_,es',ep',hL,r'⟩) hok I.bare
theorem Inv.call {g':Array GenState}{t':Nat}{d':Drawn}{ch:List Addr}(I:Inv X pins σ H s)(u:Un (frs X.stack) ch H H' s.heap h')(hok:HOk X.prog X.w H' h')(hg:AllBare g')
  (hch:∀b∈ch,(b∈X.ex\/X.s₀.heap.objs.size<=b)/\b≠X.env.locals/\(∀x c,X.env.cells.lookup x=some c->c≠b)/\∀p∈X.pn++pins,p.1≠b):
  Inv X pins σ H' {s with heap:=h',gens:=g',drawn:=d',toks:=t'}:=by
 obtain⟨m,⟨o,es,ep,ho,r⟩,_⟩:=id I.loc;obtain⟨sl,hL⟩:=u.any ho I.free fun z=>(hch _ z).2.1 rfl
 exact I.step (ch:=ch) hch (fun b o hL hb hc e n=>u.keep b o e n (fun z=>(zX.mp (I.stkSub b z)).elim hL hb) hc) (fun b o _ _ hc e n=>u.any e n hc) (fun b o hc e n=>u.free b o e n hc) (fun b o hc e=>u.there b o e hc) u.tups u.frzs u.tbls (fun m' hm=>by
  obtain⟨o',es',ep',ho',r'⟩:=hm;rw[ho] at ho';cases ho'
  exact⟨_,es',ep',hL,r'⟩) hok hg
theorem Inv.turned {t':Nat}{it:Addr}(I:Inv X pins σ H s)(k:∀b o,b≠it->s.heap.get? b=some o->h'.get? b=some o)(hn:H it=none)(hL:it≠X.env.locals)
  (h1:it∈X.ex\/X.s₀.heap.objs.size<=it) (h2:∀x c,X.env.cells.lookup x=some c->c≠it) (h3:∀p∈X.pn++pins,p.1≠it):Inv X pins σ H {s with heap:=h',toks:=t'}:=by
 have nit:∀b u,H b=some u->b≠it:=fun b u e z=>by rw[z,hn] at e;cases e
 refine I.step (g':=s.gens) (d':=s.drawn) (ch:=[it]) (fun b hb=>?_) (fun b o _ _ hc e _=>k b o (fun z=>hc (by simp[z])) e) (fun b o _ _ hc e _=>⟨o.slots,k b o (fun z=>hc (by simp[z])) e⟩) (fun _ _ _ _ n=>n)
  (fun b o hc e=>⟨o,k b o (fun z=>hc (by simp[z])) e⟩) (fun _ _ e=>e) (fun _ _ _ e=>e) (fun b ps e=>⟨#[],by rw[e];simp⟩) (fun m hm=>?_) (fun b u e=>?_) I.bare
 ·have e:b=it:=by simpa using hb
  subst e;exact⟨h1,hL,h2,h3⟩
 ·obtain⟨o,es,ep,ho,r⟩:=hm;exact⟨o,es,ep,k _ o (qT hL) ho,r⟩
 ·refine(I.hok b u e).stay (fun c v hc q=>k c v ?_ q) (fun _ q=>q) fun _ _ q=>q;rcases hc with z|z
  ·rw[z];exact nit b u e
  ·exact nit c _ z
theorem Inv.tok (I:Inv X pins σ H s)(t:Nat):Inv X pins σ H {s with toks:=t}:=I.un (h':=s.heap) (t':=t) Un.refl I.hok
theorem Inv.kept {t':Nat}(I:Inv X pins σ H s)(k:∀b u,s.heap.get? b=some u->h'.get? b=some u):Inv X pins σ H {s with heap:=h',toks:=t'}:=I.un (Un.kept k) (I.hok.kept k)
theorem Inv.laid {a:Addr}{o:HO}{t':Nat}(I:Inv X pins σ H s)(k:∀b u,s.heap.get? b=some u->h'.get? b=some u)(hp:s.heap.objs.size<=a)(new:ObjOk X.prog X.w (upd H a o) h' a o):
  Inv X pins σ (upd H a o) {s with heap:=h',toks:=t'}:=I.un (Un.laid k hp (I.hok.fresh hp)) (I.hok.laid k hp new)
theorem Inv.write {x e:Addr}{o:HO}{t':Nat}(I:Inv X pins σ H s)(mu:Mut (H x))(he:e=x\/H e=some (.own x))(k:∀b u,b≠e->s.heap.get? b=some u->h'.get? b=some u)(heo:∃u,h'.get? e=some u)
  (new:ObjOk X.prog X.w (upd H x o) h' x o):Inv X pins σ (upd H x o) {s with heap:=h',toks:=t'}:=I.un (Un.write mu he k heo) (I.hok.write mu he k heo new)
theorem Inv.pins_of {pins':List (Addr×Obj)}(I:Inv X pins σ H s)(h:∀p∈pins',s.heap.get? p.1=some p.2/\H p.1=none/\p.1≠X.env.locals/\p.1∉X.fs/\∀v,p.2.data≠.cell v):Inv X pins' σ H s:=
 ⟨I.ok,I.os,I.bare,I.base,I.loc,I.cell,I.free,I.freeC,fun p hp=>(qG.mp hp).elim (fun z=>I.pin p (xC _ z)) (h p),I.hok,I.len⟩
theorem a45 {N:List Str}(hN:N.Nodup){i j:Nat}{x:Str}(a:N[i]? =some x)(b:N[j]? =some x):i=j:=by
 obtain⟨h1,e1⟩:=zG.mp a;obtain⟨h2,e2⟩:=zG.mp b;exact(List.getElem_inj hN).mp (e1.trans e2.symm)
theorem a8R {M:Model}{A:Around}{E:Value->Shared->Prop}{i:Nat}{x:Str}{v:V}{u:Value}{Q:Unit->Shared->Prop}(I:Inv X pins σ H s)(hN:X.N.Nodup)(hi:X.N[i]? =some x)(hx:Loc X.env.scope x)(r:RelV v u)
  (h:∀s',Inv X pins (σ.set i (some v)) H s'->(∃a,Heap.SameBut a s.heap s'.heap/\(a=X.env.locals\/X.env.cells.lookup x=some a))->Q () s') (hf:X.fn x=true\/X.env.scope.names.lookup x=some .local:=by first|exact .inl rfl|exact .inr rfl|assumption):wpAny M A (storeName X.env x u) Q E s:=by
 obtain⟨m,hn,hl⟩:=id I.loc;have hcls:(X.env.scope.kind == .class||(X.env.scope.kind == .module&&X.env.locals != X.env.globals))=false:=by rw[I.ok.kind];rfl
 have hiσ:i<σ.length:=by rw[I.len];exact(zG.mp hi).1
 have cne:=I.cne;have tracked:∀{a:Addr} {h':Heap},(∃o,s.heap.get? a=some o/\H a=none)->Heap.SameBut a s.heap h'->HOk X.prog X.w H h':=fun{a h'} ha hs b ob e=>by
  obtain⟨_,_,hfree⟩:=ha;refine(I.hok b ob e).stay (fun c w' hc q=>(hs.2 c ?_).trans q) (fun _ q=>q) fun _ _ q=>q;rintro rfl;rcases hc with rfl|hc
  ·rw[hfree] at e;cases e
  ·rw[hfree] at hc;cases hc
 rcases hx with hk|hk
 ·refine wpAny_storeName_local hk hn (fun h' hn' hs=>?_) hcls;obtain⟨oL,_,_,hoL,_⟩:=id hn;refine h _ ⟨I.ok,I.os,I.bare,⟨fun b o e n hb hx=>?_,fun b o e n hb hx=>?_,I.base.free,fun b o e hx=>?_,I.base.tups,I.base.frzs,I.base.tbls⟩,⟨_,hn',fun j y v' e1 e2 e3=>?_⟩,fun y c e=>?_,I.free,I.freeC,fun p hp=>?_,tracked ⟨oL,hoL,I.free⟩ hs,by simpa using I.len⟩ ⟨_,hs,.inl rfl⟩
  ·exact(hs.2 b (zT (zK (zW e) I.ok.above))).trans (I.base.keep b o e n hb hx)
  ·obtain⟨sl,e1⟩:=I.base.slot b o e n hb hx;exact⟨sl,(hs.2 b (zT (zK (zW e) I.ok.above))).trans e1⟩
  ·obtain⟨o',e1⟩:=I.base.there b o e hx;exact⟨o',(hs.2 b (zT (zK (zW e) I.ok.above))).trans e1⟩
  ·by_cases hj:j=i
   ·subst hj;rw[hi] at e1;cases e1;rw[yS hiσ] at e2;cases e2;exact⟨u,r,.inl ⟨hk,by simp⟩⟩
   ·rw[zR (qT hj)] at e2;obtain⟨u',r',q⟩:=hl j y v' e1 e2 e3;refine⟨u',r',?_⟩;rcases q with ⟨k,e⟩|⟨k,c,e,z⟩
    ·refine .inl ⟨k,?_⟩
     have:y≠x:=fun e=>hj (a45 hN e1 (e▸hi))
     simp[this,e]
    ·exact .inr ⟨k,c,e,z.sameBut hs (cne y c e)⟩
  ·obtain⟨w',z⟩:=I.cell y c e;exact⟨w',z.sameBut hs (cne y c e)⟩
  ·obtain⟨e,n,ne,nf,d⟩:=I.pin p hp;exact⟨(hs.2 p.1 ne).trans e,n,ne,nf,d⟩
 ·have hfn:X.fn x=true:=by
   rcases hf with z|z
   ·exact z
   ·rw[z] at hk;cases hk
  obtain⟨c,hc⟩:=I.ok.has x (.inl hk);obtain⟨w',z⟩:=I.cell x c hc;refine wpAny_storeName_cell I.ok.kind hk hc z (fun h' hc' hs=>?_);obtain⟨oc,hoc,hocd⟩:=id z;refine h {s with heap:=h'} ⟨I.ok,I.os,I.bare,⟨fun b o e n hb hx=>?_,fun b o e n hb hx=>?_,I.base.free,fun b o e hx=>?_,I.base.tups,I.base.frzs,I.base.tbls⟩,⟨m,hn.sameBut hs (qT (cne x c hc)),fun j y v' e1 e2 e3=>?_⟩,fun y c' e=>?_,I.free,I.freeC,fun p hp=>?_,tracked ⟨oc,hoc,I.freeC x c hc⟩ hs,by simpa using I.len⟩ ⟨c,hs,.inr hc⟩
  ·exact(hs.2 b (zT (zK (zW e) (I.ok.cab x c hfn hc)))).trans (I.base.keep b o e n hb hx)
  ·obtain⟨sl,e1⟩:=I.base.slot b o e n hb hx;exact⟨sl,(hs.2 b (zT (zK (zW e) (I.ok.cab x c hfn hc)))).trans e1⟩
  ·obtain⟨o',e1⟩:=I.base.there b o e hx;exact⟨o',(hs.2 b (zT (zK (zW e) (I.ok.cab x c hfn hc)))).trans e1⟩
  ·by_cases hj:j=i
   ·subst hj;rw[hi] at e1;cases e1;rw[yS hiσ] at e2;cases e2;exact⟨u,r,.inr ⟨.inl hk,c,hc,hc'⟩⟩
   ·rw[zR (qT hj)] at e2;obtain⟨u',r',q⟩:=hl j y v' e1 e2 e3;refine⟨u',r',?_⟩;rcases q with q|⟨k,c',e,z'⟩
    ·exact .inl q
    ·refine .inr ⟨k,c',e,z'.sameBut hs ?_⟩;rintro rfl;exact hj (a45 hN e1 (I.ok.inj _ _ _ e hc▸hi))
  ·by_cases hcc:c'=c
   ·subst hcc;exact⟨_,hc'⟩
   ·obtain⟨w2,z2⟩:=I.cell y c' e;exact⟨w2,z2.sameBut hs hcc⟩
  ·obtain⟨e,n,ne,nf,d⟩:=I.pin p hp;refine⟨(hs.2 p.1 ?_).trans e,n,ne,nf,d⟩;intro q;rw[q,hoc] at e;have q':oc=p.2:=qV e;exact d w' (by rw[<-q'];exact hocd)
theorem G7 {M:Model}{A:Around}{E:Value->Shared->Prop}{i:Nat}{x:Str}{v:V}{u:Value}{Q:Unit->Shared->Prop}(I:Inv X pins σ H s)(hN:X.N.Nodup)(hi:X.N[i]? =some x)(hx:Loc X.env.scope x)(r:RelV v u)
  (h:∀s',Inv X pins (σ.set i (some v)) H s'->Q () s') (hf:X.fn x=true\/X.env.scope.names.lookup x=some .local:=by first|exact .inl rfl|exact .inr rfl|assumption):wpAny M A (storeName X.env x u) Q E s:=
 a8R I hN hi hx r (fun s' I' _=>h s' I') hf
theorem Inv.call' {s':Shared}{ch:List Addr}(I:Inv X pins σ H s)(ho:s'.os=s.os)(u:Un (frs X.stack) ch H H' s.heap s'.heap)(hok:HOk X.prog X.w H' s'.heap)(hg:AllBare s'.gens)
  (hch:∀b∈ch,(b∈X.ex\/X.s₀.heap.objs.size<=b)/\b≠X.env.locals/\(∀x c,X.env.cells.lookup x=some c->c≠b)/\∀p∈X.pn++pins,p.1≠b):Inv X pins σ H' s':=by
 obtain⟨h',g',d',t',o'⟩:=s';have e:o'=s.os:=ho;subst e;exact I.call (g':=g') (t':=t') (d':=d') u hok hg hch
end
abbrev XK:=Value->Option Addr->Hp->Prop
abbrev St:=List (Option V)
abbrev VK:=V->Hp->Prop
abbrev TE:=St->Hp->VK->Prop
abbrev TT:=St->Hp->(Bool->Hp->Prop)->Prop
abbrev TA:=St->Hp->(List V->Hp->Prop)->Prop
structure Ends where
 nx:St->Hp->Prop
 rt:VK
 bk:St->Hp->Prop:=fun _ _=>False
 ct:St->Hp->Prop:=fun _ _=>False
abbrev TS:=Ends->St->Hp->Prop
def EP (X:Cx) (pins:List (Addr×Obj)) (σ:St) (Q:VK) (u:Value) (s':Shared):Prop:=∃v H',Inv X pins σ H' s'/\RelV v u/\Q v H'
def TP (X:Cx) (pins:List (Addr×Obj)) (σ:St) (Q:Bool->Hp->Prop) (b:Bool) (s':Shared):Prop:=∃H',Inv X pins σ H' s'/\Q b H'
def AP (X:Cx) (pins:List (Addr×Obj)) (σ:St) (Q:List V->Hp->Prop) (us:List Value) (s':Shared):Prop:=∃vs H',Inv X pins σ H' s'/\Vals vs us/\Q vs H'
def SP (X:Cx) (pins:List (Addr×Obj)) (D:Ends) (f:Flow) (s':Shared):Prop:=
 match f with
 | .next=>∃σ' H',Inv X pins σ' H' s'/\D.nx σ' H'
 | .brk=>∃σ' H',Inv X pins σ' H' s'/\D.bk σ' H'
 | .cont=>∃σ' H',Inv X pins σ' H' s'/\D.ct σ' H'
 | .ret u=>∃v σ' H',Inv X pins σ' H' s'/\RelV v u/\D.rt v H'
def PE (X:Cx) (e:Expr) (t:TE):Prop:=
 ∀(pins:List (Addr×Obj)) (s:Shared) (σ:St) (H:Hp) (Q:VK),Inv X pins σ H s->t σ H Q->wpAny (model X.prog X.w) X.A (eval e X.env) (EP X pins σ Q) X.xe s
def PT (X:Cx) (e:Expr) (t:TT):Prop:=
 ∀(pins:List (Addr×Obj)) (s:Shared) (σ:St) (H:Hp) (Q:Bool->Hp->Prop),Inv X pins σ H s->t σ H Q->wpAny (model X.prog X.w) X.A (isTrue e X.env (eval e X.env)) (TP X pins σ Q) X.xe s
def PW (X:Cx) (e:Expr) (t:TT):Prop:=
 ∀(whole:Sem Value) (pins:List (Addr×Obj)) (s:Shared) (σ:St) (H:Hp) (Q:Bool->Hp->Prop),Inv X pins σ H s->t σ H Q->wpAny (model X.prog X.w) X.A (isTrue e X.env whole) (TP X pins σ Q) X.xe s
theorem PW.pt {X:Cx}{e:Expr}{t:TT}(h:PW X e t):PT X e t:=h _
def PA (X:Cx) (es:List Expr) (t:TA):Prop:=
 ∀(pos:Pos) (pins:List (Addr×Obj)) (s:Shared) (σ:St) (H:Hp) (Q:List V->Hp->Prop),Inv X pins σ H s->t σ H Q->wpAny (model X.prog X.w) X.A (spliced (backTo pos (starEach es X.env))) (AP X pins σ Q) X.xe s
def PS (X:Cx) (st:Stmt) (t:TS):Prop:=
 ∀(pins:List (Addr×Obj)) (s:Shared) (σ:St) (H:Hp) (D:Ends),Inv X pins σ H s->t D σ H->wpAny (model X.prog X.w) X.A (exec st X.env) (SP X pins D) X.xe s
def PSs (X:Cx) (st:List Stmt) (t:TS):Prop:=
 ∀(pins:List (Addr×Obj)) (s:Shared) (σ:St) (H:Hp) (D:Ends),Inv X pins σ H s->t D σ H->wpAny (model X.prog X.w) X.A (execs st X.env) (SP X pins D) X.xe s
theorem thn {α:Type}{t:Sem α}{Q Q':α->Shared->Prop}{M:Model}{A:Around}{E:Value->Shared->Prop}{s:Shared}(h:wpAny M A t Q E s)(hQ:∀a s,Q a s->Q' a s):wpAny M A t Q' E s:=zF h hQ fun _ _ x=>x
section
variable {X:Cx}
def tVar (i:Nat):TE:=fun σ H Q=>∃v,σ[i]? =some (some v)/\Q v H
def tC (v:V):TE:=fun _ H Q=>Q v H
theorem a4v {i:Nat}{x:Str}{pos:Pos}(hN:X.N[i]? =some x)(hv:Vis X.env.scope x)(hd:(x==("__debug__":Str))=false:=by decide)(hcd:(x==("__classdict__":Str))=false:=by decide):PE X (.Name x pos) (tVar i):=by
 intro pins s σ H Q I h;obtain⟨v,e,h⟩:=h;obtain⟨m,hn,hl⟩:=I.loc;obtain⟨u,r,l⟩:=hl i x v hN e hv;have fin:EP X pins σ Q u s:=⟨v,H,I,r,h⟩;rcases l with ⟨hk,hm⟩|⟨hk,c,hc,hcell⟩
 ·exact wpAny_Name (wpAny_loadName_local I.ok.kind hk hn hm fin) hd
 ·rcases hk with hk|hk
  ·exact wpAny_Name (wpAny_loadName_cell I.ok.kind hk hc hcell fin) hd
  ·exact wpAny_Name (wpAny_loadName_free I.ok.kind hk hc hcell fin hcd) hd
theorem b4E {i j pos}:PE X (.Constant (.int i) j pos) (tC (.int i)):=fun _ _ _ H _ I h=>wpAny_Constant_int ⟨.int i,H,I.tok _,⟨_,rfl⟩,h⟩
theorem pe_bl {b j pos}:PE X (.Constant (.bool b) j pos) (tC (.bl b)):=fun _ _ _ H _ I h=>Constant_bool ⟨.bl b,H,I,rfl,h⟩
theorem a52 {j pos}:PE X (.Constant .none j pos) (tC .non):=fun _ _ _ H _ I h=>Constant_none ⟨.non,H,I,rfl,h⟩
theorem b3Z {x j pos}:PE X (.Constant (.str x) j pos) (tC (.str x)):=fun _ _ _ H _ I h=>Calls.Constant_str ⟨.str x,H,I.tok _,⟨_,rfl⟩,h⟩
def Gl (X:Cx) (x:Str):Prop:=X.env.kindOf x=some .globalImplicit
theorem b10 {E:Value->Shared->Prop}{pins:List (Addr×Obj)}{s:Shared}{σ:St}{H:Hp}{x:Str}{u:Value}{pos:Pos}{Q:Value->Shared->Prop}(I:Inv X pins σ H s)(hg:Gl X x)(hm:X.mg x=some u)(h:Q u s)
  (hd:(x==("__debug__":Str))=false:=by decide):wpAny (model X.prog X.w) X.A (eval (.Name x pos) X.env) Q E s:=
 Calls.Name_function_global I.ok.kind hg (Calls.loadGlobal_global (by rw[I.ok.glob];exact I.mod.glob.keeps I.bk) hm h) hd
theorem L4 {E:Value->Shared->Prop}{pins:List (Addr×Obj)}{s:Shared}{σ:St}{H:Hp}{x:Str}{u:Value}{pos:Pos}{Q:Value->Shared->Prop}(I:Inv X pins σ H s)(hg:Gl X x)(hm:X.mg x=none)(hv:bootBuiltins x=some u)(h:Q u s)
  (hn:x≠"__name__":=by decide) (hd:(x==("__debug__":Str))=false:=by decide):wpAny (model X.prog X.w) X.A (eval (.Name x pos) X.env) Q E s:=by
 obtain⟨mb,h1,h2⟩:=I.mod.blt;exact Calls.Name_function_global I.ok.kind hg (Calls.loadGlobal_builtin (by rw[I.ok.glob];exact I.mod.glob.keeps I.bk) hm (by rw[I.ok.blt];exact h1.keeps I.bk) ((h2 x hn).trans hv) h) hd
theorem b1V {x:Str}{v:V}{u:Value}{pos:Pos}(hg:Gl X x)(hm:X.mg x=none)(hv:bootBuiltins x=some u)(r:RelV v u)(hn:x≠"__name__":=by decide)(hd:(x==("__debug__":Str))=false:=by decide):PE X (.Name x pos) (tC v):=
 fun _ _ _ H _ I h=>L4 I hg hm hv ⟨v,H,I,r,h⟩ hn hd
variable {a b:Expr}{ta tb:TE}{pos:Pos}
variable {tA tB':TT}{rest:List Expr}
def tAnd (t u:TT):TT:=fun σ H Q=>t σ H fun c H1=>if c=true then u σ H1 Q else Q false H1
def tOr (t u:TT):TT:=fun σ H Q=>t σ H fun c H1=>if c=true then Q true H1 else u σ H1 Q
def tNot (t:TT):TT:=fun σ H Q=>t σ H fun c H1=>Q (!c) H1
theorem pw_and1 (ha:PT X a tA):PW X (.BoolOp .And [a] pos) tA:=by
 intro wh pins s σ H Q I h;refine isTrue_and (thn (ha pins s σ H Q I h) fun c s1 e=>?_);cases c with
 | true=>exact isTrue_and_nil e
 | false=>exact e
theorem pw_or1 (ha:PT X a tA):PW X (.BoolOp .Or [a] pos) tA:=by
 intro wh pins s σ H Q I h;refine isTrue_or (thn (ha pins s σ H Q I h) fun c s1 e=>?_);cases c with
 | false=>exact isTrue_or_nil e
 | true=>exact e
theorem pw_and (ha:PT X a tA)(hb:PW X (.BoolOp .And (b::rest) pos) tB'):PW X (.BoolOp .And (a::b::rest) pos) (tAnd tA tB'):=by
 intro wh pins s σ H Q I h;refine isTrue_and (thn (ha pins s σ H _ I h) fun c s1 ⟨H1,I1,q1⟩=>?_);cases c with
 | true=>exact hb wh pins s1 σ H1 Q I1 q1
 | false=>exact⟨H1,I1,q1⟩
theorem pw_or (ha:PT X a tA)(hb:PW X (.BoolOp .Or (b::rest) pos) tB'):PW X (.BoolOp .Or (a::b::rest) pos) (tOr tA tB'):=by
 intro wh pins s σ H Q I h;refine isTrue_or (thn (ha pins s σ H _ I h) fun c s1 ⟨H1,I1,q1⟩=>?_);cases c with
 | true=>exact⟨H1,I1,q1⟩
 | false=>exact hb wh pins s1 σ H1 Q I1 q1
theorem b3I (ha:PT X a tA):PT X (.UnaryOp .Not a pos) (tNot tA):=by
 intro pins s σ H Q I h;exact isTrue_not (ha pins s σ H (fun c H1=>Q (!c) H1) I h)
def tAndV (ta tb:TE):TE:=fun σ H Q=>ta σ H fun x H1=>∃c,x= .bl c/\if c=true then tb σ H1 Q else Q (.bl false) H1
def tOrV (ta tb:TE):TE:=fun σ H Q=>ta σ H fun x H1=>∃c,x= .bl c/\if c=true then Q (.bl true) H1 else tb σ H1 Q
theorem b35 {op}{t:TE}(h:PE X a t):PE X (.BoolOp op [a] pos) t:=fun pins s σ H Q I hw=>BoolOp_one (h pins s σ H Q I hw)
theorem b36 (ha:PE X a ta)(hb:PE X (.BoolOp .And (b::rest) pos) tb):PE X (.BoolOp .And (a::b::rest) pos) (tAndV ta tb):=by
 intro pins s σ H Q I h;refine BoolOp_and (thn (ha pins s σ H _ I h) fun v s1 h0=>ex5 h0 fun x H1 I1 r1 q1=>?_);obtain⟨c,rfl,q1⟩:=q1;cases r1;refine xX ?_;cases c with
 | true=>exact hb pins s1 σ H1 Q I1 q1
 | false=>exact⟨.bl false,H1,I1,rfl,q1⟩
theorem pe_or (ha:PE X a ta)(hb:PE X (.BoolOp .Or (b::rest) pos) tb):PE X (.BoolOp .Or (a::b::rest) pos) (tOrV ta tb):=by
 intro pins s σ H Q I h;refine BoolOp_or (thn (ha pins s σ H _ I h) fun v s1 h0=>ex5 h0 fun x H1 I1 r1 q1=>?_);obtain⟨c,rfl,q1⟩:=q1;cases r1;refine xX ?_;cases c with
 | false=>exact hb pins s1 σ H1 Q I1 q1
 | true=>exact⟨.bl true,H1,I1,rfl,q1⟩
def tIf (t:TT) (ta tb:TE):TE:=fun σ H Q=>t σ H fun c H1=>if c=true then ta σ H1 Q else tb σ H1 Q
theorem a9p {c:Expr}(hc:PT X c tA)(ha:PE X a ta)(hb:PE X b tb):PE X (.IfExp c a b pos) (tIf tA ta tb):=by
 intro pins s σ H Q I h;refine wpAny_IfExp (thn (hc pins s σ H _ I h) fun d s1 ⟨H1,I1,q1⟩=>?_);cases d with
 | true=>exact ha pins s1 σ H1 Q I1 q1
 | false=>exact hb pins s1 σ H1 Q I1 q1
end
def SqL (K:PySem.W.Frag) (H:Hp) (a:Addr) (xs:List V):Prop:=
 Rd H a (.lst xs)\/
  ∃(o:Obj) (its:Array Value) (n:Nat),K.lookup a=some o/\o.cls= .type "list"/\o.dict=none/\o.data= .seq its n/\its.size<=sizeLine/\Vals xs its.toList
def SqT (K:PySem.W.Frag) (H:Hp) (a:Addr) (xs:List V):Prop:=
 Rd H a (.tup xs)\/
  ∃(o:Obj) (its:Array Value) (n:Nat),K.lookup a=some o/\o.cls= .type "tuple"/\o.dict=none/\o.data= .seq its n/\its.size<=sizeLine/\Vals xs its.toList
def absV:Value->Option V
 | .none=>some .non
 | .bool b=>some (.bl b)
 | .int i _=>some (.int i)
 | .str x _=>some (.str x)
 | .bytes b _=>some (.byt b)
 | .float b _=>some (.flt b)
 | .ref a=>some (.ref a)
 | .type n=>some (.ty n)
 | _=>none
theorem RelV.abs {x:V}{u:Value}(r:RelV x u):absV u=some x:=by
 cases x with
 | non=>cases r;rfl
 | bl _=>cases r;rfl
 | int _=>obtain⟨t,rfl⟩:=r;rfl
 | str _=>obtain⟨t,rfl⟩:=r;rfl
 | byt _=>obtain⟨t,rfl⟩:=r;rfl
 | flt _=>obtain⟨t,rfl⟩:=r;rfl
 | ref _=>cases r;rfl
 | ty _=>cases r;rfl
theorem RelV.inj {x y:V}{u:Value}(r:RelV x u)(q:RelV y u):x=y:=qV (r.abs.symm.trans q.abs)
theorem Vals.inj:∀{xs ys:List V} {us:List Value},Vals xs us->Vals ys us->xs=ys
 | _,_,_,.nil,.nil=>rfl
 | _,_,_,.cons r t,.cons r' t'=>by rw[r.inj r',Vals.inj t t']
section
variable {X:Cx}{pins:List (Addr×Obj)}{σ:St}{H:Hp}{s:Shared}{a:Addr}{xs ys:List V}
theorem SqL.of {K:PySem.W.Frag}(h:H a=some (.lst xs)):SqL K H a xs:=.inl (.inl h)
theorem SqT.of {K:PySem.W.Frag}(h:H a=some (.tup xs)):SqT K H a xs:=.inl (.inl h)
theorem Inv.list (I:Inv X pins σ H s)(h:SqL X.K H a xs):∃its:List Value,Vals xs its/\PlainL s.heap a its.toArray/\xs.length<=sizeLine:=by
 rcases h with h|⟨o,its,n,hk,hc,hd,hs,hz,r⟩
 ·obtain⟨z,its,n,r,e⟩:=h.ok I.hok;exact⟨its,r,⟨_,n,e,rfl,rfl,rfl⟩,z⟩
 ·refine⟨its.toList,r,⟨o,n,I.kIn a o hk,hc,hd,by simpa using hs⟩,?_⟩
  have e:=r.length;simp only[jY] at e;walk_at "o"
theorem Inv.tupN (I:Inv X pins σ H s)(h:SqT X.K H a xs):∃its:List Value,Vals xs its/\TupN s.heap a its.toArray/\xs.length<=sizeLine:=by
 rcases h with h|⟨o,its,n,hk,hc,hd,hs,hz,r⟩
 ·obtain⟨z,its,r,p⟩:=h.ok I.hok;exact⟨its,r,p,z⟩
 ·refine⟨its.toList,r,⟨o,I.kIn a o hk,hc,⟨n,by simpa using hs⟩,hd⟩,?_⟩
  have e:=r.length;simp only[jY] at e;walk_at "o"
theorem Inv.tuple (I:Inv X pins σ H s)(h:SqT X.K H a xs):∃its:List Value,Vals xs its/\IsTup s.heap a its.toArray/\xs.length<=sizeLine:=let ⟨its,r,p,z⟩:=I.tupN h;⟨its,r,p.is,z⟩
theorem Inv.list_inj (I:Inv X pins σ H s)(h:SqL X.K H a xs)(h':SqL X.K H a ys):xs=ys:=by
 obtain⟨its,r,⟨o,n,e,_,_,d⟩,_⟩:=I.list h;obtain⟨its',r',⟨o',n',e',_,_,d'⟩,_⟩:=I.list h';rw[e] at e';cases e';rw[d] at d';injection d' with d1 _
 have:its=its':=by simpa using yQ Array.toList d1
 subst this;exact r.inj r'
theorem Inv.tuple_inj (I:Inv X pins σ H s)(h:SqT X.K H a xs)(h':SqT X.K H a ys):xs=ys:=by
 obtain⟨its,r,⟨o,e,_,n,d⟩,_⟩:=I.tuple h;obtain⟨its',r',⟨o',e',_,n',d'⟩,_⟩:=I.tuple h';rw[e] at e';cases e';rw[d] at d';injection d' with d1 _
 have:its=its':=by simpa using yQ Array.toList d1
 subst this;exact r.inj r'
end
abbrev Cx.wish (X:Cx) (E:Value->Shared->Prop):Cx:={X with xe:=E}
abbrev Cx.nox (X:Cx):Cx:=X.wish fun _ _=>False
theorem Cx.Ok.wish {X:Cx}(ok:X.Ok)(E:Value->Shared->Prop):(X.wish E).Ok:=
 ⟨ok.mod,ok.kind,ok.glob,ok.blt,ok.above,ok.inj,ok.has,ok.cab,ok.hd,ok.frames,ok.stk,ok.exf,ok.bs,ok.bsz,ok.noex,ok.exfs,ok.funs,ok.frf⟩
theorem Cx.Ok.unwish {X:Cx}{E:Value->Shared->Prop}(ok:(X.wish E).Ok):X.Ok:=
 ⟨ok.mod,ok.kind,ok.glob,ok.blt,ok.above,ok.inj,ok.has,ok.cab,ok.hd,ok.frames,ok.stk,ok.exf,ok.bs,ok.bsz,ok.noex,ok.exfs,ok.funs,ok.frf⟩
section
variable {X:Cx}{pins:List (Addr×Obj)}{σ:St}{H:Hp}{s:Shared}{E:Value->Shared->Prop}
theorem Inv.wish (I:Inv X pins σ H s)(E:Value->Shared->Prop):Inv (X.wish E) pins σ H s:=⟨I.ok.wish E,I.os,I.bare,I.base,I.loc,I.cell,I.free,I.freeC,I.pin,I.hok,I.len⟩
theorem Inv.unwish (I:Inv (X.wish E) pins σ H s):Inv X pins σ H s:=⟨I.ok.unwish,I.os,I.bare,I.base,I.loc,I.cell,I.free,I.freeC,I.pin,I.hok,I.len⟩
theorem SP.unwish {D:Ends}{f:Flow}{s':Shared}(h:SP (X.wish E) pins D f s'):SP X pins D f s':=by
 cases f with
 | next=>obtain⟨σ',H',I,q⟩:=h;exact⟨σ',H',I.unwish,q⟩
 | brk=>obtain⟨σ',H',I,q⟩:=h;exact⟨σ',H',I.unwish,q⟩
 | cont=>obtain⟨σ',H',I,q⟩:=h;exact⟨σ',H',I.unwish,q⟩
 | ret u=>obtain⟨v,σ',H',I,r,q⟩:=h;exact⟨v,σ',H',I.unwish,r,q⟩
theorem PSs.nox {st:List Stmt}{t:TS}(h:PSs X.nox st t):PSs X st t:=fun pins s σ H D I hw=>
 zF (h pins s σ H D (I.wish _) hw) (fun _ _ q=>q.unwish) fun _ _ z=>False.elim z
end
section
variable {X:Cx}{st:Stmt}{rest:List Stmt}{t u:TS}{e:Expr}{te:TE}{pos:Pos}
def tNext:TS:=fun D σ H=>D.nx σ H
def tSeq (t u:TS):TS:=fun D σ H=>t {D with nx:=u D} σ H
theorem b1B:PSs X [] tNext:=fun _ _ σ H _ I h=>wpAny_execs_nil ⟨σ,H,I,h⟩
theorem b0S (h1:PS X st t)(h2:PSs X rest u):PSs X (st::rest) (tSeq t u):=by
 intro pins s σ H D I h;refine wpAny_execs_cons (thn (h1 pins s σ H {D with nx:=u D} I h) fun f s1 q=>?_)
 cases f with
 | next=>
  obtain⟨σ',H',I',q⟩:=q;exact h2 pins s1 σ' H' D I' q
 | ret v=>exact q
 | brk=>exact q
 | cont=>exact q
theorem b2i (h1:PS X st t):PSs X [st] t:=by
 intro pins s σ H D I h;refine wpAny_execs_cons (thn (h1 pins s σ H D I h) fun f s1 q=>?_);cases f with
 | next=>exact wpAny_execs_nil q
 | ret v=>exact q
 | brk=>exact q
 | cont=>exact q
def tBreak:TS:=fun D σ H=>D.bk σ H
theorem a9X:PS X (.Break pos) tBreak:=fun _ _ σ H _ I h=>wpAny_Break ⟨σ,H,I,h⟩
theorem Inv.quiet {pins:List (Addr×Obj)}{σ:St}{H:Hp}{s:Shared}(I:Inv X pins σ H s):interactive X.env=false:=by simp[interactive,I.ok.kind]
def tDrop (te:TE):TS:=fun D σ H=>te σ H fun _ H1=>D.nx σ H1
theorem b1H (he:PE X e te)(hs:swapsWith e none pos.line X.env=pure false:=by rfl):PS X (.Expr e pos) (tDrop te):=by
 intro pins s σ H D I h;exact wpAny_Expr_any (thn (he pins s σ H _ I h) fun v s1 h0=>ex5 h0 fun x H1 I1 r1 q1=>⟨σ,H1,I1,q1⟩) I.quiet hs
def tRet (te:TE):TS:=fun D σ H=>te σ H D.rt
theorem b3Y (he:PE X e te):PS X (.Return (some e) pos) (tRet te):=by
 intro pins s σ H D I h;exact wpAny_Return_some (thn (he pins s σ H _ I h) fun v s1 h0=>ex5 h0 fun x H1 I1 r1 q1=>⟨x,σ,H1,I1,r1,q1⟩)
def tIfS (c:TT) (t u:TS):TS:=fun D σ H=>c σ H fun b H1=>if b=true then t D σ H1 else u D σ H1
theorem ps_if {c:Expr}{a b:List Stmt}{tc:TT}(hc:PT X c tc)(ha:PSs X a t)(hb:PSs X b u):PS X (.If c a b pos) (tIfS tc t u):=by
 intro pins s σ H D I h;refine wpAny_If (thn (hc pins s σ H _ I h) fun d s1 ⟨H1,I1,q1⟩=>?_);cases d with
 | true=>exact ha pins s1 σ H1 D I1 q1
 | false=>exact hb pins s1 σ H1 D I1 q1
def tNever:TS:=fun _ _ _=>False
theorem b0q:PS X st tNever:=fun _ _ _ _ _ _ h=>h.elim
end
abbrev TG:=V->St->Hp->(St->Hp->Prop)->Prop
abbrev TGs:=List V->St->Hp->(St->Hp->Prop)->Prop
def PG (X:Cx) (target:Expr) (t:TG):Prop:=
 ∀(pins:List (Addr×Obj)) (s:Shared) (σ:St) (H:Hp) (v:V) (u:Value) (Q:St->Hp->Prop),Inv X pins σ H s->RelV v u->t v σ H Q->
  wpAny (model X.prog X.w) X.A (assign target X.env u) (fun _ s'=>∃σ' H',Inv X pins σ' H' s'/\Q σ' H') X.xe s
def PGs (X:Cx) (ts:List Expr) (t:TGs):Prop:=
 ∀(pins:List (Addr×Obj)) (s:Shared) (σ:St) (H:Hp) (vs:List V) (us:List Value) (Q:St->Hp->Prop),Inv X pins σ H s->Vals vs us->t vs σ H Q->
  wpAny (model X.prog X.w) X.A (assignInOrder ((assignEach ts X.env).map (·.2)) us) (fun _ s'=>∃σ' H',Inv X pins σ' H' s'/\Q σ' H') X.xe s
abbrev TSet:=V->V->V->Hp->(Hp->Prop)->Prop
def PSet (X:Cx) (t:TSet):Prop:=
 ∀(pins:List (Addr×Obj)) (s:Shared) (σ:St) (H:Hp) (o i v:V) (ov iv u:Value) (Q:Hp->Prop),Inv X pins σ H s->RelV o ov->RelV i iv->RelV v u->t o i v H Q->
  wpAny (model X.prog X.w) X.A (setItem ov iv u) (fun _ s'=>∃H',Inv X pins σ H' s'/\Q H') X.xe s
section
variable {X:Cx}{pos:Pos}
def gName (i:Nat):TG:=fun v σ H Q=>Q (σ.set i (some v)) H
theorem a7L {i:Nat}{x:Str}(hN:X.N.Nodup)(hi:X.N[i]? =some x)(hx:Loc X.env.scope x)(hf:X.fn x=true\/X.env.scope.names.lookup x=some .local:=by first|exact .inl rfl|exact .inr rfl|assumption):PG X (.Name x pos) (gName i):=by
 intro pins s σ H v u Q I r h;exact wpAny_assign_Name (G7 I hN hi hx r (fun s' I'=>⟨_,H,I',h⟩) hf)
def gNil:TGs:=fun vs σ H Q=>vs=[]/\Q σ H
def gCons (t:TG) (u:TGs):TGs:=fun vs σ H Q=>∃v r,vs=v::r/\t v σ H fun σ' H'=>u r σ' H' Q
theorem b12:PGs X [] gNil:=by
 intro pins s σ H vs us Q I r h;obtain⟨e,h⟩:=h;subst e;cases r;exact assignInOrder_nil ⟨σ,H,I,h⟩
theorem a9J {e:Expr}{es:List Expr}{t:TG}{u:TGs}(h1:PG X e t)(h2:PGs X es u)
  (hs:(assignEach (e::es) X.env).map (·.2)=assign e X.env::(assignEach es X.env).map (·.2):=by rfl):PGs X (e::es) (gCons t u):=by
 intro pins s σ H vs us Q I r h;obtain⟨v,vr,e1,h⟩:=h;subst e1;cases r with
 | cons r rr=>
  rw[hs];refine xS (thn (h1 pins s σ H _ _ _ I r h) fun _ s1 ⟨σ1,H1,I1,q1⟩=>?_);exact h2 pins s1 σ1 H1 _ _ Q I1 rr q1
def gTup (K:PySem.W.Frag) (n:Nat) (t:TGs):TG:=fun v σ H Q=>∃a xs,v= .ref a/\SqT K H a xs/\xs.length=n/\t xs σ H Q
theorem b4c {es:List Expr}{k:Nat}{t:TGs}{n:Nat}(hc:X.calm=true)(h:PGs X es t)
  (hn:(assignEach es X.env).length=n:=by rfl) (hst:(assignEach es X.env).findIdx? (·.1)=none:=by rfl):PG X (.Tuple es k pos) (gTup X.K n t):=by
 intro pins s σ H v u Q I r hw;obtain⟨a,xs,e1,hq,hl,hw⟩:=hw;subst e1;cases r;obtain⟨its,rv,ht,hz⟩:=I.tuple hq;refine assign_Tuple_tuple (I.ok.hd hc) ht (by simp[hn,<-hl,rv.length]) hst fun h' hx=>?_
 have I1:Inv X pins σ H {s with heap:=h'}:=I.kept (t':=s.toks) fun b o e=>hx b o (zT (zW e)) e
 exact h pins _ σ H xs _ Q I1 (by simpa using rv) hw
def gSub (to ti:TE) (t:TSet):TG:=fun v σ H Q=>to σ H fun o H1=>ti σ H1 fun i H2=>t o i v H2 fun H3=>Q σ H3
theorem b3L {o i:Expr}{to ti:TE}{t:TSet}(ho:PE X o to)(hi:PE X i ti)(hs:PSet X t)
  (ha:∀v,assign (.Subscript o i pos) X.env v=(do
   let ov <-holding [v] (eval o X.env)
   let iv <-holding [v,ov] (eval i X.env)
   standAt pos
   holding [v,ov,iv] (setItem ov iv v)
   release [v,ov,iv] []):=by intro _;rfl):PG X (.Subscript o i pos) (gSub to ti t):=by
 intro pins s σ H v u Q I r h;rw[ha];refine zA (qI (thn (ho pins s σ H _ I h) fun ov s1 h0=>ex5 h0 fun x H1 I1 r1 q1=>?_));refine zA (qI (thn (hi pins s1 σ H1 _ I1 q1) fun iv s2 h0=>ex5 h0 fun y H2 I2 r2 q2=>?_));refine zA (jO (zA (qI (thn (hs pins s2 σ H2 x y v ov iv u _ I2 r1 r2 r q2) fun _ s3 ⟨H3,I3,q3⟩=>?_))));exact wpAny_release ⟨σ,H3,I3,q3⟩
def tAsg (te:TE) (g:TG):TS:=fun D σ H=>te σ H fun x H1=>g x σ H1 D.nx
theorem b37 {tg e:Expr}{te:TE}{g:TG}(he:PE X e te)(hg:PG X tg g)(hs:swapsWithSole [tg] e pos.line X.env=pure false:=by rfl)(hw:swappedStores [tg] e X.env=pure none:=by rfl)
  (h1:(assignEach [tg] X.env).map (·.2)=[assign tg X.env]:=by rfl):PS X (.Assign [tg] e pos) (tAsg te g):=by
 intro pins s σ H D I h;refine wpAny_Assign_stores (thn (he pins s σ H _ I h) fun v s1 h0=>ex5 h0 fun x H1 I1 r1 q1=>?_) hs hw;rw[h1];exact thn (hg pins s1 σ H1 x v _ I1 r1 q1) fun _ s2 q=>q
theorem b4t {i:Nat}{x:Str}{e:Expr}{te:TE}{pos':Pos}(hN:X.N.Nodup)(hi:X.N[i]? =some x)(hx:Loc X.env.scope x)(he:PE X e te)(hs:swapsWith e (some (.Name x pos')) pos.line X.env=pure false:=by rfl)(hf:X.fn x=true\/X.env.scope.names.lookup x=some .local:=by first|exact .inl rfl|exact .inr rfl|assumption):
  PS X (.Assign [.Name x pos'] e pos) (tAsg te (gName i)):=by
 intro pins s σ H D I h;refine wpAny_Assign_Name (thn (he pins s σ H _ I h) fun v s1 h0=>ex5 h0 fun y H1 I1 r1 q1=>?_) hs;exact G7 I1 hN hi hx r1 (fun s2 I2=>⟨_,H1,I2,q1⟩) hf
def tPar (i j:Nat) (ta:TA):TS:=fun D σ H=>ta σ H fun vs H1=>∃v w,vs=[v,w]/\D.nx ((σ.set i (some v)).set j (some w)) H1
theorem b4B {i j:Nat}{x y:Str}{a b:Expr}{ta:TA}{px py pt:Pos}{kt k2 pt2}(hc:X.calm=true)(hN:X.N.Nodup)(hi:X.N[i]? =some x)(hj:X.N[j]? =some y)(hij:i≠j)
  (hx:X.env.scope.names.lookup x=some .local) (hy:X.env.scope.names.lookup y=some .local) (ha:PA X [a,b] ta)
  (hw:swappedStores [.Tuple [.Name x px,.Name y py] kt pt] (.Tuple [a,b] k2 pt2) X.env=pure (some [x,y]))
  (hs:swapsWithSole [.Tuple [.Name x px,.Name y py] kt pt] (.Tuple [a,b] k2 pt2) pos.line X.env=pure false:=by rfl):
  PS X (.Assign [.Tuple [.Name x px,.Name y py] kt pt] (.Tuple [a,b] k2 pt2) pos) (tPar i j ta):=by
 intro pins s σ H D I h;rw[exec_Assign_arm];refine zA (jO ?_);rw[hs];refine zA (zB ?_);rw[if_neg (by decide)]
 refine zA (Tuple_ (thn (ha _ pins s σ H _ I h) fun us s1 h0=>ex5 h0 fun vs H1 I1 r1 q1=>?_));obtain⟨v,w,e1,q1⟩:=q1;subst e1;obtain⟨u1,u2,rfl,rv,rw'⟩:∃u1 u2,us=[u1,u2]/\RelV v u1/\RelV w u2:=by
  cases r1 with
  | cons p q=>
   cases q with
   | cons p' q'=>
    cases q';exact⟨_,_,rfl,p,p'⟩
 refine qD ?_ (by show 2<=sizeLine;decide)
 have I2:Inv X pins σ H1 {s1 with heap:=s1.heap.push {cls:=.type "tuple",data:=.seq [u1,u2].toArray}}:=I1.kept (t':=s1.toks) fun b o e=>zD _ e
 rw[hw];refine zA (zB ?_);show wpAny (model X.prog X.w) X.A (do rule "assign.swapped-stores";let items <-unpackItems (.ref s1.heap.objs.size) 2 none;assignInOrder [fun v=>bindName X.env y v,fun v=>bindName X.env x v] items.reverse;pure Flow.next) _ _ _
 refine zA (jT (zA (unpackItems_tuple (items:= #[u1,u2]) (I.ok.hd hc) (IsTup.new s1.heap _) fun h' hx'=>?_)));have I3:=I2.kept (h':=h') (t':=s1.toks) fun b o e=>hx' b o (zT (zW e)) e;show wpAny _ _ (assignInOrder [fun v=>bindName X.env y v,fun v=>bindName X.env x v] [u2,u1] >>=fun _=>pure Flow.next) _ _ _;refine zA (xS (wpAny_bindName (G7 I3 hN hj (.inl hy) rw' (fun s2 I4=>?_) (.inr hy))));refine xS (wpAny_bindName (G7 I4 hN hi (.inl hx) rv (fun s3 I5=>assignInOrder_nil (zB ?_)) (.inr hx)));rw[set_comm _ _ (qT hij)] at I5;exact⟨_,H1,I5,q1⟩
end
section
variable {X:Cx}{pos:Pos}
def tWhile (c:TT) (tb:TS):TS:=fun D σ H=>∃W:Nat->St->Hp->Prop,(∃m,W m σ H)/\∀m σ H,W m σ H->
 c σ H fun b H1=>if b=true then ∃N:St->Hp->Prop,(∀σ' H',N σ' H'->∃m',m'<m/\W m' σ' H')/\tb {D with nx:=N,ct:=N,bk:=D.nx} σ H1 else D.nx σ H1
theorem a92 {c:Expr}{body:List Stmt}{tc:TT}{tb:TS}(hp:PassesOwn (model X.prog X.w) X.A X.env X.xe)(hc:PT X c tc)(hb:PSs X body tb):PS X (.While c body [] pos) (tWhile tc tb):=by
 intro pins s σ H D I h;obtain⟨W,⟨m0,w0⟩,turn⟩:=h;refine wpAny_While (codeAny_whileLoop (fun n s'=>∃σ' H',Inv X pins σ' H' s'/\W n σ' H') ?_ m0 ⟨σ,H,I,w0⟩);rintro n s1 ⟨σ1,H1,I1,w1⟩;refine xV hp (thn (hc pins s1 σ1 H1 _ I1 (turn n σ1 H1 w1)) fun b s2 ⟨H2,I2,q2⟩=>?_);cases b with
 | true=>
  obtain⟨N,hN,q2⟩:=q2;rw[if_pos rfl];refine xV hp (thn (hb pins s2 σ1 H2 _ I2 q2) fun f s3 q3=>?_);cases f with
  | next=>
   obtain⟨σ3,H3,I3,n3⟩:=q3;obtain⟨m',hm,w3⟩:=hN σ3 H3 n3;exact⟨m',hm,σ3,H3,I3,w3⟩
  | cont=>
   obtain⟨σ3,H3,I3,n3⟩:=q3;obtain⟨m',hm,w3⟩:=hN σ3 H3 n3;exact⟨m',hm,σ3,H3,I3,w3⟩
  | brk=>exact q3
  | ret v=>exact q3
 | false=>
  rw[if_neg zP];exact wpAny_execs_nil ⟨σ1,H2,I2,q2⟩
end
structure It where
 go:Nat->Hp->Prop
 yld:Nat->Hp->V->Hp->Prop
 stop:Nat->Hp->Prop
def FpOk (X:Cx) (pins:List (Addr×Obj)) (H:Hp) (b:Addr):Prop:=
 H b=none/\b≠X.env.locals/\b∉X.fs/\(b∈X.ex\/X.s₀.heap.objs.size<=b)/\(∀x c,X.env.cells.lookup x=some c->c≠b)/\∀p∈X.pn++pins,p.1≠b
theorem Inv.fpOk {X:Cx}{pins:List (Addr×Obj)}{σ:St}{H H':Hp}{s:Shared}{b:Addr}(I:Inv X pins σ H s)(hb:s.heap.objs.size<=b)(hn:H' b=none):FpOk X pins H' b:=by
 refine⟨hn,Nat.ne_of_gt (zK I.lt hb),I.nofs hb,.inr (qC I.sz hb),fun x c e z=>?_,fun p hp z=>?_⟩
 ·obtain⟨v,q⟩:=I.cell x c e;exact absurd (zK q.lt (by rw[z];exact hb)) (jD _)
 ·exact absurd (zK (zW (I.pin p hp).1) (by rw[z];exact hb)) (jD _)
structure Turn (P:Program) (w:World) (K:PySem.W.Frag) (tg:Expr) (J:It) (fp:List Addr) (it:Addr) (tn:Nat->Heap->Prop):Prop where
 mem:it∈fp
 obj:∀i h,tn i h->∀b∈fp,∃o,h.get? b=some o/\∀v,o.data≠.cell v
 keep:∀i h h',tn i h->(∀b∈fp,∀o,h.get? b=some o->h'.get? b=some o)->tn i h'
 item:∀(X:Cx),X.prog=P->X.w=w->X.K=K->X.calm=true->∀(i:Nat) (pins:List (Addr×Obj)) (s:Shared) (σ:St) (H:Hp) (E:Value->Shared->Prop),Inv X pins σ H s->(∀b∈fp,FpOk X pins H b)->tn i s.heap->J.go i H->
  wpAny (model P w) X.A (pyNext (.ref it)) (fun r s1=>∃u,r=some u/\
   wpAny (model P w) X.A (letOwnedTupleGo tg (.ref it) u) (fun _ s2=>∃x H',Inv X pins σ H' s2/\RelV x u/\J.yld i H x H'/\tn (i+1) s2.heap/\∀b∈fp,H' b=none) E s1) E s
 done:∀(X:Cx),X.prog=P->X.w=w->X.K=K->X.calm=true->∀(i:Nat) (pins:List (Addr×Obj)) (s:Shared) (σ:St) (H:Hp) (E:Value->Shared->Prop),Inv X pins σ H s->(∀b∈fp,FpOk X pins H b)->tn i s.heap->J.stop i H->
  wpAny (model P w) X.A (pyNext (.ref it)) (fun r s1=>r=none/\Inv X pins σ H s1) E s
 self:∀(A:Around) (i:Nat) (s:Shared) (Q:Value->Shared->Prop) (E:Value->Shared->Prop),tn i s.heap->Q (.ref it) s->wpAny (model P w) A (pyIter (.ref it)) Q E s
abbrev TI:=St->Hp->(It->Hp->Prop)->Prop
def PIE (X:Cx) (pins:List (Addr×Obj)) (σ:St) (tg:Expr) (R:It->Hp->Prop) (itv:Value) (s2:Shared):Prop:=
 ∃(it:Addr) (fp:List Addr) (tn:Nat->Heap->Prop) (J:It) (H':Hp),itv= .ref it/\Inv X pins σ H' s2/\Turn X.prog X.w X.K tg J fp it tn/\tn 0 s2.heap/\(∀b∈fp,FpOk X pins H' b)/\R J H'
def PI (X:Cx) (tg iter:Expr) (wi:TI):Prop:=
 ∀(pins:List (Addr×Obj)) (s:Shared) (σ:St) (H:Hp) (R:It->Hp->Prop),Inv X pins σ H s->wi σ H R->
  wpAny (model X.prog X.w) X.A (eval iter X.env) (fun v s1=>wpAny (model X.prog X.w) X.A (pyIter v) (PIE X pins σ tg R) X.xe s1) X.xe s
theorem a7e {M:Model}{A:Around}{E:Value->Shared->Prop}{s:Shared}{tg:Expr}{it:Addr}{u:Value}{o:Obj}{n:String}{vs:Array Value}{Q:Unit->Shared->Prop}(ho:s.heap.get? it=some o)(hc:o.cls= .type n)(hd:o.data= .fields vs)
  (hn:["enumerate","zip","dict_itemiterator","dict_reverseitemiterator","odict_iterator","itertools.zip_longest","itertools.pairwise"].contains n=false) (hQ:Q () s):wpAny M A (letOwnedTupleGo tg (.ref it) u) Q E s:=by
 unfold letOwnedTupleGo;cases tg<;>first
  | exact zB hQ
  | (cases u<;>first
    | exact zB hQ
    | (refine zA (wpAny_load ho ?_)
       rw[hc,hd];show wpAny M A (if(["enumerate","zip","dict_itemiterator","dict_reverseitemiterator","odict_iterator","itertools.zip_longest","itertools.pairwise"].contains n&&vs[0]? == some (rawInt _))=true then _ else _) Q E s;rw[if_neg (by intro h;rw[hn,yW] at h;cases h)]
       exact zB hQ))
def Itl (K:PySem.W.Frag) (a:Addr):It:=
 ⟨fun i H=>∃xs x,SqL K H a xs/\xs[i]? =some x,fun i H x H'=>H'=H/\∀xs,SqL K H a xs->xs[i]? =some x,fun i H=>∃xs,SqL K H a xs/\xs.length<=i⟩
def Itt (K:PySem.W.Frag) (a:Addr):It:=
 ⟨fun i H=>∃xs x,SqT K H a xs/\xs[i]? =some x,fun i H x H'=>H'=H/\∀xs,SqT K H a xs->xs[i]? =some x,fun i H=>∃xs,SqT K H a xs/\xs.length<=i⟩
def Itr (lo:Int) (n:Nat):It:=⟨fun i _=>i<n,fun i H x H'=>H'=H/\x= .int (lo+i),fun i _=>n<=i⟩
theorem a8v {P:Program}{w:World}{K:PySem.W.Frag}{tg:Expr}(a it:Addr):Turn P w K tg (Itl K a) [it] it (fun i h=>h.IsListIter it a i) where
 mem:=by simp
 obj:=fun i h st b hb=>by
  have e:b=it:=by simpa using hb
  subst e;obtain⟨o,e,c,d⟩:=st;exact⟨o,e,fun v z=>by rw[d] at z;cases z⟩
 keep:=fun i h h' st k=>st.at fun o e=>k it (by simp) o e
 item:=by
  intro X hP hw hK hc i pins s σ H E I hf st hg;subst hP hw hK;obtain⟨xs,x,hq,hx⟩:=hg;obtain⟨its,rv,p,hz⟩:=I.list hq;obtain⟨u,hu,ru⟩:=rv.get hx;obtain⟨f0,f1,f2,f3,f4,f5⟩:=hf it (by simp)
  refine wpAny_pyNext_list_item st p.isList (x:=u) (by simpa using hu) fun h' st' sb=>?_
  have I1:Inv X pins σ H {s with heap:=h'}:=I.turned (t':=s.toks) (fun b o hb e=>(sb.2 b hb).trans e) f0 f1 f3 f4 f5
  obtain⟨o,e,c,d⟩:=id st';exact⟨u,rfl,a7e (s:={s with heap:=h'}) e c d (by decide) ⟨x,H,I1,ru,⟨rfl,fun ys hy=>by rw[I.list_inj hy hq];exact hx⟩,st',fun b hb=>(hf b hb).1⟩⟩
 done:=by
  intro X hP hw hK hc i pins s σ H E I hf st hg;subst hP hw hK;obtain⟨xs,hq,hx⟩:=hg;obtain⟨its,rv,p,hz⟩:=I.list hq;obtain⟨f0,f1,f2,f3,f4,f5⟩:=hf it (by simp)
  have hl:=rv.length;exact wpAny_pyNext_list_end (I.ok.hd hc) st p.isList (by simp;walk_at "o") fun h' eb=>⟨rfl,I.turned (t':=s.toks) (fun b o hb e=>eb b o hb e) f0 f1 f3 f4 f5⟩
 self:=fun _ _ _ _ _ st h=>wpAny_pyIter_listiter st h
theorem a6n {P:Program}{w:World}{K:PySem.W.Frag}{tg:Expr}(a it:Addr):Turn P w K tg (Itt K a) [it] it (fun i h=>h.IsTupleIter it a i) where
 mem:=by simp
 obj:=fun i h st b hb=>by
  have e:b=it:=by simpa using hb
  subst e;obtain⟨o,e,c,d⟩:=st;exact⟨o,e,fun v z=>by rw[d] at z;cases z⟩
 keep:=fun i h h' st k=>st.at fun o e=>k it (by simp) o e
 item:=by
  intro X hP hw hK hc i pins s σ H E I hf st hg;subst hP hw hK;obtain⟨xs,x,hq,hx⟩:=hg;obtain⟨its,rv,p,hz⟩:=I.tuple hq;obtain⟨u,hu,ru⟩:=rv.get hx;obtain⟨f0,f1,f2,f3,f4,f5⟩:=hf it (by simp)
  refine wpAny_pyNext_tuple_item st (show s.heap.IsTuple a its.toArray from p) (x:=u) (by simpa using hu) fun h' st' sb=>?_
  have I1:Inv X pins σ H {s with heap:=h'}:=I.turned (t':=s.toks) (fun b o hb e=>(sb.2 b hb).trans e) f0 f1 f3 f4 f5
  obtain⟨o,e,c,d⟩:=id st';exact⟨u,rfl,a7e (s:={s with heap:=h'}) e c d (by decide) ⟨x,H,I1,ru,⟨rfl,fun ys hy=>by rw[I.tuple_inj hy hq];exact hx⟩,st',fun b hb=>(hf b hb).1⟩⟩
 done:=by
  intro X hP hw hK hc i pins s σ H E I hf st hg;subst hP hw hK;obtain⟨xs,hq,hx⟩:=hg;obtain⟨its,rv,p,hz⟩:=I.tuple hq;obtain⟨f0,f1,f2,f3,f4,f5⟩:=hf it (by simp)
  have hl:=rv.length;exact wpAny_pyNext_tuple_end (I.ok.hd hc) st (show s.heap.IsTuple a its.toArray from p) (by simp;walk_at "o") fun h' eb=>⟨rfl,I.turned (t':=s.toks) (fun b o hb e=>eb b o hb e) f0 f1 f3 f4 f5⟩
 self:=fun _ _ _ _ _ st h=>wpAny_pyIter_tupleiter st h
theorem a5Y {P:Program}{w:World}{K:PySem.W.Frag}{tg:Expr}(it:Addr)(lo:Int)(n:Nat):Turn P w K tg (Itr lo n) [it] it (fun i h=>IsRangeIter h it (lo+(i:Nat)*1) ((n:Int)-(i:Nat)) 1) where
 mem:=by simp
 obj:=fun i h st b hb=>by
  have e:b=it:=by simpa using hb
  subst e
  exact⟨_,st,fun v z=>by
   have z':Data.fields _=Data.cell v:=z
   cases z'⟩
 keep:=fun i h h' st k=>k it (by simp) _ st
 item:=by
  intro X hP hw hK hc i pins s σ H E I hf st hg;subst hP hw hK;obtain⟨f0,f1,f2,f3,f4,f5⟩:=hf it (by simp)
  have W:=Walks.range (prog:=X.prog) (w:=X.w) (I.ok.hd hc) it lo 1 n;refine W.item i s _ _ hg st fun v h' tk hv st' kk=>?_;obtain⟨t,rfl⟩:=hv;have I1:Inv X pins σ H {s with heap:=h',toks:=tk}:=I.turned (fun b o hb e=>kk b o (by simpa using hb) e) f0 f1 f3 f4 f5
  refine⟨_,rfl,a7e (s:={s with heap:=h',toks:=tk}) (n:="range_iterator") st' rfl rfl (by decide) ⟨.int (lo+i),H,I1,⟨t,?_⟩,⟨rfl,rfl⟩,st',fun b hb=>(hf b hb).1⟩⟩
  rw[Int.mul_one]
 done:=by
  intro X hP hw hK hc i pins s σ H E I hf st hg;subst hP hw hK;obtain⟨f0,f1,f2,f3,f4,f5⟩:=hf it (by simp)
  exact wpAny_pyNext_range_end (I.ok.hd hc) st (by have:n<=i:=hg;walk_at "o") fun h' eb=>⟨rfl,I.turned (t':=s.toks) (fun b o hb e=>eb b o hb e) f0 f1 f3 f4 f5⟩
 self:=fun _ _ _ _ _ st h=>wpAny_pyIter_rangeiter st h
section
variable {X:Cx}{tg:Expr}
theorem a5b {pins:List (Addr×Obj)}{σ:St}{H:Hp}{s:Shared}{R:It->Hp->Prop}{E:Value->Shared->Prop}{lo hi:Int}{t u v:Tok}{tk:Nat}(I:Inv X pins σ H s)(h1:-(2^62)<=lo)(h2:lo<2^62)(h3:-(2^62)<=hi)(h4:hi<2^62)
  (q:R (Itr lo (hi-lo).toNat) H):wpAny (model X.prog X.w) X.A (pyIter (.ref s.heap.objs.size)) (PIE X pins σ tg R) E {s with heap:=s.heap.push {cls:=.type "range",data:=.fields #[.int lo t,.int hi u,.int 1 v]},toks:=tk}:=by
 refine wpAny_pyIter_range (IsRange.new ..) (small_one h1 h2 h3 h4) ?_;have I1:Inv X pins σ H {s with heap:=s.heap.push {cls:=.type "range",data:=.fields #[.int lo t,.int hi u,.int 1 v]},toks:=tk}:=I.kept fun b o e=>zD _ e
 refine⟨(s.heap.push {cls:=.type "range",data:=.fields #[.int lo t,.int hi u,.int 1 v]}).objs.size,[(s.heap.push {cls:=.type "range",data:=.fields #[.int lo t,.int hi u,.int 1 v]}).objs.size],_,_,H,rfl,
  I1.kept (t':=tk) fun b o e=>zD _ e,a5Y _ lo (hi-lo).toNat,?_,fun b hb=>?_,q⟩
 ·have e1:lo+((0:Nat):Int)*1=lo:=by simp
  have e2:(((hi-lo).toNat:Nat):Int)-((0:Nat):Int)=Builtin.Range.rangeSize lo hi 1:=by rw[rangeSize_one];split<;>walk_at "o"
  show IsRangeIter _ _ (lo+((0:Nat):Int)*1) ((((hi-lo).toNat:Nat):Int)-((0:Nat):Int)) 1;rw[e1,e2];exact zS _ rfl
 ·have e:b=(s.heap.push {cls:=.type "range",data:=.fields #[.int lo t,.int hi u,.int 1 v]}).objs.size:=by simpa using hb
  subst e;exact I1.fpOk (zE _) (I1.hok.fresh (zE _))
def iRng1 (ta:TA):TI:=fun σ H R=>ta σ H fun vs H1=>∃j:Int,vs=[.int j]/\-(2^62)<=j/\j<2^62/\R (Itr 0 j.toNat) H1
def iRng2 (ta:TA):TI:=fun σ H R=>ta σ H fun vs H1=>∃i j:Int,vs=[.int i,.int j]/\(-(2^62)<=i/\i<2^62/\-(2^62)<=j/\j<2^62)/\R (Itr i (j-i).toNat) H1
theorem a8e {a:Expr}{ta:TA}{p pos:Pos}(hg:Gl X "range")(hm:X.mg "range"=none)(ha:PA X [a] ta)(hs:starEach [a] X.env=[(false,eval a X.env)]:=by rfl):PI X tg (.Call (.Name "range" p) [a] [] pos) (iRng1 ta):=by
 intro pins s σ H R I h;refine Call_ (L4 I hg hm boot_range (qU (thn (ha pos pins s σ H _ I h) fun us s1 h0=>ex5 h0 fun vs H1 I1 r1 q1=>?_) hs rfl));obtain⟨j,e,q1,q2,q⟩:=q1;subst e;cases r1 with
 | cons r rr=>
  cases rr;obtain⟨t,rfl⟩:=r;exact call_range_1 (a5b I1 (by walk_at "o") (by walk_at "o") q1 q2 (by simpa using q))
theorem a8i {a b:Expr}{ta:TA}{p pos:Pos}(hg:Gl X "range")(hm:X.mg "range"=none)(ha:PA X [a,b] ta)(hs:starEach [a,b] X.env=[(false,eval a X.env),(false,eval b X.env)]:=by rfl)(hs2:starEach [b] X.env=[(false,eval b X.env)]:=by rfl):
  PI X tg (.Call (.Name "range" p) [a,b] [] pos) (iRng2 ta):=by
 intro pins s σ H R I h;refine Call_ (L4 I hg hm boot_range (qU (thn (ha pos pins s σ H _ I h) fun us s1 h0=>ex5 h0 fun vs H1 I1 r1 q1=>?_) (by rw[hs,hs2]) (by rw[hs2];rfl)))
 obtain⟨i,j,e,⟨q1,q2,q3,q4⟩,q⟩:=q1;subst e;cases r1 with
 | cons r rr=>
  cases rr with
  | cons r' rr=>
   cases rr;obtain⟨t,rfl⟩:=r;obtain⟨t',rfl⟩:=r';exact call_range_2 (a5b I1 q1 q2 q3 q4 q)
def tFor (wi:TI) (g:TG) (tb:TS):TS:=fun D σ H=>wi σ H fun J H1=>∃W:Nat->Nat->St->Hp->Prop,(∃m,W 0 m σ H1)/\∀i m σ H,W i m σ H->
 (J.stop i H/\D.nx σ H)\/(J.go i H/\∃N:St->Hp->Prop,(∀σ' H',N σ' H'->∃m',m'<m/\W (i+1) m' σ' H')/\∀x H',J.yld i H x H'->g x σ H' fun σ2 H2=>tb {D with nx:=N,ct:=N,bk:=D.nx} σ2 H2)
def pinsAt (fp:List Addr) (h:Heap):List (Addr×Obj):=fp.filterMap fun b=>(h.get? b).map fun o=>(b,o)
theorem B0 {fp:List Addr}{h:Heap}{b:Addr}{o:Obj}(hb:b∈fp)(e:h.get? b=some o):(b,o)∈pinsAt fp h:=mem_filterMap.mpr ⟨b,hb,by rw[e];rfl⟩
theorem a8k {fp:List Addr}{h:Heap}{p:Addr×Obj}(hp:p∈pinsAt fp h):p.1∈fp/\h.get? p.1=some p.2:=by
 obtain⟨b,hb,e⟩:=mem_filterMap.mp hp;cases q:h.get? b with
 | none=>rw[q] at e;cases e
 | some o=>
  rw[q] at e;have e':(b,o)=p:=qV e;subst e';exact⟨hb,q⟩
theorem Inv.pinned {pins:List (Addr×Obj)}{σ:St}{H:Hp}{s:Shared}{fp:List Addr}(I:Inv X pins σ H s)(hf:∀b∈fp,FpOk X pins H b)(ho:∀b∈fp,∃o,s.heap.get? b=some o/\∀v,o.data≠.cell v):Inv X (pins++pinsAt fp s.heap) σ H s:=
 I.pins_of fun p hp=>(qG.mp hp).elim (fun z=>I.pin p (qA _ z)) fun z=>by
  obtain⟨hb,e⟩:=a8k z;obtain⟨f0,f1,f2,_⟩:=hf p.1 hb;obtain⟨o,e',d⟩:=ho p.1 hb;rw[e] at e';cases e';exact⟨e,f0,f1,f2,d⟩
theorem Inv.unpinned {pins pl:List (Addr×Obj)}{σ:St}{H:Hp}{s:Shared}(I:Inv X (pins++pl) σ H s):Inv X pins σ H s:=I.pins_of fun p hp=>I.pin p (qA _ (xC _ hp))
theorem b4b {iter:Expr}{body:List Stmt}{wi:TI}{g:TG}{tb:TS}{pos:Pos}(hp:PassesOwn (model X.prog X.w) X.A X.env X.xe)(hc:X.calm=true)(hi:PI X tg iter wi)(hg:PG X tg g)(hb:PSs X body tb)
  (hs:∀x,foldedSetIterable iter X.env x=pure x:=by intro _;rfl):PS X (.For tg iter body [] pos) (tFor wi g tb):=by
 intro pins s σ H D I h;refine wpAny_For (thn (hi pins s σ H _ I h) fun v s1 h1=>thn h1 fun itv s2 h2=>?_) hs;obtain⟨it,fp,tn,J,H2,e,I2,T,st2,f2,W,⟨m0,w0⟩,turn⟩:=h2;subst e;have stat:∀{H':Hp},(∀b∈fp,H' b=none)->∀b∈fp,FpOk X pins H' b:=fun hn b hb=>⟨hn b hb,(f2 b hb).2⟩;refine codeAny_forLoop_any (fun n s'=>∃i σ' H',Inv X pins σ' H' s'/\tn i s'.heap/\(∀b∈fp,H' b=none)/\W i n σ' H') ?_ m0 ⟨0,σ,H2,I2,st2,fun b hb=>(f2 b hb).1,w0⟩;rintro n s3 ⟨i,σ3,H3,I3,st3,fr3,w3⟩;rcases turn i n σ3 H3 w3 with ⟨stop,qn⟩|⟨go,N,hN,step⟩
 ·refine xV hp (thn (T.done X rfl rfl rfl hc i pins s3 σ3 H3 X.xe I3 (stat fr3) st3 stop) fun r s4 ⟨hr,I4⟩=>?_);subst hr;exact wpAny_execs_nil ⟨σ3,H3,I4,qn⟩
 ·refine xV hp (thn (T.item X rfl rfl rfl hc i pins s3 σ3 H3 X.xe I3 (stat fr3) st3 go) fun r s4 ⟨u,hr,h4⟩=>?_);subst hr;refine xV hp (thn h4 fun _ s5 ⟨x,H5,I5,r5,y5,st5,fr5⟩=>?_);have I5':=I5.pinned (stat fr5) (T.obj _ _ st5);refine xV hp (thn (hg _ s5 σ3 H5 x u _ I5' r5 (step x H5 y5)) fun _ s6 ⟨σ6,H6,I6,q6⟩=>?_);refine xV hp (thn (hb _ s6 σ6 H6 _ I6 q6) fun f s7 q7=>?_);have again:∀{σ7:St} {H7:Hp},Inv X (pins++pinsAt fp s5.heap) σ7 H7 s7->N σ7 H7->∃m,m<n/\∃i σ' H',Inv X pins σ' H' s7/\tn i s7.heap/\(∀b∈fp,H' b=none)/\W i m σ' H':=fun{σ7 H7} I7 n7=>by
   obtain⟨m',hm,w7⟩:=hN σ7 H7 n7;refine⟨m',hm,i+1,σ7,H7,I7.unpinned,T.keep _ _ _ st5 fun b hb o e=>(I7.pin (b,o) (qA _ (qA _ (B0 hb e)))).1,fun b hb=>?_,w7⟩;obtain⟨o,e,d⟩:=T.obj _ _ st5 b hb;exact(I7.pin (b,o) (qA _ (qA _ (B0 hb e)))).2.1
  cases f with
  | next=>obtain⟨σ7,H7,I7,n7⟩:=q7;exact again I7 n7
  | cont=>obtain⟨σ7,H7,I7,n7⟩:=q7;exact again I7 n7
  | brk=>obtain⟨σ7,H7,I7,q7⟩:=q7;exact⟨σ7,H7,I7.unpinned,q7⟩
  | ret v=>obtain⟨x7,σ7,H7,I7,r7,q7⟩:=q7;exact⟨x7,σ7,H7,I7.unpinned,r7,q7⟩
end
abbrev R2:=V->V->Hp->VK->Prop
def OpR (X:Cx) (f:Value->Value->Sem Value) (r:R2):Prop:=
 ∀(pins:List (Addr×Obj)) (s:Shared) (σ:St) (H:Hp) (x y:V) (v u:Value) (Q:VK),Inv X pins σ H s->RelV x v->RelV y u->r x y H Q->
  wpAny (model X.prog X.w) X.A (f v u) (EP X pins σ Q) X.xe s
def UnR (X:Cx) (f:Value->Sem Value) (r:V->Hp->VK->Prop):Prop:=
 ∀(pins:List (Addr×Obj)) (s:Shared) (σ:St) (H:Hp) (x:V) (v:Value) (Q:VK),Inv X pins σ H s->RelV x v->r x H Q->
  wpAny (model X.prog X.w) X.A (f v) (EP X pins σ Q) X.xe s
def CallR (X:Cx) (f:Value) (r:List V->Hp->VK->Prop):Prop:=
 ∀(pins:List (Addr×Obj)) (s:Shared) (σ:St) (H:Hp) (xs:List V) (us:List Value) (Q:VK),Inv X pins σ H s->Vals xs us->r xs H Q->
  wpAny (model X.prog X.w) X.A (call f us) (EP X pins σ Q) X.xe s
def TruR (X:Cx) (r:V->Hp->(Bool->Hp->Prop)->Prop):Prop:=
 ∀(pins:List (Addr×Obj)) (s:Shared) (σ:St) (H:Hp) (x:V) (v:Value) (Q:Bool->Hp->Prop),Inv X pins σ H s->RelV x v->r x H Q->
  wpAny (model X.prog X.w) X.A (truthy v) (TP X pins σ Q) X.xe s
def tOp (r:R2) (ta tb:TE):TE:=fun σ H Q=>ta σ H fun x H1=>tb σ H1 fun y H2=>r x y H2 Q
def tUn (r:V->Hp->VK->Prop) (ta:TE):TE:=fun σ H Q=>ta σ H fun x H1=>r x H1 Q
def rI (C:Int->Int->Prop) (g:Int->Int->V):R2:=fun x y H Q=>∃i j,x= .int i/\y= .int j/\C i j/\Q (g i j) H
def rI0 (g:Int->Int->V):R2:=fun x y H Q=>∃i j,x= .int i/\y= .int j/\Q (g i j) H
def rU (g:Int->V):V->Hp->VK->Prop:=fun x H Q=>∃i,x= .int i/\Q (g i) H
section
variable {X:Cx}{a b:Expr}{ta tb:TE}{pos:Pos}
theorem binT (ha:PE X a ta)(hb:PE X b tb){pins:List (Addr×Obj)}{s:Shared}{σ:St}{H:Hp}{R:V->V->Hp->Prop}(I:Inv X pins σ H s)
  (h:ta σ H fun x H1=>tb σ H1 fun y H2=>R x y H2) {Q:Value->Shared->Prop} {f:Value->Value->Sem Value}
  (hf:∀v u s2 x y H2,Inv X pins σ H2 s2->RelV x v->RelV y u->R x y H2->wpAny (model X.prog X.w) X.A (f v u) Q X.xe s2):
  wpAny (model X.prog X.w) X.A (eval a X.env) (fun v s₁=>wpAny (model X.prog X.w) X.A (eval b X.env) (fun u s₂=>wpAny (model X.prog X.w) X.A (f v u) Q X.xe s₂) X.xe s₁) X.xe s:=by
 refine thn (ha pins s σ H _ I h) fun v s1 h0=>ex5 h0 fun x H1 I1 r1 q1=>?_;refine thn (hb pins s1 σ H1 _ I1 q1) fun u s2 h0=>ex5 h0 fun y H2 I2 r2 q2=>?_;exact hf v u s2 x y H2 I2 r1 r2 q2
theorem b3r {op:Operator}{r:R2}(ho:OpR X (binaryOp op) r)(ha:PE X a ta)(hb:PE X b tb):PE X (.BinOp a op b pos) (tOp r ta tb):=by
 intro pins s σ H Q I h;exact wpAny_BinOp (binT ha hb I h fun v u s2 x y H2 I2 rx ry q=>ho pins s2 σ H2 x y v u Q I2 rx ry q)
theorem pe_un {op:UnaryOp}{r:V->Hp->VK->Prop}(ho:UnR X (unaryOp op) r)(ha:PE X a ta):PE X (.UnaryOp op a pos) (tUn r ta):=by
 intro pins s σ H Q I h;exact UnaryOp_ (thn (ha pins s σ H _ I h) fun v s1 h0=>ex5 h0 fun x H1 I1 r1 q1=>ho pins s1 σ H1 x v Q I1 r1 q1)
theorem opI {f:Value->Value->Sem Value}{C:Int->Int->Prop}{g:Int->Int->Int}
  (rule:∀(i j:Int) (t u:Tok) (s:Shared) (Q:Value->Shared->Prop) (E:Value->Shared->Prop),C i j->Q (.int (g i j) s.toks) {s with toks:=s.toks+1}->wpAny (model X.prog X.w) X.A (f (.int i t) (.int j u)) Q E s):
  OpR X f (rI C fun i j=>.int (g i j)):=by
 intro pins s σ H x y v u Q I rx ry h;obtain⟨i,j,rfl,rfl,hc,q⟩:=h;obtain⟨t,rfl⟩:=rx;obtain⟨t',rfl⟩:=ry;exact rule i j t t' s _ _ hc ⟨.int (g i j),H,I.tok _,⟨_,rfl⟩,q⟩
theorem opI0 {f:Value->Value->Sem Value}{g:Int->Int->Int}
  (rule:∀(i j:Int) (t u:Tok) (s:Shared) (Q:Value->Shared->Prop) (E:Value->Shared->Prop),Q (.int (g i j) s.toks) {s with toks:=s.toks+1}->wpAny (model X.prog X.w) X.A (f (.int i t) (.int j u)) Q E s):
  OpR X f (rI0 fun i j=>.int (g i j)):=by
 intro pins s σ H x y v u Q I rx ry h;obtain⟨i,j,rfl,rfl,q⟩:=h;obtain⟨t,rfl⟩:=rx;obtain⟨t',rfl⟩:=ry;exact rule i j t t' s _ _ ⟨.int (g i j),H,I.tok _,⟨_,rfl⟩,q⟩
theorem opB0 {f:Value->Value->Sem Value}{g:Int->Int->Bool}
  (rule:∀(i j:Int) (t u:Tok) (s:Shared) (Q:Value->Shared->Prop) (E:Value->Shared->Prop),Q (.bool (g i j)) s->wpAny (model X.prog X.w) X.A (f (.int i t) (.int j u)) Q E s):
  OpR X f (rI0 fun i j=>.bl (g i j)):=by
 intro pins s σ H x y v u Q I rx ry h;obtain⟨i,j,rfl,rfl,q⟩:=h;obtain⟨t,rfl⟩:=rx;obtain⟨t',rfl⟩:=ry;exact rule i j t t' s _ _ ⟨.bl (g i j),H,I,rfl,q⟩
def CPow (i j:Int):Prop:=0<=j/\j<=1000000/\i.natAbs<2^64
theorem b4m:OpR X (binaryOp .Add) (rI0 fun i j=>.int (i+j)):=opI0 fun _ _ _ _ _ _ _ q=>add_int q
theorem b3T:OpR X (binaryOp .Sub) (rI0 fun i j=>.int (i-j)):=opI0 fun _ _ _ _ _ _ _ q=>sub_int q
theorem b33:OpR X (binaryOp .Mod) (rI (fun _ j=>0<j) fun i j=>.int (i%j)):=opI fun i j _ _ _ _ _ hc q=>by
 have h1:(0:Int)<j:=hc;exact mod_int' (by walk_at "o") (by rw[Int.fmod_eq_emod_of_nonneg i (by walk_at "o")];exact q)
theorem b4i:OpR X (binaryOp .Pow) (rI CPow fun i j=>.int (i^j.toNat)):=opI fun _ _ _ _ _ _ _ hc q=>pow_int_small hc.1 hc.2.1 hc.2.2 q
theorem unI {f:Value->Sem Value}{g:Int->Int}
  (rule:∀(i:Int) (t:Tok) (s:Shared) (Q:Value->Shared->Prop) (E:Value->Shared->Prop),Q (.int (g i) s.toks) {s with toks:=s.toks+1}->wpAny (model X.prog X.w) X.A (f (.int i t)) Q E s):
  UnR X f (rU fun i=>.int (g i)):=by
 intro pins s σ H x v Q I rx h;obtain⟨i,rfl,q⟩:=h;obtain⟨t,rfl⟩:=rx;exact rule i t s _ _ ⟨.int (g i),H,I.tok _,⟨_,rfl⟩,q⟩
theorem b4o:UnR X (unaryOp .USub) (rU fun i=>.int (-i)):=unI fun _ _ _ _ _ q=>neg_int q
end
section
variable {X:Cx}{a b c:Expr}{ta tb:TE}{pos:Pos}
theorem b23:OpR X (compareOp .Lt) (rI0 fun i j=>.bl (decide (i<j))):=opB0 fun _ _ _ _ _ _ _ q=>lt_int q
theorem b28:OpR X (compareOp .Gt) (rI0 fun i j=>.bl (decide (j<i))):=opB0 fun _ _ _ _ _ _ _ q=>gt_int q
theorem op_ge:OpR X (compareOp .GtE) (rI0 fun i j=>.bl (decide (j<=i))):=opB0 fun _ _ _ _ _ _ _ q=>ge_int q
theorem OpR.or {f:Value->Value->Sem Value}{r r':R2}(h:OpR X f r)(h':OpR X f r'):OpR X f (fun x y H Q=>r x y H Q\/r' x y H Q):=by
 intro pins s σ H x y v u Q I rx ry q;rcases q with q|q
 ·exact h pins s σ H x y v u Q I rx ry q
 ·exact h' pins s σ H x y v u Q I rx ry q
theorem nomark (b:Expr){op:CmpOp}(h:op≠.In:=by decide)(h2:op≠.NotIn:=by decide):behindInMarks op b=false:=by
 have e1:(op==CmpOp.In)=false:=by cases op<;>first|rfl|exact absurd rfl h
 have e2:(op==CmpOp.NotIn)=false:=by cases op<;>first|rfl|exact absurd rfl h2
 cases b<;>simp[behindInMarks,e1,e2]
theorem b2b {op:CmpOp}{r:R2}(ho:OpR X (compareOp op) r)(ha:PE X a ta)(hb:PE X b tb)(hm:behindInMarks op b=false):PE X (.Compare a [op] [b] pos) (tOp r ta tb):=by
 intro pins s σ H Q I h;exact wpAny_Compare1 (binT ha hb I h fun v u s2 x y H2 I2 rx ry q=>ho pins s2 σ H2 x y v u Q I2 rx ry q) hm
def tTest (t:TE):TT:=fun σ H Q=>t σ H fun x H'=>∃k,x= .bl k/\Q k H'
theorem b1x {op:CmpOp}{r:R2}(ho:OpR X (compareOp op) r)(ha:PE X a ta)(hb:PE X b tb)(hm:behindInMarks op b=false):PT X (.Compare a [op] [b] pos) (tTest (tOp r ta tb)):=by
 intro pins s σ H Q I h
 refine wpAny_isTrue_Compare1 (thn (ha pins s σ H _ I h) fun v s1 h0=>ex5 h0 fun x H1 I1 r1 q1=>thn (hb pins s1 σ H1 _ I1 q1) fun u s2 h0=>ex5 h0 fun y H2 I2 r2 q2=>
  thn (ho pins s2 σ H2 x y v u _ I2 r1 r2 q2) fun c s3 ⟨z,H3,I3,r3,k,e,q3⟩=>?_) hm
 subst e;cases r3;exact xX ⟨H3,I3,q3⟩
def TruV (K:PySem.W.Frag) (x:V) (H:Hp) (k:Bool):Prop:=
 match x with
 | .non=>k=false
 | .bl b=>k=b
 | .int i=>k=(i != 0)
 | .str y=>y.length<=sizeLine/\k=((y.length:Int) != 0)
 | .byt y=>y.size<=sizeLine/\k=((y.size:Int) != 0)
 | .ref p=>(∃xs,SqL K H p xs/\k= !xs.isEmpty)\/(∃xs,SqT K H p xs/\k= !xs.isEmpty)\/∃kvs,H p=some (.dK kvs)/\k= !kvs.isEmpty
 | _=>False
theorem a53 {κ:Type}{kvs:List (κ×V)}{vs:List (κ×Value)}(r:KV kvs vs):(!vs.isEmpty)= !kvs.isEmpty:=by
 cases r<;>rfl
theorem a2n {xs:List V}{its:List Value}(r:Vals xs its):(!its.toArray.isEmpty)= !xs.isEmpty:=by
 cases r<;>simp
theorem line63:(sizeLine:Nat)<2^63:=by rw[jM];decide
theorem a9Z:TruR X (fun x H Q=>∃k,TruV X.K x H k/\Q k H):=by
 intro pins s σ H x v Q I rx h;obtain⟨k,e,q⟩:=h;have hl:=line63;have hs:sizeLine=16777216:=jM;cases x with
 | non=>
  cases rx;have e':k=false:=e;subst e';exact truthy_none ⟨H,I,q⟩
 | bl b=>
  cases rx;have e':k=b:=e;subst e';exact xX ⟨H,I,q⟩
 | int i=>
  obtain⟨t,rfl⟩:=rx;have e':k=(i != 0):=e;subst e';exact PySem.P.truthy_int ⟨H,I,q⟩
 | str y=>
  obtain⟨t,rfl⟩:=rx;obtain⟨hy,e'⟩:y.length<=sizeLine/\k=((y.length:Int) != 0):=e;subst e';exact PySem.P.truthy_str (by walk_at "o") ⟨H,I.tok _,q⟩
 | byt y=>
  obtain⟨t,rfl⟩:=rx;obtain⟨hy,e'⟩:y.size<=sizeLine/\k=((y.size:Int) != 0):=e;subst e';exact PySem.W.truthy_bytes (by walk_at "o") ⟨H,I.tok _,q⟩
 | ref p=>
  cases rx;have e':(∃xs,SqL X.K H p xs/\k= !xs.isEmpty)\/(∃xs,SqT X.K H p xs/\k= !xs.isEmpty)\/∃kvs,H p=some (.dK kvs)/\k= !kvs.isEmpty:=e;rcases e' with ⟨xs,hx,e'⟩|⟨xs,hx,e'⟩|⟨kvs,hx,e'⟩
  ·subst e';obtain⟨its,r,pl,hz⟩:=I.list hx;have hlen:=r.length;exact wpAny_truthy_list pl.isList (by simp only[zO];walk_at "o") ⟨H,I.tok _,by rw[a2n r];exact q⟩
  ·subst e';obtain⟨its,r,pl,hz⟩:=I.tuple hx;have hlen:=r.length;exact truthy_tuple pl (by simp only[zO];walk_at "o") ⟨H,I.tok _,by rw[a2n r];exact q⟩
  ·subst e';obtain⟨hz,hS,vs,r,m⟩:kvs.length<=sizeLine/\(p==sysModules)=false/\∃vs,KV kvs vs/\s.heap.DictAt (mixKind X.prog X.w) p vs kvs.length:=I.hok p _ hx;have hlen:kvs.length=vs.length:=xJ r;exact wpAny_truthy_dict hS m.dictOf (by walk_at "o") ⟨H,I.tok _,by rw[a53 r];exact q⟩
 | _=>exact(show False from e).elim
theorem b0i (ha:PE X a ta)(he:∀whole,isTrue a X.env whole=(do let v <-whole;standAt a.pos;holding [v] (truthy v))):
  PT X a (fun σ H Q=>ta σ H fun x H'=>∃k,TruV X.K x H' k/\Q k H'):=by
 intro pins s σ H Q I h;exact isTrue_plain (thn (ha pins s σ H _ I h) fun v s1 h0=>ex5 h0 fun x H1 I1 r1 q1=>a9Z pins s1 σ H1 x v Q I1 r1 q1) (he _)
theorem vals1 {x:V}{us:List Value}(r:Vals [x] us):∃u,us=[u]/\RelV x u:=by
 cases r with
 | cons r1 r2=>cases r2;exact⟨_,rfl,r1⟩
theorem vals2 {x y:V}{us:List Value}(r:Vals [x,y] us):∃u w',us=[u,w']/\RelV x u/\RelV y w':=by
 cases r with
 | cons r1 r2=>
  cases r2 with
  | cons r3 r4=>cases r4;exact⟨_,_,rfl,r1,r3⟩
theorem b0a:CallR X (.builtin "abs") (fun xs H Q=>∃i,xs=[.int i]/\Q (.int (if i<0 then -i else i)) H):=by
 intro pins s σ H xs us Q I r h;obtain⟨i,rfl,q⟩:=h;obtain⟨u,rfl,t,rfl⟩:=vals1 r;exact call_abs_int fun u tk=>⟨.int (if i<0 then -i else i),H,I.tok _,⟨_,rfl⟩,q⟩
theorem a1u (hc:X.calm=true):CallR X (.builtin "max") (fun xs H Q=>∃i j,xs=[.int i,.int j]/\Q (.int (if j>i then j else i)) H):=by
 intro pins s σ H xs us Q I r h;obtain⟨i,j,rfl,q⟩:=h;obtain⟨u,w',rfl,⟨t,rfl⟩,⟨t',rfl⟩⟩:=vals2 r;refine max_two_ints (I.ok.hd hc) fun h' tk k=>⟨_,H,I.kept k,?_,q⟩
 by_cases hj:j>i
 ·rw[if_pos hj,if_pos hj];exact⟨_,rfl⟩
 ·rw[if_neg hj,if_neg hj];exact⟨_,rfl⟩
theorem O4 (hc:X.calm=true):CallR X (.builtin "min") (fun xs H Q=>∃i j,xs=[.int i,.int j]/\Q (.int (if j<i then j else i)) H):=by
 intro pins s σ H xs us Q I r h;obtain⟨i,j,rfl,q⟩:=h;obtain⟨u,w',rfl,⟨t,rfl⟩,⟨t',rfl⟩⟩:=vals2 r;refine min_two_ints (I.ok.hd hc) fun h' tk k=>⟨_,H,I.kept k,?_,q⟩
 by_cases hj:j<i
 ·rw[if_pos hj,if_pos hj];exact⟨_,rfl⟩
 ·rw[if_neg hj,if_neg hj];exact⟨_,rfl⟩
end
theorem RelO.some_of {v:V}{o:Option Value}(r:RelO (some v) o):∃u,o=some u/\RelV v u:=by
 cases o with
 | none=>exact(show False from r).elim
 | some u=>exact⟨u,rfl,r⟩
structure Cls (K:PySem.W.Frag) (C:Addr):Prop where
 pg:PySem.W.plainGet K C Str.empty=true
 hd:PySem.W.hasDictIn K C=true
 po:PySem.W.plainOver K C=true
 sa:PySem.W.findIn K (.ref C) "__setattr__"=some (some (.builtin "object.__setattr__"))
section
variable {H:Hp}
inductive TyOf (K:PySem.W.Frag) (H:Hp):V->Value->Prop where
 | non:TyOf K H .non (.type "NoneType")
 | bl (x:Bool):TyOf K H (.bl x) (.type "bool")
 | int (i:Int):TyOf K H (.int i) (.type "int")
 | str (x:Str):TyOf K H (.str x) (.type "str")
 | flt (x:UInt64):TyOf K H (.flt x) (.type "float")
 | lst {a:Addr} {xs:List V} (e:H a=some (.lst xs)):TyOf K H (.ref a) (.type "list")
 | frz {a:Addr} {o:Obj} {xs:List V} (e:H a=some (.frz o (.lst xs))):TyOf K H (.ref a) (.type "list")
 | tup {a:Addr} {xs:List V} (e:H a=some (.tup xs)):TyOf K H (.ref a) (.type "tuple")
 | dK {a:Addr} {kvs:List (Key×V)} (e:H a=some (.dK kvs)):TyOf K H (.ref a) (.type "dict")
 | dT {a:Addr} {kvs:List (List Key×V)} (e:H a=some (.dT kvs)):TyOf K H (.ref a) (.type "dict")
 | ins {a C dx:Addr} {fs:List (Str×V)} (e:H a=some (.ins C dx fs)) (cl:Cls K C) (ha:PySem.W.findIn K (.ref C) "__class__"=some (some (.builtin "object.__class__")))
   (hn:PySem.W.specialIn K (.builtin "object.__class__") "__get__"=some (some (.builtin "getset_descriptor.__get__"))) (htk:PySem.W.takesIn K (.builtin "object.__class__")=some true)
   (hm:PySem.W.mroIn K C (.type "object")=some true):TyOf K H (.ref a) (.ref C)
end
structure Room (k:Nat) (A:Around):Prop where
 hd:A.handled=none
 dp:A.depth+3*k+5<recursionLimit
 un:A.units+16*k+200<cLine
 gd:A.guards=some []
theorem Room.mono {j k:Nat}{A:Around}(r:Room k A)(h:j<=k):Room j A:=⟨r.hd,by have:=r.dp;walk_at "o",by have:=r.un;walk_at "o",r.gd⟩
theorem Room.deeper {k:Nat}{A:Around}(r:Room (k+1) A)(env:Env):Room k (A.deeper env):=
 ⟨r.hd,by have:=r.dp;show A.depth+1+3*k+5<_;walk_at "o",by have:=r.un;show A.units+3+16*k+200<_;walk_at "o",r.gd⟩
theorem Room.depth {k:Nat}{A:Around}(r:Room k A):A.depth<recursionLimit:=by have:=r.dp;walk_at "o"
theorem Room.units {k:Nat}{A:Around}(r:Room k A):A.units+64<cLine:=by have:=r.un;walk_at "o"
def tNil:TA:=fun _ H Q=>Q [] H
def tCons (ta:TE) (tr:TA):TA:=fun σ H Q=>ta σ H fun x H1=>tr σ H1 fun xs H2=>Q (x::xs) H2
section
variable {X:Cx}{e:Expr}{es:List Expr}{te:TE}{t:TA}{pos:Pos}
theorem a2t:PA X [] tNil:=fun _ _ _ _ H Q I h=>Calls.spliced_nil ⟨[],H,I,.nil,h⟩
theorem K2 (ha:PE X e te)(hr:PA X es t)(hs:starEach (e::es) X.env=(false,eval e X.env)::starEach es X.env:=by rfl):PA X (e::es) (tCons te t):=by
 intro pos pins s σ H Q I h;rw[hs];show wpAny _ _ (spliced ((false,eval e X.env)::backTo pos (starEach es X.env))) _ _ s;refine Calls.spliced_cons (thn (ha pins s σ H _ I h) fun u s1 h0=>ex5 h0 fun x H1 I1 r1 q1=>?_);exact thn (hr pos pins s1 σ H1 _ I1 q1) fun us s2 h0=>ex5 h0 fun xs H2 I2 r2 q2=>⟨x::xs,H2,I2,.cons r1 r2,q2⟩
def tTup (t:TA):TE:=fun σ H Q=>t σ H fun xs H1=>xs.length<=sizeLine/\∀p,H1 p=none->Q (.ref p) (upd H1 p (.tup xs))
def tLst (t:TA):TE:=fun σ H Q=>t σ H fun xs H1=>xs.length<=sizeLine/\∀p,H1 p=none->Q (.ref p) (upd H1 p (.lst xs))
theorem a55 {x1}(h:PA X es t):PE X (.Tuple es x1 pos) (tTup t):=by
 intro pins s σ H Q I hq;refine wpAny_Tuple_spliced (thn (h pos pins s σ H _ I hq) fun us s1 ⟨xs,H1,I1,r,z,q⟩=>⟨by rw[<-r.length];exact z,?_⟩)
 have hf:H1 s1.heap.objs.size=none:=I1.hok.fresh (zE _);refine⟨.ref s1.heap.objs.size,upd H1 s1.heap.objs.size (.tup xs),I1.laid (t':=s1.toks) (fun b u e=>zD _ e) (zE _) ?_,rfl,q _ hf⟩;exact⟨z,us,r,TupN.new _ _⟩
theorem a91 (h:PA X es t):PE X (.List es pos) (tLst t):=by
 intro pins s σ H Q I hq;refine wpAny_List_spliced (thn (h pos pins s σ H _ I hq) fun us s1 ⟨xs,H1,I1,r,z,q⟩=>⟨by rw[<-r.length];exact z,?_⟩)
 have hf:H1 s1.heap.objs.size=none:=I1.hok.fresh (zE _);refine⟨.ref s1.heap.objs.size,upd H1 s1.heap.objs.size (.lst xs),I1.laid (t':=s1.toks) (fun b u e=>zD _ e) (zE _) ?_,rfl,q _ hf⟩;exact⟨z,us,0,r,zS _ rfl⟩
end
abbrev Sp:=List V->Hp->VK->XK->Prop
abbrev CXT:=List Env->Hp->Shared->XK->Value->Shared->Prop
structure Env0 (P:Program) (w:World) (K:PySem.W.Frag) (mg:Str->Option Value) (base:Heap) (A:Around) (outer:List Env) (s:Shared) (H:Hp):Prop where
 frames:A.frames=some outer
 mod:Mod K mg base
 bs:∀b o,base.get? b=some o->s.heap.get? b=some o/\H b=none
 bsz:base.objs.size<=s.heap.objs.size
 funs:s.heap.FunFrames base outer
 frf:∀b∈frs outer,H b=none
 hok:HOk P w H s.heap
 bare:AllBare s.gens
def CE (outer:List Env) (P:Program) (w:World) (H:Hp) (s:Shared) (Q:VK) (u:Value) (s':Shared):Prop:=
 ∃v H',s'.os=s.os/\AllBare s'.gens/\Un (frs outer) [] H H' s.heap s'.heap/\HOk P w H' s'.heap/\RelV v u/\Q v H'
def CR (CX:CXT) (outer:List Env) (P:Program) (w:World) (H:Hp) (s:Shared) (Q:VK) (E:XK) (r:Result) (s':Shared):Prop:=
 match r with
 | .ok (.ret u)=>CE outer P w H s Q u s'
 | .ok _=>False
 | .error e=>CX outer H s E e s'
structure FnOk (P:Program) (w:World) (K:PySem.W.Frag) (mg:Str->Option Value) (base:Heap) (CX:CXT) (k:Nat) (f:Addr) (fd:FuncData) (ps:List Str) (sp:Sp):Prop where
 len:∀vs H Q E,sp vs H Q E->vs.length=ps.length
 run:∀(A:Around) (outer:List Env) (s:Shared) (H:Hp) (args:Args) (us:List Value) (vs:List V) (Q:VK) (E:XK),Room k A->Env0 P w K mg base A outer s H->BindsTo s fd args (ps.zip us)->Vals vs us->sp vs H Q E->
  codeAny (model P w) A (.call (.ref f) args) (CR CX outer P w H s Q E) s
theorem FnOk.mono {P:Program}{w:World}{K:PySem.W.Frag}{mg:Str->Option Value}{base:Heap}{CX:CXT}{j k:Nat}{f:Addr}{fd:FuncData}{ps:List Str}{sp:Sp}(F:FnOk P w K mg base CX j f fd ps sp)(h:j<=k):
  FnOk P w K mg base CX k f fd ps sp:=⟨F.len,fun A outer s H args us vs Q E hr=>F.run A outer s H args us vs Q E (hr.mono h)⟩
section
variable {X:Cx}{pins:List (Addr×Obj)}{σ:St}{H:Hp}{s s':Shared}
theorem Inv.env0 (I:Inv X pins σ H s):Env0 X.prog X.w X.K X.mg X.base X.A X.stack s H:=
 ⟨I.ok.frames,I.ok.mod,I.bs,qC I.ok.bsz I.sz,I.stack,I.stkFree,I.hok,I.bare⟩
theorem Inv.after {Q:VK}{u:Value}(I:Inv X pins σ H s)(h:CE X.stack X.prog X.w H s Q u s'):EP X pins σ Q u s':=by
 obtain⟨v,H',os,bare,un,hok,r,q⟩:=h;obtain⟨hh,g,d,t,os'⟩:=s';obtain rfl:os'=s.os:=os;exact⟨v,H',I.call (h':=hh) (g':=g) (d':=d) (t':=t) (ch:=[]) un hok bare (fun b z=>absurd z (by simp)),r,q⟩
end
def tCall (sp:Sp) (dvs:List V) (E:XK) (t:TA):TE:=fun σ H Q=>t σ H fun vs H1=>sp (vs++dvs) H1 Q E
def Binds (K:PySem.W.Frag) (fd:FuncData) (ps:List Str) (ds:List Value):Prop:=
 ∀(s:Shared) (us:List Value),K.In s.heap->(us++ds).length=ps.length->BindsTo s fd ⟨us,[]⟩ (ps.zip (us++ds))
theorem Binds.all {K:PySem.W.Frag}{fd:FuncData}{ps:List Str}(h:∀us:List Value,us.length=ps.length->bindArgs fd ⟨us,[]⟩=pure (ps.zip us)):Binds K fd ps []:=fun s us _ hl=>by
 rw[xD] at hl ⊢;exact .of_eq (h us hl)
def Passes (CX:CXT) (X:Cx) (E:XK):Prop:=∀(pins:List (Addr×Obj)) (σ:St) (H:Hp) (s:Shared) (e:Value) (s':Shared),Inv X pins σ H s->CX X.stack H s E e s'->X.xe e s'
section
variable {X:Cx}{CX:CXT}{k:Nat}{f:Addr}{fd:FuncData}{ps:List Str}{sp:Sp}{dvs:List V}{ds:List Value}{E:XK}{x:Str}{p pos:Pos}{e:Expr}{es:List Expr}{t:TA}
theorem b31 {pins:List (Addr×Obj)}{σ:St}{H:Hp}{s:Shared}{Q:VK}{us:List Value}{vs:List V}(F:FnOk X.prog X.w X.K X.mg X.base CX k f fd ps sp)(hr:Room k X.A)(hb:Binds X.K fd ps ds)(hd:Vals dvs ds)(hx:Passes CX X E)
  (I:Inv X pins σ H s) (r:Vals vs us) (h:sp (vs++dvs) H Q E):wpAny (model X.prog X.w) X.A (call (.ref f) us) (EP X pins σ Q) X.xe s:=by
 have r2:Vals (vs++dvs) (us++ds):=r.append hd;have hl:(us++ds).length=ps.length:=by rw[<-r2.length];exact F.len _ _ _ _ h
 refine wpAny_call (codeAny_mono (F.run X.A X.stack s H ⟨us,[]⟩ (us++ds) (vs++dvs) Q E hr I.env0 (hb s us I.kIn hl) r2 h) fun r s' hq=>?_);cases r with
 | error e=>exact hx pins σ H s e s' I hq
 | ok fl=>
  cases fl with
  | ret u=>exact I.after hq
  | next=>exact False.elim hq
  | brk=>exact False.elim hq
  | cont=>exact False.elim hq
theorem a6V (F:FnOk X.prog X.w X.K X.mg X.base CX k f fd ps sp)(hr:Room k X.A)(hg:Gl X x)(hm:X.mg x=some (.ref f))(hk:PySem.W.keepIn X.K (.ref f)=true)(hb:Binds X.K fd ps ds)(hd:Vals dvs ds)(hx:Passes CX X E)
  (ha:PA X (e::es) t) (hdb:(x==("__debug__":Str))=false:=by decide) (he:starEach (e::es) X.env=(false,eval e X.env)::starEach es X.env:=by rfl) (hpl:(backTo pos (starEach es X.env)).any (·.1)=false:=by rfl):
  PE X (.Call (.Name x p) (e::es) [] pos) (tCall sp dvs E t):=by
 intro pins s σ H Q I h;refine yM (b10 I hg hm ?_ hdb);refine PySem.W.callWith_K (h₀:=X.base) I.ok.mod.kin hk (thn (ha pos pins s σ H _ I h) fun us s1 h0=>ex5 h0 fun vs H1 I1 r q=>⟨I1.kIn,?_⟩) he hpl;exact b31 F hr hb hd hx I1 r q
end
structure FnScope (N P:List Str) (sc:Scope):Prop where
 kind:sc.kind= .function
 co:sc.isCoroutine=false
 gen:sc.isGenerator=false
 nd:N.Nodup
 pre:N.take P.length=P
 par:∀x∈P,sc.names.lookup x=some .local\/sc.names.lookup x=some .cell
 nofree:∀y∈sc.names,y.2≠.free
theorem a3P {kindOf:Str->Option NameKind}{x:Str}:∀{binds:List (Str×Value)} {m:Str->Option Value},(∀v,(x,v)∉binds)->bindL kindOf binds m x=m x
 | [],_,_=>rfl
 | (n,v)::r,m,h=>by
  unfold bindL;rw[a3P fun w hw=>h w (zI _ hw)]
  split
  ·have:x≠n:=by rintro rfl;exact h v zJ
   simp[this]
  ·rfl
theorem a3m {kindOf:Str->Option NameKind}{x:Str}:∀{binds:List (Str×Value)} {m:Str->Option Value},(∀v,(x,v)∉binds)->bindC kindOf binds m x=m x
 | [],_,_=>rfl
 | (n,v)::r,m,h=>by
  unfold bindC;rw[a3m fun w hw=>h w (zI _ hw)]
  split
  ·rfl
  ·have:x≠n:=by rintro rfl;exact h v zJ
   simp[this]
theorem a3l {kindOf:Str->Option NameKind}{x:Str}{v:Value}:∀{P:List Str} {vs:List Value} {i:Nat} {m:Str->Option Value},P.Nodup->P[i]? =some x->vs[i]? =some v->kindOf x=some .local->
  bindL kindOf (P.zip vs) m x=some v
 | [],_,_,_,_,h,_,_=>by simp at h
 | _::_,[],_,_,_,_,h,_=>by simp at h
 | p::P,w::vs,0,m,nd,h1,h2,hk=>by
  simp at h1 h2;subst h1;subst h2;show bindL kindOf ((p,w)::P.zip vs) m p=_;unfold bindL;rw[a3P fun v hv=>(nodup_cons.mp nd).1 (of_mem_zip hv).1,if_pos hk];simp
 | p::P,w::vs,i+1,m,nd,h1,h2,hk=>by
  show bindL kindOf ((p,w)::P.zip vs) m x=_;unfold bindL;exact a3l (i:=i) (nodup_cons.mp nd).2 (by simpa using h1) (by simpa using h2) hk
theorem a3S {kindOf:Str->Option NameKind}{x:Str}{v:Value}:∀{P:List Str} {vs:List Value} {i:Nat} {m:Str->Option Value},P.Nodup->P[i]? =some x->vs[i]? =some v->kindOf x≠some .local->
  bindC kindOf (P.zip vs) m x=some v
 | [],_,_,_,_,h,_,_=>by simp at h
 | _::_,[],_,_,_,_,h,_=>by simp at h
 | p::P,w::vs,0,m,nd,h1,h2,hk=>by
  simp at h1 h2;subst h1;subst h2;show bindC kindOf ((p,w)::P.zip vs) m p=_;unfold bindC;rw[a3m fun v hv=>(nodup_cons.mp nd).1 (of_mem_zip hv).1,if_neg hk];simp
 | p::P,w::vs,i+1,m,nd,h1,h2,hk=>by
  show bindC kindOf ((p,w)::P.zip vs) m x=_;unfold bindC;exact a3S (i:=i) (nodup_cons.mp nd).2 (by simpa using h1) (by simpa using h2) hk
def start (N:List Str) (vs:List V):St:=vs.map some++List.replicate (N.length-vs.length) none
def cxOf (CX:CXT) (P:Program) (w:World) (K:PySem.W.Frag) (mg:Str->Option Value) (base:Heap) (N:List Str) (qual:Str) (scope:Scope) (f:Addr) (cd:Value) (A:Around) (outer:List Env) (s:Shared) (H:Hp) (E:XK):Cx where
 prog:=P
 w:=w
 K:=K
 mg:=mg
 base:=base
 A:=A.deeper (envOfC qual scope s.heap.objs.size f cd)
 N:=N
 s₀:=s
 H₀:=H
 env:=envOfC qual scope s.heap.objs.size f cd
 outer:=outer
 stack:=envOfC qual scope s.heap.objs.size f cd::outer
 ex:=[]
 calm:=true
 fn:=fun _=>true
 pn:=[]
 xe:=fun e s'=>wpAny (model P w) (A.deeper (envOfC qual scope s.heap.objs.size f cd)) (leaving (envOfC qual scope s.heap.objs.size f cd) e) (fun _ s''=>CX outer H s E e s'') (fun e' s''=>CX outer H s E e' s'') s'
theorem a5x {sc:Scope}{n:Nat}{x:Str}(h:sc.names.lookup x=some .cell):∃c,(cellsFrom n sc.names []).lookup x=some c:=by
 have q:=PySem.W.cellsFrom_some sc.names n [] (.inl h);exact isSome_iff_exists.mp q
theorem a8s {CX:CXT}{P:Program}{w:World}{K:PySem.W.Frag}{mg:Str->Option Value}{base:Heap}{N ps:List Str}{qual:Str}{scope:Scope}{f:Addr}{cd:Value}{A:Around}{outer:List Env}{s s1:Shared}{H:Hp}{E:XK}{us:List Value}{vs:List V}
  (S:FnScope N ps scope) (hd:A.handled=none) (e0:Env0 P w K mg base A outer s H) (hl:vs.length=ps.length) (r:Vals vs us)
  (x:InCallC s s.heap.objs.size (bindL (envOfC qual scope s.heap.objs.size f cd).kindOf (ps.zip us) fun _=>none) (cellsFrom (s.heap.objs.size+1) scope.names []) (bindC (envOfC qual scope s.heap.objs.size f cd).kindOf (ps.zip us) fun _=>none) s1):
  Inv (cxOf CX P w K mg base N qual scope f cd A outer s H E) [] (start N vs) H s1:=by
 have hpl:ps.length<=N.length:=by have:=yQ List.length S.pre;rw[length_take] at this;walk_at "o"
 obtain⟨h1,tk,rfl,hk⟩:=x.done;have noA:∀b:Addr,b∉(cxOf CX P w K mg base N qual scope f cd A outer s H E).ex:=fun b z=>absurd (show b∈([]:List Addr) from z) (by simp)
 refine⟨⟨e0.mod,S.kind,rfl,rfl,zE _,fun y z c h1 h2=>?_,fun y hy=>?_,fun y c _ h=>?_,fun _=>hd,Around.frames_deeper e0.frames,.inr ⟨rfl,rfl⟩,fun b z=>absurd z (noA b),e0.bs,e0.bsz,fun b _ _=>noA b,fun b z=>absurd z (noA b),e0.funs,e0.frf⟩,
  rfl,e0.bare,Un.kept hk,⟨_,x.toInCall.ns,fun i y v h1 h2 h3=>?_⟩,fun y c h=>⟨_,x.cell y c h⟩,e0.hok.fresh (zE _),fun y c h=>?_,fun p hp=>absurd (show p∈([]:List (Addr×Obj)) from hp) (by simp),e0.hok.kept hk,?_⟩
 ·exact name_of_addr x.apart (yG h1) (yG h2)
 ·have hy:scope.names.lookup y=some .cell\/scope.names.lookup y=some .free:=hy;rcases hy with hy|hy
  ·exact a5x hy
  ·exact absurd rfl (S.nofree _ (yG hy))
 ·exact Nat.le_of_lt (x.above y c (yG h))
 ·have hi:i<vs.length:=by
   unfold start at h2
   by_cases hi:i<vs.length
   ·exact hi
   ·rw[qR (by simpa using hi)] at h2
    rw[yI] at h2;split at h2<;>cases h2
  have ha:vs[i]? =some v:=by
   unfold start at h2;rw[qM (by simpa using hi),zV] at h2
   cases e:vs[i]? with
   | none=>rw[e] at h2;cases h2
   | some a=>rw[e] at h2;cases h2;rfl
  obtain⟨u,hu,rv⟩:=r.get ha;have hp:ps[i]? =some y:=by
   rw[<-S.pre,List.getElem?_take_of_lt (by walk_at "o")];exact h1
  have ndP:ps.Nodup:=by rw[<-S.pre];exact S.nd.sublist (List.take_sublist _ _)
  refine⟨u,rv,?_⟩;rcases S.par y (qX hp) with k|k
  ·exact .inl ⟨k,a3l ndP hp hu k⟩
  ·obtain⟨c,e⟩:=a5x (n:=s.heap.objs.size+1) k;refine .inr ⟨.inl k,c,e,?_⟩;have q:=x.cell y c e;rw[a3S ndP hp hu (by show scope.names.lookup y≠_;rw[k];decide)] at q
   exact q
 ·exact e0.hok.fresh (Nat.le_of_lt (x.above y c (yG h)))
 ·unfold start;show _=N.length;rw[zM,zC,length_replicate];walk_at "o"
theorem fn_of {CX:CXT}{P:Program}{w:World}{K:PySem.W.Frag}{mg:Str->Option Value}{base:Heap}{k:Nat}{f:Addr}{name qual:Str}{params:Arguments}{body:List Stmt}{scope:Scope}{dV kV doc pm cdv ct oc:Value}{an od:Option Addr}
  {osl:Array (Option Value)} {N ps:List Str} {sp:Sp} (lk:K.lookup f=some ⟨oc,od,.func (PySem.W.fnOf name qual params body scope dV kV doc pm an cdv ct),osl⟩) (hcd:PySem.W.codeIn K cdv qual=true) (S:FnScope N ps scope)
  (len:∀vs H Q E,sp vs H Q E->vs.length=ps.length)
  (hbody:∀(A:Around) (outer:List Env) (s:Shared) (H:Hp) (vs:List V) (Q:VK) (E:XK),Room k (A.deeper (envOfC qual scope s.heap.objs.size f cdv))->sp vs H Q E->
   ∃t,PSs (cxOf CX P w K mg base N qual scope f cdv A outer s H E) body t/\t {nx:=fun _ H'=>Q .non H',rt:=Q} (start N vs) H):
  FnOk P w K mg base CX (k+1) f (PySem.W.fnOf name qual params body scope dV kV doc pm an cdv ct) ps sp:=by
 refine⟨len,fun A outer s H args us vs Q E hr e0 hb r hsp=>?_⟩;have hl:=len _ _ _ _ hsp;have KX:K.In s.heap:=e0.mod.kin.keeps fun b o e=>(e0.bs b o e).1;have lim:s.heap.NoLimit:=e0.mod.nolimit.keeps fun b o e=>(e0.bs b o e).1;have hkind:∀y∈ps.zip us,scope.names.lookup y.1=some .local\/(scope.names.lookup y.1=some .cell/\((cellsFrom (s.heap.objs.size+1) scope.names []).lookup y.1).isSome=true):=fun⟨n,v⟩ hy=>by
  rcases S.par n (of_mem_zip hy).1 with q|q
  ·exact .inl q
  ·exact .inr ⟨q,PySem.W.cellsFrom_some _ _ _ (.inl q)⟩
 refine codeAny_call_function hr.depth (KX _ _ lk) rfl S.co S.gen rfl (PySem.W.codeRec_of KX hcd) (hb _ _ _ _ ?_);refine wpAny_newFunctionEnv_cells S.kind hkind fun env he s1 x=>?_;subst he;refine⟨lim.keeps x.toInCall.keep,codeAny_func ?_⟩;obtain⟨t,ht,hq⟩:=hbody A outer s H vs Q E (hr.deeper _) hsp;have I:Inv (cxOf CX P w K mg base N qual scope f cdv A outer s H E) [] (start N vs) H s1:=a8s S hr.hd e0 hl r x;refine zF (ht [] s1 (start N vs) H _ I hq) (fun fl s' hs=>?_) fun e s' hs=>hs;have fin:∀{σ':St} {H':Hp} {v:V} {u:Value},Inv (cxOf CX P w K mg base N qual scope f cdv A outer s H E) [] σ' H' s'->RelV v u->Q v H'->CE outer P w H s Q u s':=
  fun{σ' H' v u} J rv q=>⟨v,H',J.os,J.bare,J.base,J.hok,rv,q⟩
 cases fl with
 | ret u=>
  obtain⟨v,σ',H',J,rv,q⟩:=hs;exact fin J rv q
 | next=>
  obtain⟨σ',H',J,q⟩:=hs;exact fin (v:=V.non) (u:=Value.none) J rfl q
 | brk=>
  obtain⟨_,_,_,q⟩:=hs;exact False.elim q
 | cont=>
  obtain⟨_,_,_,q⟩:=hs;exact False.elim q
section
variable {X:Cx}{x:Str}{p pos:Pos}{e:Expr}{es:List Expr}{t:TA}{id T:String}{r:List V->Hp->VK->Prop}
def tCB (r:List V->Hp->VK->Prop) (t:TA):TE:=fun σ H Q=>t σ H fun vs H1=>r vs H1 Q
theorem a19 (hc:CallR X (.builtin id) r)(hg:Gl X x)(hm:X.mg x=none)(hv:bootBuiltins x=some (.builtin id))(ha:PA X (e::es) t)(hn:x≠"__name__":=by decide)(hdb:(x==("__debug__":Str))=false:=by decide)
  (he:starEach (e::es) X.env=(false,eval e X.env)::starEach es X.env:=by rfl) (hpl:(backTo pos (starEach es X.env)).any (·.1)=false:=by rfl):PE X (.Call (.Name x p) (e::es) [] pos) (tCB r t):=by
 intro pins s σ H Q I h;refine yM (L4 I hg hm hv ?_ hn hdb);exact PyProof.Rows.callWith_builtin1 (thn (ha pos pins s σ H _ I h) fun us s1 h0=>ex5 h0 fun vs H1 I1 r1 q1=>hc pins s1 σ H1 vs us Q I1 r1 q1) he hpl
theorem a8x (hc:CallR X (.type T) r)(hg:Gl X x)(hm:X.mg x=none)(hv:bootBuiltins x=some (.type T))(ha:PA X (e::es) t)(hn:x≠"__name__":=by decide)(hdb:(x==("__debug__":Str))=false:=by decide)
  (he:starEach (e::es) X.env=(false,eval e X.env)::starEach es X.env:=by rfl) (hpl:(backTo pos (starEach es X.env)).any (·.1)=false:=by rfl):PE X (.Call (.Name x p) (e::es) [] pos) (tCB r t):=by
 intro pins s σ H Q I h;refine yM (L4 I hg hm hv ?_ hn hdb);exact qU (thn (ha pos pins s σ H _ I h) fun us s1 h0=>ex5 h0 fun vs H1 I1 r1 q1=>hc pins s1 σ H1 vs us Q I1 r1 q1) he hpl
end
end L2
namespace HT
open PySem PyProof.Rows
def lexLt:List Int->List Int->Bool
 | [],[]=>false
 | [],_::_=>true
 | _::_,[]=>false
 | x::xs,y::ys=>if x=y then lexLt xs ys else decide (x<y)
theorem lexLt_cons (x y:Int)(xs ys:List Int):lexLt (x::xs) (y::ys)=if x=y then lexLt xs ys else decide (x<y):=rfl
theorem a21:lexLt [] []=false:=rfl
theorem a2A (y:Int)(ys:List Int):lexLt [] (y::ys)=true:=rfl
theorem a2v (x:Int)(xs:List Int):lexLt (x::xs) []=false:=rfl
theorem b0p (A:Around)(s:Shared)(a:Int)(t:Tok)(c:Int)(u:Tok):∃e,SeqAt.EqAt A s (.int a t) (.int c u) e/\(e=true↔a=c):=
 ⟨(a==c),SeqAt.EqAt.int_int a t c u,by simp⟩
theorem b1i (A:Around)(s:Shared)(a:Int)(t:Tok)(c:Int)(u:Tok)(prog:Program)(w:World)(E:Value->Shared->Prop)(Q:Value->Shared->Prop)(h:Q (.bool (decide (a<c))) s):
  wpAny (model prog w) A (richCompare .Lt (.int a t) (.int c u)) Q E s:=
 (PyProof.Rows.lt_int h:wpAny (model prog w) A (compareOp .Lt (.int a t) (.int c u)) Q E s)
section
open PySem.SeqAt
open PySem.AutoSeq1 (wpAny_loadPart')
open PySem.MeetsSeq PySem.MeetsSeq2 PySem.MeetsSeq3
theorem a2Z (l b:Addr)(items items2:Array Value)(n n2:Nat)(dd dd2:Option Addr)(sl sl2:Array (Option Value))(ns ms:List Int)(hi:IntsAre items.toList ns)(hj:IntsAre items2.toList ms):
  Meets (Builtin.«tuple.__lt__» ⟨[.ref l,.ref b],[]⟩)
   (fun _ R s=>s.heap.get? l=some {cls:=.type "tuple",dict:=dd,data:=.seq items n,slots:=sl}/\s.heap.get? b=some {cls:=.type "tuple",dict:=dd2,data:=.seq items2 n2,slots:=sl2}/\
    R (.ok (.ret (.bool (lexLt ns ms)))) s):=
 .of_wp fun prog w A R s h=>by
  obtain⟨hp,g,d,tk,os⟩:=s;obtain⟨hl,hb,h⟩:=h;have f2:=AutoSeq1.sub_tuple_tuple;have z1:items.size=ns.length:=by rw[<-hi.length];simp
  have z2:items2.size=ms.length:=by rw[<-hj.length];simp
  wp_walk using wpAny_loadPart' hl,wpAny_loadPart' hb,wpAny_forIn_list _ (fun rest b s'=>b.1=none/\s'=⟨hp,g,d,tk,os⟩/\∃(vs ws:List Value) (ns' ms':List Int),rest=vs.zip ws/\
   IntsAre vs ns'/\IntsAre ws ms'/\ns'.length+items2.size=ms'.length+items.size/\R (.ok (.ret (.bool (lexLt ns' ms')))) ⟨hp,g,d,tk,os⟩) _
  case turn=>
   rintro⟨y,x⟩ rest b s' ⟨hb',rfl,vs,ws,ns',ms',hz,hvi,hwi,hlen,hR⟩;cases hvi with
   | nil=>rw[zip_nil_left] at hz;cases hz
   | cons a t hvi'=>
    cases hwi with
    | nil=>rw[List.zip_nil_right] at hz;cases hz
    | cons c u hwi'=>
     rw[jZ] at hz;injection hz with hyx hrest
     injection hyx with hy hx
     subst hy hx;rw[lexLt_cons] at hR;simp only[qJ] at hlen;obtain⟨e,he,hiff⟩:=b0p A.in1 ⟨hp,g,d,tk,os⟩ a t c u;refine zA (he prog w _ _ ?_);cases e with
     | true=>
      rw[if_pos (hiff.mp rfl)] at hR
      wp_walk
      exact⟨rfl,rfl,_,_,_,_,hrest,hvi',hwi',by walk_at "o",hR⟩
     | false=>
      rw[if_neg (fun q=>absurd (hiff.mpr q) zP)] at hR;have hri:=b1i A.in1 ⟨hp,g,d,tk,os⟩ a t c u prog w
      wp_walk using hri
      exact⟨_,rfl,by simpa using hR⟩
  case fin=>
   rintro⟨b1,b2⟩ s' ⟨hb',rfl,vs,ws,ns',ms',hz,hvi,hwi,hlen,hR⟩;simp only at hb';subst hb';have hv:lexLt ns' ms'=decide (items.size<items2.size):=by
    cases hvi with
    | nil=>
     cases hwi with
     | nil=>
      simp only[xY] at hlen;rw[a21];exact(qK (by walk_at "o")).symm
     | cons c u hw=>
      simp only[xY,qJ] at hlen;rw[a2A];exact(qL (by walk_at "o")).symm
    | cons a t hv=>
     cases hwi with
     | nil=>
      simp only[xY,qJ] at hlen;rw[a2v];exact(qK (by walk_at "o")).symm
     | cons c u hw=>
      rw[jZ] at hz;cases hz
   rw[hv] at hR
   wp_walk
   exact⟨_,rfl,by simpa [Builtin.Tuple.tupleCompareSizes] using hR⟩
  case h=>
   exact⟨rfl,rfl,items.toList,items2.toList,ns,ms,rfl,hi,hj,by walk_at "o",h⟩
end
section
variable {prog:Program}{w:World}{A:Around}{E:Value->Shared->Prop}{s:Shared}
theorem lt_tupInts {l b:Addr}{items items2:Array Value}{ns ms:List Int}{Q:Value->Shared->Prop}(hl:IsTup s.heap l items)(hb:IsTup s.heap b items2)(hi:IntsAre items.toList ns)(hj:IntsAre items2.toList ms)
  (hu:A.units<cLine) (h:Q (.bool (lexLt ns ms)) s):wpAny (model prog w) A (compareOp .Lt (.ref l) (.ref b)) Q E s:=by
 obtain⟨⟨cls,dd,data,sl⟩,ho,hc,n,hd⟩:=id hl;obtain⟨⟨cls2,dd2,data2,sl2⟩,ho2,hc2,n2,hd2⟩:=id hb;simp only at hc hd hc2 hd2;subst hc hd hc2 hd2;exact richCompare_meets_room (op:=.Lt) ⟨_,ho,rfl⟩ ⟨_,ho2,rfl⟩ PySem.F.slot_tuple_lt PySem.F.entry_tuple_lt (PySem.F.args_tuple_lt_2 _ _) (a2Z l b items items2 n n2 dd dd2 sl sl2 ns ms hi hj)
  ⟨ho,ho2,show Value.bool (lexLt ns ms)≠Value.notImplemented/\Q (.bool (lexLt ns ms)) s from⟨(fun x=>nomatch x),h⟩⟩ hu
theorem cat_tup {t b:Addr}{vs ws:List Value}{Q:Value->Shared->Prop}(ht:IsTup s.heap t vs.toArray)(hb:IsTup s.heap b ws.toArray)(hv:vs≠[])
  (h1:ws=[]->Q (.ref t) s) (h2:ws≠[]->Q (.ref s.heap.objs.size) {s with heap:=s.heap.push {cls:=.type "tuple",data:=.seq (vs++ws).toArray}})
  (hsz:vs.length+ws.length<=sizeLine):wpAny (model prog w) A (binaryOp .Add (.ref t) (.ref b)) Q E s:=by
 obtain⟨⟨cls,dd,data,sl⟩,ho,hc,n,hd⟩:=id ht;obtain⟨⟨cls2,dd2,data2,sl2⟩,ho2,hc2,n2,hd2⟩:=id hb;simp only at hc hd hc2 hd2;subst hc hd hc2 hd2;have e:vs.toArray++ws.toArray=(vs++ws).toArray:=by simp
 by_cases hw:ws=[]
 ·exact concat_meets ⟨_,ho,rfl⟩ ⟨_,ho2,rfl⟩ noFill_tuple_add seq_tuple_add PySem.F.slot_tuple_add PySem.F.entry_tuple_add (PySem.F.args_tuple_add_2 _ _)
   (tuple_addW1 t b vs.toArray ws.toArray n n2 dd dd2 sl sl2 (by simpa using hv) (by simp[hw])) ⟨ho,ho2,h1 hw⟩
 ·refine concat_meets ⟨_,ho,rfl⟩ ⟨_,ho2,rfl⟩ noFill_tuple_add seq_tuple_add PySem.F.slot_tuple_add PySem.F.entry_tuple_add (PySem.F.args_tuple_add_2 _ _)
   (tuple_addW2 t b vs.toArray ws.toArray n n2 dd dd2 sl sl2 (by simpa using hv) (by simpa using hw) (by rw[zO,zO];exact hsz)) ⟨ho,ho2,?_⟩
  rw[e];exact h2 hw
def sIx (n d:Nat):Option Int->Nat
 | none=>d
 | some v=>if v<0 then(v+(n:Int)).toNat else min v.toNat n
theorem b4q (n d:Nat)(hd:d<=n)(o:Option Int):sIx n d o<=n:=by
 cases o with
 | none=>exact hd
 | some v=>
  show(if v<0 then(v+(n:Int)).toNat else min v.toNat n)<=n
  by_cases hv:v<0
  ·rw[if_pos hv];walk_at "o"
  ·rw[if_neg hv];exact Nat.min_le_right _ _
theorem a7y (v:Int)(n d:Nat):(if v<0 then max (v+(n:Int)) 0 else min v (n:Int))=((sIx n d (some v):Nat):Int):=by
 show(if v<0 then max (v+(n:Int)) 0 else min v (n:Int))=(((if v<0 then(v+(n:Int)).toNat else min v.toNat n):Nat):Int)
 by_cases hv:v<0
 ·simp only[if_pos hv];walk_at "o"
 ·simp only[if_neg hv];walk_at "o"
theorem a6m (lo hi:Option Int)(n:Nat):Builtin.Slice.sliceAdjust lo hi 1 (n:Int)=(((sIx n 0 lo:Nat):Int),((sIx n n hi:Nat):Int)):=by
 have h1:¬((1:Int)<0):=by walk_at "o"
 unfold Builtin.Slice.sliceAdjust;simp only[h1,jW];refine Prod.ext ?_ ?_
 ·cases lo with
  | none=>rfl
  | some v=>exact a7y v n 0
 ·cases hi with
  | none=>rfl
  | some v=>exact a7y v n n
theorem a6o (i j:Nat):Builtin.Slice.slicePlaces (i:Int) (j:Int) 1=j-i:=by
 unfold Builtin.Slice.slicePlaces;have h1:(1:Int)>0:=by walk_at "o"
 simp only[h1,jC,Int.ediv_one]
 split<;>walk_at "o"
theorem a2K {v:Value}{o:Option Int}{Q:Option Int->Shared->Prop}(p:IsPart v o)(h:Q o s):wpAny (model prog w) A (Builtin.Slice.slicePartIndex v) Q E s:=by
 cases p with
 | none=>exact slicePart_none h
 | int i t=>exact slicePart_int h
theorem sliceApplied_gen {sl:Addr}{vl vu:Value}{lo hi:Option Int}{n:Nat}{Q:Int×Int×Nat->Shared->Prop}(hs:s.heap.IsSliceOf sl vl vu .none)(pl:IsPart vl lo)(pu:IsPart vu hi)
  (h:Q (((sIx n 0 lo:Nat):Int),1,sIx n n hi-sIx n 0 lo) s):wpAny (model prog w) A (Builtin.Slice.sliceApplied (.ref sl) (pure (n:Int))) Q E s:=by
 obtain⟨os,hos,hcs,hds⟩:=id hs;unfold Builtin.Slice.sliceApplied Builtin.Slice.sliceFields;refine zA (zA (qP hos hds (x:=vl) rfl (zA (qP hos hds (x:=vu) rfl (zA (qP hos hds (x:=.none) rfl (zB ?_)))))));refine zA (slicePart_none ?_);show wpAny _ _ (if((1:Int)==0)=true then _ else _) _ _ s;rw[if_neg (by decide)]
 refine zA (a2K pl (zA (a2K pu (zA (zB ?_)))));show wpAny _ _ (match Builtin.Slice.sliceAdjust lo hi 1 (n:Int) with|(lo,hi)=>pure (lo,(1:Int),Builtin.Slice.slicePlaces lo hi 1)) _ _ s
 rw[a6m lo hi n];show wpAny _ _ (pure (((sIx n 0 lo:Nat):Int),(1:Int),Builtin.Slice.slicePlaces ((sIx n 0 lo:Nat):Int) ((sIx n n hi:Nat):Int) 1)) _ _ s;rw[a6o];exact zB h
theorem a8X (xs:Array Value)(i k:Nat):((List.range k).filterMap fun(m:Nat)=>xs[((i:Int)+(m:Int)*1).toNat]?).toArray=((xs.toList.drop i).take k).toArray:=by
 have e:(fun(m:Nat)=>xs[((i:Int)+(m:Int)*1).toNat]?)=fun m=>xs[i+m]?:=by
  funext m
  have:((i:Int)+(m:Int)*1).toNat=i+m:=by walk_at "o"
  rw[this]
 rw[e]
 have:=pick_run xs i k
 rw[List.filterMap_map] at this;have e2:((fun x=>xs[x]?)∘fun x=>i+x)=fun m=>xs[i+m]?:=rfl;rw[e2] at this;rw[this]
theorem getItem_tuple_cut {t sl:Addr}{items:Array Value}{vl vu:Value}{lo hi:Option Int}{Q:Value->Shared->Prop}(ht:IsTup s.heap t items)(hs:s.heap.IsSliceOf sl vl vu .none)(pl:IsPart vl lo)(pu:IsPart vu hi)
  (hw:¬(sIx items.size 0 lo=0/\sIx items.size items.size hi=items.size))
  (h:Q (.ref s.heap.objs.size) {s with heap:=s.heap.push {cls:=.type "tuple",data:=.seq ((items.toList.drop (sIx items.size 0 lo)).take (sIx items.size items.size hi-sIx items.size 0 lo)).toArray}})
  (hsz:items.size<=sizeLine):wpAny (model prog w) A (getItem (.ref t) (.ref sl)) Q E s:=by
 have htake:sizeOk (.seq ((items.toList.drop (sIx items.size 0 lo)).take (sIx items.size items.size hi-sIx items.size 0 lo)).toArray):=by
  show((items.toList.drop (sIx items.size 0 lo)).take (sIx items.size items.size hi-sIx items.size 0 lo)).toArray.size<=sizeLine;rw[zO,length_take,List.length_drop,jY];omega
 have hj:sIx items.size items.size hi<=items.size:=b4q _ _ (zE _) hi;obtain⟨os,hos,hcs,hds⟩:=id hs;have hTs:s.TypeIs (.ref sl) "slice":=⟨os,hos,hcs⟩;unfold getItem
 try with_reducible refine qI ?_
 first|refine zA (zB ?_)|skip
 refine zA (yT ht.typeIs (by decide) ?_)
 refine zA (qE (name:=Str.ofString "__getitem__") ht.typeIs qN
  (qO qN ht.typeIs entry_tuple_getitem ?_ (args_tuple_getitem _ _)))
 show wpAny _ _ (Builtin.Tuple.tupleItemsOf (.ref t) >>=_) _ _ s;refine zA (tupleItemsOf_ ht ?_);refine zA (wpAny_typeOf hTs ?_);rw[if_pos (by decide)]
 refine zA (sliceApplied_gen hs pl pu ?_);have hno:¬((((sIx items.size 0 lo:Nat):Int)==0&&(1:Int)==1&&(sIx items.size items.size hi-sIx items.size 0 lo)==items.size)=true):=by
  intro q;rw[jJ,jJ] at q;have q1:((sIx items.size 0 lo:Nat):Int)=0:=eq_of_beq q.1.1;have q2:sIx items.size items.size hi-sIx items.size 0 lo=items.size:=eq_of_beq q.2;exact hw ⟨by omega,by omega⟩
 show wpAny _ _ (if(((sIx items.size 0 lo:Nat):Int)==0&&(1:Int)==1&&(sIx items.size items.size hi-sIx items.size 0 lo)==items.size)=true then _ else _) _ _ s;rw[if_neg hno,a8X]
 first
  | exact zA (m:=Builtin.Tuple.tupleExact _) (qD (zB ⟨_,rfl,zB h⟩) htake)
  | exact zA (m:=Builtin.Tuple.tupleExact _) (qD (zA (zB (zB ⟨_,rfl,zB h⟩))) htake)
  | exact zA (zA (m:=Builtin.Tuple.tupleExact _) (qD (zB (zB ⟨_,rfl,zB h⟩)) htake))
  | exact zA (zA (m:=Builtin.Tuple.tupleExact _) (qD (zB ⟨_,rfl,zB h⟩) htake))
end
end HT
namespace L2
open PySem PySem.Spec PyProof.Rows
abbrev TO:=St->Hp->(Option Int->Hp->Prop)->Prop
def PO (X:Cx) (e:Option Expr) (t:TO):Prop:=
 ∀(pins:List (Addr×Obj)) (s:Shared) (σ:St) (H:Hp) (Q:Option Int->Hp->Prop),Inv X pins σ H s->t σ H Q->
  wpAny (model X.prog X.w) X.A (evalPart e X.env) (fun u s'=>∃o H',Inv X pins σ H' s'/\IsPart u o/\Q o H') X.xe s
def tNoPart:TO:=fun _ H Q=>Q none H
def tPart (t:TE):TO:=fun σ H Q=>t σ H fun x H1=>∃i,x= .int i/\Q (some i) H1
theorem J4 {ns:List Int}:∀{us:List Value},Vals (ns.map V.int) us->IntsAre us ns:=by
 induction ns with
 | nil=>intro us r;rw[xW] at r;cases r;exact .nil
 | cons n ns ih=>
  intro us r;rw[zH] at r;cases r with
  | cons r1 r2=>
   obtain⟨t,e⟩:=r1;subst e;exact .cons n t (ih r2)
section
variable {X:Cx}{e:Expr}{te:TE}{lo hi:Option Expr}{tl th:TO}{pos p2:Pos}
theorem b1v:PO X none tNoPart:=by
 intro pins s σ H Q I h;rw[evalPart_none];exact zB ⟨none,H,I,.none,h⟩
theorem b1E (h:PE X e te):PO X (some e) (tPart te):=by
 intro pins s σ H Q I hw;rw[evalPart_some];refine thn (h pins s σ H _ I hw) fun u s1 h0=>ex5 h0 fun x H1 I1 r1 q1=>?_;obtain⟨i,rfl,q⟩:=q1;obtain⟨t,rfl⟩:=r1;exact⟨some i,H1,I1,.int i t,q⟩
def SlR (X:Cx) (r:V->Option Int->Option Int->Hp->VK->Prop):Prop:=
 ∀(pins:List (Addr×Obj)) (s:Shared) (σ:St) (H:Hp) (x:V) (v vl vu:Value) (lo hi:Option Int) (sl:Addr) (Q:VK),Inv X pins σ H s->RelV x v->s.heap.IsSliceOf sl vl vu .none->IsPart vl lo->IsPart vu hi->r x lo hi H Q->
  ∃T id,typeLookup (.type T) "__getitem__"=pure (some (.builtin id))/\s.TypeIs v T/\wpAny (model X.prog X.w) X.A (getItem v (.ref sl)) (EP X pins σ Q) X.xe s
theorem SlR.or {r r':V->Option Int->Option Int->Hp->VK->Prop}(h:SlR X r)(h':SlR X r'):SlR X (fun x lo hi H Q=>r x lo hi H Q\/r' x lo hi H Q):=by
 intro pins s σ H x v vl vu lo hi sl Q I rx hs pl pu q;rcases q with q|q
 ·exact h pins s σ H x v vl vu lo hi sl Q I rx hs pl pu q
 ·exact h' pins s σ H x v vl vu lo hi sl Q I rx hs pl pu q
def tSl (r:V->Option Int->Option Int->Hp->VK->Prop) (te:TE) (tl th:TO):TE:=fun σ H Q=>te σ H fun x H1=>tl σ H1 fun l H2=>th σ H2 fun u H3=>r x l u H3 Q
theorem b0t {r:V->Option Int->Option Int->Hp->VK->Prop}(hr:SlR X r)(he:PE X e te)(hl:PO X lo tl)(hu:PO X hi th):PE X (.Subscript e (.Slice lo hi none p2) pos) (tSl r te tl th):=by
 intro pins s σ H Q I h;refine Subscript_ (thn (he pins s σ H _ I h) fun v s1 h0=>ex5 h0 fun x H1 I1 r1 q1=>?_);refine wpAny_Slice (thn (hl pins s1 σ H1 _ I1 q1) fun vl s2 ⟨l,H2,I2,pl,q2⟩=>thn (hu pins s2 σ H2 _ I2 q2) fun vu s3 ⟨u,H3,I3,pu,q3⟩=>?_);rw[evalPart_none];refine zB ?_;have I4:Inv X pins σ H3 {s3 with heap:=s3.heap.push {cls:=.type "slice",data:=.fields #[vl,vu,.none]}}:=I3.kept (t':=s3.toks) fun b ob q=>zD _ q
 obtain⟨T,id,hT,ht,hg⟩:=hr pins {s3 with heap:=s3.heap.push {cls:=.type "slice",data:=.fields #[vl,vu,.none]}} σ H3 x v vl vu l u s3.heap.objs.size Q I4 r1 (Heap.IsSliceOf.new ..) pl pu q3
 show wpAny (model X.prog X.w) X.A (subscriptTail e (.Slice lo hi none p2) v (.ref s3.heap.objs.size)) (EP X pins σ Q) X.xe {s3 with heap:=s3.heap.push {cls:=.type "slice",data:=.fields #[vl,vu,.none]}}
 exact tail_any (ops:=[.ref s3.heap.objs.size,v]) ht hT hg (by with_unfolding_all rfl)
def cutV (xs:List V) (lo hi:Option Int):List V:=(xs.drop (HT.sIx xs.length 0 lo)).take (HT.sIx xs.length xs.length hi-HT.sIx xs.length 0 lo)
theorem a1B (xs:List V)(lo hi:Option Int):(cutV xs lo hi).length<=xs.length:=by
 unfold cutV;rw[length_take,List.length_drop];walk_at "o"
def rSlT (K:PySem.W.Frag):V->Option Int->Option Int->Hp->VK->Prop:=fun x lo hi H Q=>∃a xs,x= .ref a/\SqT K H a xs/\
 ¬(HT.sIx xs.length 0 lo=0/\HT.sIx xs.length xs.length hi=xs.length)/\∀p,H p=none->Q (.ref p) (upd H p (.tup (cutV xs lo hi)))
theorem b4h:SlR X (rSlT X.K):=by
 intro pins s σ H x v vl vu lo hi sl Q I rx hs pl pu h;obtain⟨a,xs,rfl,hx,hw,q⟩:=h;cases rx;obtain⟨its,r,ht,hz⟩:=I.tuple hx;have hlen:its.toArray.size=xs.length:=by rw[zO];exact r.length.symm
 refine⟨"tuple",_,PyProof.Rows.slot_tuple_getitem.lookup,ht.typeIs,?_⟩;refine HT.getItem_tuple_cut ht hs pl pu (by rw[hlen];exact hw) ?_ (by rw[hlen];exact hz)
 rw[hlen];refine⟨.ref s.heap.objs.size,_,I.laid (t':=s.toks) (o:=.tup (cutV xs lo hi)) (fun b ob q=>zD _ q) (zE _) ?_,rfl,q _ (I.hok.fresh (zE _))⟩;exact⟨qC (a1B xs lo hi) hz,_,(r.drop (HT.sIx xs.length 0 lo)).take (HT.sIx xs.length xs.length hi-HT.sIx xs.length 0 lo),TupN.new _ _⟩
def rLtT (K:PySem.W.Frag):R2:=fun x y H Q=>∃a b ns ms,x= .ref a/\y= .ref b/\SqT K H a (ns.map V.int)/\SqT K H b (ms.map V.int)/\Q (.bl (HT.lexLt ns ms)) H
theorem a9O (hu:X.A.units<cLine):OpR X (compareOp .Lt) (rLtT X.K):=by
 intro pins s σ H x y v u Q I rx ry h;obtain⟨a,b,ns,ms,rfl,rfl,ha,hb,q⟩:=h;cases rx;cases ry;obtain⟨its,r1,p1,_⟩:=I.tuple ha;obtain⟨its2,r2,p2,_⟩:=I.tuple hb;have i1:IntsAre its.toArray.toList ns:=J4 r1;have i2:IntsAre its2.toArray.toList ms:=J4 r2;exact HT.lt_tupInts p1 p2 i1 i2 hu ⟨.bl (HT.lexLt ns ms),H,I,rfl,q⟩
def rCatT (K:PySem.W.Frag):R2:=fun x y H Q=>∃a b xs ys,x= .ref a/\y= .ref b/\SqT K H a xs/\SqT K H b ys/\xs≠[]/\xs.length+ys.length<=sizeLine/\
 (ys=[]->Q (.ref a) H)/\(ys≠[]->∀p,H p=none->Q (.ref p) (upd H p (.tup (xs++ys))))
theorem Vals.nil_iff {xs:List V}{us:List Value}(r:Vals xs us):us=[]↔xs=[]:=by
 cases r with
 | nil=>simp
 | cons _ _=>simp
theorem a6M:OpR X (binaryOp .Add) (rCatT X.K):=by
 intro pins s σ H x y v u Q I rx ry h;obtain⟨a,b,xs,ys,rfl,rfl,ha,hb,hx,hz,q1,q2⟩:=h;cases rx;cases ry;obtain⟨its,r1,p1,_⟩:=I.tuple ha;obtain⟨its2,r2,p2,_⟩:=I.tuple hb;refine HT.cat_tup p1 p2 (fun z=>hx (r1.nil_iff.mp z)) (fun z=>⟨.ref a,H,I,rfl,q1 (r2.nil_iff.mp z)⟩) (fun z=>?_) (by rw[<-r1.length,<-r2.length];exact hz)
 refine⟨.ref s.heap.objs.size,_,I.laid (t':=s.toks) (o:=.tup (xs++ys)) (fun b ob q=>zD _ q) (zE _) ?_,rfl,q2 (fun w=>z (r2.nil_iff.mpr w)) _ (I.hok.fresh (zE _))⟩;exact⟨by rw[zM];exact hz,_,r1.append r2,TupN.new _ _⟩
end
def ixN (n:Nat) (i:Int):Option Nat:=if 0<=i then(if i<n then some i.toNat else none) else if -(n:Int)<=i then some (i+n).toNat else none
def atI {α:Type} (xs:List α) (i:Int):Option α:=(ixN xs.length i).bind fun j=>xs[j]?
theorem a6s {n:Nat}{i:Int}{j:Nat}(h:ixN n i=some j):seqIndex? i n=some j/\j<n/\-(n:Int)<=i/\i<n:=by
 unfold ixN at h
 by_cases h0:0<=i
 ·rw[if_pos h0] at h
  by_cases h1:i<n
  ·rw[if_pos h1] at h;have e:i.toNat=j:=qV h;exact⟨by rw[seqIndex_of h0 h1,e],by walk_at "o",by walk_at "o",h1⟩
  ·rw[if_neg h1] at h;cases h
 ·rw[if_neg h0] at h
  by_cases h1:-(n:Int)<=i
  ·rw[if_pos h1] at h;have e:(i+n).toNat=j:=qV h;exact⟨by rw[seqIndex_neg (by walk_at "o") h1,e],by walk_at "o",h1,by walk_at "o"⟩
  ·rw[if_neg h1] at h;cases h
theorem a3X {α:Type}{xs:List α}{i:Int}{v:α}(h:atI xs i=some v):∃j,seqIndex? i xs.length=some j/\xs[j]? =some v/\j<xs.length/\-(xs.length:Int)<=i/\i<xs.length:=by
 unfold atI at h;cases e:ixN xs.length i with
 | none=>rw[e] at h;cases h
 | some j=>
  rw[e] at h;obtain⟨h1,h2,h3,h4⟩:=a6s e;exact⟨j,h1,h,h2,h3,h4⟩
theorem z9 {α:Type}{xs:List α}{j:Nat}{v:α}(h:xs[j]? =some v):atI xs (j:Int)=some v:=by
 have hj:j<xs.length:=(zG.mp h).1;have e:ixN xs.length (j:Int)=some j:=by
  unfold ixN;rw[if_pos (by walk_at "o"),if_pos (by walk_at "o")];simp
 unfold atI;rw[e];exact h
def PlainIx (b:Expr):Prop:=∀o i,subscripted b false o i=operate [o,i] (getItem o i)
def IxR (X:Cx) (r:R2):Prop:=
 ∀(value slice:Expr) (pins:List (Addr×Obj)) (s:Shared) (σ:St) (H:Hp) (x y:V) (v u:Value) (Q:VK),Inv X pins σ H s->RelV x v->RelV y u->r x y H Q->
  subscripted slice false v u=operate [v,u] (getItem v u)->wpAny (model X.prog X.w) X.A (subscriptTail value slice v u) (EP X pins σ Q) X.xe s
def MtR (X:Cx) (id:String) (r:V->List V->Hp->VK->Prop):Prop:=
 ∀(pins:List (Addr×Obj)) (s:Shared) (σ:St) (H:Hp) (x:V) (xs:List V) (v:Value) (us:List Value) (Q:VK),Inv X pins σ H s->RelV x v->Vals xs us->r x xs H Q->
  wpAny (model X.prog X.w) X.A (call (.builtin id) (v::us)) (EP X pins σ Q) X.xe s
section
variable {X:Cx}{a b:Expr}{ta tb:TE}{pos:Pos}
theorem IxR.or {r r':R2}(h:IxR X r)(h':IxR X r'):IxR X (fun x y H Q=>r x y H Q\/r' x y H Q):=by
 intro value slice pins s σ H x y v u Q I rx ry q hs;rcases q with q|q
 ·exact h value slice pins s σ H x y v u Q I rx ry q hs
 ·exact h' value slice pins s σ H x y v u Q I rx ry q hs
theorem pe_ix {r:R2}(hr:IxR X r)(ha:PE X a ta)(hb:PE X b tb)(hs:PlainIx b):PE X (.Subscript a b pos) (tOp r ta tb):=by
 intro pins s σ H Q I h;exact Subscript_ (binT ha hb I h fun v u s2 x y H2 I2 rx ry q=>hr a b pins s2 σ H2 x y v u Q I2 rx ry q (hs _ _))
def rIxL (K:PySem.W.Frag):R2:=fun x y H Q=>∃p xs i v,x= .ref p/\y= .int i/\SqL K H p xs/\atI xs i=some v/\Q v H
def rIxT (K:PySem.W.Frag):R2:=fun x y H Q=>∃p xs i v,x= .ref p/\y= .int i/\SqT K H p xs/\atI xs i=some v/\Q v H
def rIxS:R2:=fun x y H Q=>∃z i c,x= .str z/\y= .int i/\z.length<=sizeLine/\atI z.cps.toList i=some c/\Q (.str ⟨#[c]⟩) H
theorem b1F:IxR X (rIxL X.K):=by
 intro value slice pins s σ H x y v u Q I rx ry h hs;obtain⟨p,xs,i,z,rfl,rfl,hq,he,q⟩:=h;cases rx;obtain⟨t,rfl⟩:=ry;obtain⟨its,r,pl,hz⟩:=I.list hq;obtain⟨j,h1,h2,h3,h4,h5⟩:=a3X he;obtain⟨w,ew,rw'⟩:=r.get h2;have hl:=r.length;have hn:=line63;have fin:EP X pins σ Q w s:=⟨z,H,I,rw',q⟩
 by_cases h0:0<=i
 ·have hj:i.toNat=j:=by
   rw[seqIndex_of h0 h5] at h1;exact qV h1
  exact item_listR pl.isList h0 (by walk_at "o") (by rw[hj];simpa using ew) fin hs
 ·have hj:(i+(its.toArray.size:Int)).toNat=j:=by
   rw[seqIndex_neg (by walk_at "o") h4] at h1
   rw[zO,<-hl];exact qV h1
  exact yR (x:=w) pl.isList.typeIs slot_list_getitem.lookup
   (wpAny_getItem_list_neg (Q:=fun r s'=>r=w/\EP X pins σ Q r s') pl.isList (by walk_at "o") (by rw[zO]<;>walk_at "o") (by walk_at "o") (by rw[hj];simpa using ew) ⟨rfl,fin⟩) hs
theorem b4l:IxR X (rIxT X.K):=by
 intro value slice pins s σ H x y v u Q I rx ry h hs;obtain⟨p,xs,i,z,rfl,rfl,hq,he,q⟩:=h;cases rx;obtain⟨t,rfl⟩:=ry;obtain⟨its,r,pl,hz⟩:=I.tuple hq;obtain⟨j,h1,h2,h3,h4,h5⟩:=a3X he;obtain⟨w,ew,rw'⟩:=r.get h2;have hl:=r.length;have hn:=line63;have fin:EP X pins σ Q w s:=⟨z,H,I,rw',q⟩;exact yR (x:=w) pl.typeIs slot_tuple_getitem.lookup
  (getItem_tuple (j:=j) (Q:=fun r s'=>r=w/\EP X pins σ Q r s') pl (by walk_at "o") (by walk_at "o") (by rw[zO,<-hl];exact h1) (by simpa using ew) ⟨rfl,fin⟩) hs
theorem b4u:IxR X rIxS:=by
 intro value slice pins s σ H x y v u Q I rx ry h hs;obtain⟨z,i,c,rfl,rfl,hz,he,q⟩:=h;obtain⟨t,rfl⟩:=rx;obtain⟨t',rfl⟩:=ry;obtain⟨j,h1,h2,h3,h4,h5⟩:=a3X he;have hl:z.cps.toList.length=z.length:=by simp[Str.length]
 rw[hl] at h1 h4 h5;have hn:=line63
 exact tail_any (typeIs_str s z t) slot_str_getitem.lookup (getItem_str (c:=c) (by
  have e1:decide (i < -(2^63:Int))=false:=qK (by walk_at "o")
  have e2:decide (i≥2^63)=false:=qK (by walk_at "o")
  rw[e1,e2,Bool.or_false]) (by rw[h1];simpa using h2) ⟨.str ⟨#[c]⟩,H,I.tok _,⟨_,rfl⟩,q⟩) hs
def rIx (K:PySem.W.Frag):R2:=fun x y H Q=>rIxL K x y H Q\/rIxT K x y H Q\/rIxS x y H Q
theorem b4k:IxR X (rIx X.K):=b1F.or (b4l.or b4u)
theorem a6p (its:List Value)(n j:Nat)(u:Value):Obj.mapSeq (·.setIfInBounds j u) {cls:=.type "list",data:=.seq its.toArray n}={cls:=.type "list",data:=.seq (its.set j u).toArray n}:=by
 simp[Obj.mapSeq]
theorem Inv.lst {pins:List (Addr×Obj)}{σ:St}{H:Hp}{s:Shared}{p:Addr}{xs:List V}(I:Inv X pins σ H s)(h:H p=some (.lst xs)):
  ∃(its:List Value) (n:Nat),Vals xs its/\s.heap.get? p=some {cls:=.type "list",data:=.seq its.toArray n}/\xs.length<=sizeLine:=by
 obtain⟨z,its,n,r,e⟩:=I.hok p _ h;exact⟨its,n,r,e,z⟩
theorem Inv.lstUpd {pins:List (Addr×Obj)}{σ:St}{H:Hp}{s:Shared}{p:Addr}{xs ys:List V}{its its':List Value}{n n':Nat}{f:Obj->Obj}(I:Inv X pins σ H s)(h:H p=some (.lst xs))
  (ho:s.heap.get? p=some {cls:=.type "list",data:=.seq its.toArray n}) (hf:f {cls:=.type "list",data:=.seq its.toArray n}={cls:=.type "list",data:=.seq its'.toArray n'}) (r:Vals ys its') (hz:ys.length<=sizeLine) (t:Nat):
  Inv X pins σ (upd H p (.lst ys)) {s with heap:=s.heap.update p f,toks:=t}:=by
 have e:(s.heap.update p f).get? p=some {cls:=.type "list",data:=.seq its'.toArray n'}:=by
  rw[xL f ho (by rw[hf]<;>rfl),hf]
 refine I.write (x:=p) (e:=p) (by rw[h];trivial) (.inl rfl) (fun b u hb q=>(Heap.get?_update_other _ _ (qT hb)).trans q) ⟨_,e⟩ ?_
 exact⟨hz,its',n',r,e⟩
def rSetL:V->V->V->Hp->(Hp->Prop)->Prop:=fun o i v H Q=>∃p xs k j,o= .ref p/\i= .int k/\H p=some (.lst xs)/\ixN xs.length k=some j/\Q (upd H p (.lst (xs.set j v)))
theorem b0O:PSet X rSetL:=by
 intro pins s σ H o i v ov iv u Q I ro ri rv h;obtain⟨p,xs,k,j,rfl,rfl,hp,hj,q⟩:=h;cases ro;obtain⟨t,rfl⟩:=ri;obtain⟨its,n,r,ho,hz⟩:=I.lst hp;obtain⟨h1,h2,h3,h4⟩:=a6s hj;have hl:=r.length;have hn:=line63;have I':Inv X pins σ (upd H p (.lst (xs.set j v))) {s with heap:=s.heap.update p (Obj.mapSeq (·.setIfInBounds j u))}:=
  I.lstUpd hp ho (a6p its n j u) (r.set rv j) (by rw[qS];exact hz) s.toks
 by_cases h0:0<=k
 ·have hk:k.toNat=j:=by
   rw[seqIndex_of h0 h4] at h1;exact qV h1
  exact PySem.W.ki_setAt ho h0 (by walk_at "o") (by rw[zO,<-hl];exact h4) (by rw[hk];exact⟨_,I',q⟩)
 ·have hk:(k+(its.toArray.size:Int)).toNat=j:=by
   rw[seqIndex_neg (by walk_at "o") h3] at h1
   rw[zO,<-hl];exact qV h1
  exact PySem.W.ki_setBack ho (by walk_at "o") (by rw[zO,<-hl];exact h3) (by walk_at "o") (by rw[hk];exact⟨_,I',q⟩)
theorem a4c (lo hi:Option Int)(n:Nat):(sliceBounds lo hi none n).1=((HT.sIx n 0 lo:Nat):Int)/\(sliceBounds lo hi none n).2.1=((HT.sIx n n hi:Nat):Int)/\(sliceBounds lo hi none n).2.2=1:=by
 refine⟨?_,?_,rfl⟩
 ·cases lo with
  | none=>simp[sliceBounds,HT.sIx]
  | some i=>
   simp only[sliceBounds,HT.sIx,getD_none,show(1:Int)>0 by decide,jC]
   by_cases h:i<0
   ·simp only[h,jC]<;>walk_at "o"
   ·simp only[h,jW]<;>walk_at "o"
 ·cases hi with
  | none=>simp[sliceBounds,HT.sIx]
  | some i=>
   simp only[sliceBounds,HT.sIx,getD_none,show(1:Int)>0 by decide,jC]
   by_cases h:i<0
   ·simp only[h,jC]<;>walk_at "o"
   ·simp only[h,jW]<;>walk_at "o"
theorem a20 (its:List Value)(lo hi:Option Int):slicePick its.toArray lo hi none=((its.drop (HT.sIx its.length 0 lo)).take (HT.sIx its.length its.length hi-HT.sIx its.length 0 lo)).toArray:=by
 obtain⟨h1,h2,h3⟩:=a4c lo hi its.toArray.size;unfold slicePick;rw[h1,h2,h3];simp only[sliceRange_one,pick_run,zO]<;>rfl
def rSlL (K:PySem.W.Frag):V->Option Int->Option Int->Hp->VK->Prop:=fun x lo hi H Q=>∃a xs,x= .ref a/\SqL K H a xs/\∀p,H p=none->Q (.ref p) (upd H p (.lst (cutV xs lo hi)))
theorem b1J:SlR X (rSlL X.K):=by
 intro pins s σ H x v vl vu lo hi sl Q I rx hs pl pu h;obtain⟨a,xs,rfl,hx,q⟩:=h;cases rx;obtain⟨its,r,ht,hz⟩:=I.list hx;have hlen:=r.length;refine⟨"list",_,slot_list_getitem.lookup,ht.isList.typeIs,?_⟩;refine wpAny_getItem_list_slice ht.isList hs pl pu .none (by simp) ?_ (by rw[zO]<;>walk_at "o")
 rw[a20,<-hlen];refine⟨.ref s.heap.objs.size,_,I.laid (t':=s.toks) (o:=.lst (cutV xs lo hi)) (fun b ob q=>zD _ q) (zE _) ?_,rfl,q _ (I.hok.fresh (zE _))⟩;exact⟨qC (a1B xs lo hi) hz,_,0,(r.drop (HT.sIx xs.length 0 lo)).take (HT.sIx xs.length xs.length hi-HT.sIx xs.length 0 lo),zS _ rfl⟩
def flatV:V->Bool
 | .non=>true
 | .bl _=>true
 | .int _=>true
 | .str _=>true
 | _=>false
def eqV:V->V->Bool
 | .non,.non=>true
 | .bl a,.bl b=>a==b
 | .bl a,.int b=>(if a then 1 else 0)==b
 | .int a,.bl b=>a==(if b then 1 else 0)
 | .int a,.int b=>a==b
 | .str a,.str b=>a==b
 | _,_=>false
theorem b38 {A:Around}{s:Shared}{y x:V}{u v:Value}(ry:RelV y u)(rx:RelV x v)(fy:flatV y=true)(fx:flatV x=true):SeqAt.EqAt A s u v (eqV y x):=by
 cases y with
 | non=>
  cases ry;cases x with
  | non=>cases rx;exact SeqAt.EqAt.same _
  | bl b=>cases rx;exact SeqAt.EqAt.none_bool b
  | int b=>obtain⟨t,rfl⟩:=rx;exact SeqAt.EqAt.none_int b t
  | str b=>obtain⟨t,rfl⟩:=rx;exact SeqAt.EqAt.none_str b t
  | _=>exact absurd (show false=true from fx) zP
 | bl a=>
  cases ry;cases x with
  | non=>cases rx;exact SeqAt.EqAt.bool_none a
  | bl b=>cases rx;exact SeqAt.EqAt.bool_bool a b
  | int b=>obtain⟨t,rfl⟩:=rx;exact SeqAt.EqAt.bool_int a b t
  | str b=>obtain⟨t,rfl⟩:=rx;exact SeqAt.EqAt.bool_str a b t
  | _=>exact absurd (show false=true from fx) zP
 | int a=>
  obtain⟨t',rfl⟩:=ry;cases x with
  | non=>cases rx;exact SeqAt.EqAt.int_none a t'
  | bl b=>cases rx;exact SeqAt.EqAt.int_bool a t' b
  | int b=>obtain⟨t,rfl⟩:=rx;exact SeqAt.EqAt.int_int a t' b t
  | str b=>obtain⟨t,rfl⟩:=rx;exact SeqAt.EqAt.int_str a t' b t
  | _=>exact absurd (show false=true from fx) zP
 | str a=>
  obtain⟨t',rfl⟩:=ry;cases x with
  | non=>cases rx;exact SeqAt.EqAt.str_none a t'
  | bl b=>cases rx;exact SeqAt.EqAt.str_bool a t' b
  | int b=>obtain⟨t,rfl⟩:=rx;exact SeqAt.EqAt.str_int a t' b t
  | str b=>obtain⟨t,rfl⟩:=rx;exact SeqAt.EqAt.str_str a t' b t
  | _=>exact absurd (show false=true from fx) zP
 | _=>exact absurd (show false=true from fy) zP
def eqU (x:V) (u:Value):Bool:=match u with
 | .none=>eqV .non x
 | .bool b=>eqV (.bl b) x
 | .int i _=>eqV (.int i) x
 | .str z _=>eqV (.str z) x
 | _=>false
theorem a9S {x y:V}{u:Value}(r:RelV y u)(f:flatV y=true):eqU x u=eqV y x:=by
 cases y with
 | non=>cases r;rfl
 | bl b=>cases r;rfl
 | int i=>obtain⟨t,rfl⟩:=r;rfl
 | str z=>obtain⟨t,rfl⟩:=r;rfl
 | _=>exact absurd (show false=true from f) zP
theorem a0T {x:V}:∀{xs:List V} {us:List Value},Vals xs us->xs.all flatV=true->us.any (eqU x)=xs.any fun y=>eqV y x
 | _,_,.nil,_=>rfl
 | y::xs,u::us,.cons r t,f=>by
  rw[all_cons,jJ] at f;rw[any_cons,any_cons,a9S r f.1,a0T t f.2]
theorem T6 {A:Around}{s:Shared}{x:V}{v:Value}(rx:RelV x v)(fx:flatV x=true):∀{xs:List V} {us:List Value},Vals xs us->xs.all flatV=true->∀u∈us,SeqAt.EqAt A s u v (eqU x u)
 | _,_,.nil,_=>fun u hu=>by cases hu
 | y::xs,u::us,.cons r t,f=>fun u' hu=>by
  rw[all_cons,jJ] at f;rcases zX.mp hu with rfl|hu
  ·rw[a9S r f.1];exact b38 r rx f.1 fx
  ·exact T6 rx fx t f.2 u' hu
def inV (x:V) (xs:List V):Bool:=xs.any fun y=>eqV y x
def rIn (K:PySem.W.Frag) (neg:Bool):R2:=fun x y H Q=>∃p xs,y= .ref p/\(SqL K H p xs\/SqT K H p xs)/\flatV x=true/\xs.all flatV=true/\Q (.bl (if neg then !inV x xs else inV x xs)) H
theorem a3j:OpR X (compareOp .In) (rIn X.K false):=by
 intro pins s σ H x y v u Q I rx ry h;obtain⟨p,xs,rfl,hq,fx,fs,q⟩:=h;cases ry;rcases hq with hq|hq
 ·obtain⟨its,r,pl,hz⟩:=I.list hq;refine SeqAt.in_listAt (eqU x) pl.isList (fun w hw=>T6 rx fx r fs w (by simpa using hw)) ⟨.bl _,H,I,rfl,?_⟩
  rw[show its.toArray.any (eqU x)=its.any (eqU x) by simp,a0T r fs]
  exact q
 ·obtain⟨its,r,pl,hz⟩:=I.tuple hq;refine SeqAt.in_tupleAt (eqU x) pl (fun w hw=>T6 rx fx r fs w (by simpa using hw)) ⟨.bl _,H,I,rfl,?_⟩
  rw[show its.toArray.any (eqU x)=its.any (eqU x) by simp,a0T r fs]
  exact q
theorem a4w:OpR X (compareOp .NotIn) (rIn X.K true):=by
 intro pins s σ H x y v u Q I rx ry h;obtain⟨p,xs,rfl,hq,fx,fs,q⟩:=h;cases ry;rcases hq with hq|hq
 ·obtain⟨its,r,pl,hz⟩:=I.list hq;refine SeqAt.notIn_listAt (eqU x) pl.isList (fun w hw=>T6 rx fx r fs w (by simpa using hw)) ⟨.bl _,H,I,rfl,?_⟩
  rw[show its.toArray.any (eqU x)=its.any (eqU x) by simp,a0T r fs]
  exact q
 ·obtain⟨its,r,pl,hz⟩:=I.tuple hq;refine SeqAt.notIn_tupleAt (eqU x) pl (fun w hw=>T6 rx fx r fs w (by simpa using hw)) ⟨.bl _,H,I,rfl,?_⟩
  rw[show its.toArray.any (eqU x)=its.any (eqU x) by simp,a0T r fs]
  exact q
theorem r6:CallR X (.builtin "len") (fun xs H Q=>∃p ys,xs=[.ref p]/\(SqL X.K H p ys\/SqT X.K H p ys)/\Q (.int ys.length) H):=by
 intro pins s σ H xs us Q I r h;obtain⟨p,ys,rfl,hq,q⟩:=h;obtain⟨u,rfl,rx⟩:=vals1 r;cases rx;have hn:=line63;rcases hq with hq|hq
 ·obtain⟨its,r',pl,hz⟩:=I.list hq;have hlen:=r'.length;exact Calls.call_len_list pl.isList (by simp only[zO]<;>walk_at "o") ⟨.int ys.length,H,I.tok _,⟨s.toks+1,by rw[zO,hlen]⟩,q⟩
 ·obtain⟨its,r',pl,hz⟩:=I.tuple hq;have hlen:=r'.length;exact len_tuple pl (by simp only[zO]<;>walk_at "o") ⟨.int ys.length,H,I.tok _,⟨s.toks+1,by rw[zO,hlen]⟩,q⟩
theorem CallR.or {f:Value}{r r':List V->Hp->VK->Prop}(h:CallR X f r)(h':CallR X f r'):CallR X f (fun xs H Q=>r xs H Q\/r' xs H Q):=by
 intro pins s σ H xs us Q I rs q;rcases q with q|q
 ·exact h pins s σ H xs us Q I rs q
 ·exact h' pins s σ H xs us Q I rs q
theorem a4n:CallR X (.type "list") (fun xs H Q=>∃p ys,xs=[.ref p]/\(SqL X.K H p ys\/SqT X.K H p ys)/\∀l,H l=none->Q (.ref l) (upd H l (.lst ys))):=by
 intro pins s σ H xs us Q I r h;obtain⟨p,ys,rfl,hq,q⟩:=h;obtain⟨u,rfl,rx⟩:=vals1 r;cases rx;have fin:∀(its:List Value),Vals ys its->ys.length<=sizeLine->∀(h':Heap) (c':Nat),(∀b o',s.heap.get? b=some o'->h'.get? b=some o')->
   h'.get? s.heap.objs.size=some {cls:=.type "list",dict:=none,data:=.seq its.toArray c',slots:= #[]}->EP X pins σ Q (.ref s.heap.objs.size) {s with heap:=h'}:=fun its r' hz h' c' kp e=>
  ⟨.ref s.heap.objs.size,_,I.laid (t':=s.toks) kp (zE _) (show ObjOk X.prog X.w _ h' _ (.lst ys) from⟨hz,its,c',r',e⟩),rfl,q _ (I.hok.fresh (zE _))⟩
 rcases hq with hq|hq
 ·obtain⟨its,r',pl,hz⟩:=I.list hq;have hlen:=r'.length;obtain⟨o,ho,hc,n,hd⟩:=pl.isList;exact call_list_seq p (.inl rfl) ho hc hd (fun h' c' kp e=>fin its r' hz h' c' kp e) (by simp only[zO]<;>walk_at "o")
 ·obtain⟨its,r',pl,hz⟩:=I.tuple hq;have hlen:=r'.length;obtain⟨o,ho,hc,n,hd⟩:=pl;exact call_list_seq p (.inr rfl) ho hc hd (fun h' c' kp e=>fin its r' hz h' c' kp e) (by simp only[zO]<;>walk_at "o")
theorem C3:CallR X (.type "tuple") (fun xs H Q=>∃p ys,xs=[.ref p]/\((SqL X.K H p ys/\∀l,H l=none->Q (.ref l) (upd H l (.tup ys)))\/(SqT X.K H p ys/\Q (.ref p) H))):=by
 intro pins s σ H xs us Q I r h;obtain⟨p,ys,rfl,h⟩:=h;obtain⟨u,rfl,rx⟩:=vals1 r;cases rx;rcases h with ⟨hq,q⟩|⟨hq,q⟩
 ·obtain⟨its,r',pl,hz⟩:=I.list hq;have hlen:=r'.length;refine call_tuple_list pl.isList (fun h' kp=>?_) (by simp only[zO]<;>walk_at "o")
  have I1:Inv X pins σ H {s with heap:=h'}:=I.kept (t':=s.toks) kp
  have I2:Inv X pins σ (upd H h'.objs.size (.tup ys)) {s with heap:=h'.push {cls:=.type "tuple",data:=.seq its.toArray}}:=
   I1.laid (t':=s.toks) (fun b o e=>zD _ e) (zE _) (show ObjOk X.prog X.w _ _ _ (.tup ys) from⟨hz,its,r',TupN.new _ _⟩)
  exact⟨.ref h'.objs.size,_,I2,rfl,q _ (I1.hok.fresh (zE _))⟩
 ·obtain⟨its,r',pl,hz⟩:=I.tuple hq;exact call_tuple_same pl ⟨.ref p,H,I,rfl,q⟩
def tyV (K:PySem.W.Frag) (T:String) (x:V) (H:Hp):Prop:=match x with
 | .str _=>T="str"
 | .int _=>T="int"
 | .ref p=>(T="list"/\∃xs,SqL K H p xs)\/(T="tuple"/\∃o,K.lookup p=some o/\o.cls= .type "tuple"/\o.dict=none)\/
   (T="dict"/\((∃kvs,H p=some (.dK kvs))\/∃kvs,H p=some (.dT kvs)))\/(T="set"/\∃S n,H p=some (.set S n))
 | _=>False
theorem b4D {pins:List (Addr×Obj)}{σ:St}{H:Hp}{s:Shared}{T:String}{x:V}{v:Value}(I:Inv X pins σ H s)(r:RelV x v)(ty:tyV X.K T x H):
  s.TypeIs v T/\∀a,v= .ref a->∃ob,s.heap.get? a=some ob/\ob.dict=none:=by
 cases x with
 | str z=>
  obtain⟨t,rfl⟩:=r;cases(show T="str" from ty);exact⟨typeIs_str s z t,fun _ e=>nomatch e⟩
 | int i=>
  obtain⟨t,rfl⟩:=r;cases(show T="int" from ty);exact⟨typeIs_int s i t,fun _ e=>nomatch e⟩
 | ref p=>
  cases r;rcases ty with ⟨rfl,xs,hq⟩|⟨rfl,o,hk,hc,hd⟩|⟨rfl,hk⟩|⟨rfl,S,n,hk⟩
  ·obtain⟨its,_,pl,_⟩:=I.list hq;refine⟨pl.isList.typeIs,fun a e=>?_⟩;cases e;obtain⟨o,n,e,c,hd,_⟩:=pl;exact⟨o,e,hd⟩
  ·refine⟨⟨o,I.kIn p o hk,hc⟩,fun a e=>?_⟩;cases e;exact⟨o,I.kIn _ o hk,hd⟩
  ·have z:∃o,s.heap.get? p=some o/\o.ExactDict:=by
    rcases hk with ⟨kvs,hk⟩|⟨kvs,hk⟩
    ·obtain⟨_,_,_,_,o,_,e,ex,_⟩:=I.hok p _ hk;exact⟨o,e,ex⟩
    ·obtain⟨_,_,_,_,o,_,e,ex,_⟩:=I.hok p _ hk;exact⟨o,e,ex⟩
   obtain⟨o,e,ex⟩:=z;refine⟨⟨o,e,ex.1⟩,fun a e2=>?_⟩;cases e2;exact⟨o,e,ex.2.1⟩
  ·obtain⟨o,_,_,_,e,ex,_⟩:=I.hok p _ hk;refine⟨⟨o,e,ex.1⟩,fun a e2=>?_⟩;cases e2;exact⟨o,e,ex.2.1⟩
 | _=>exact False.elim ty
def tBM (K:PySem.W.Frag) (T:String) (r:V->List V->Hp->VK->Prop) (to:TE) (t:TA):TE:=fun σ H Q=>to σ H fun x H1=>tyV K T x H1/\t σ H1 fun xs H2=>r x xs H2 Q
variable {o e:Expr}{es:List Expr}{to:TE}{t:TA}{name:Str}{apos cpos:Pos}{T id:String}{r:V->List V->Hp->VK->Prop}
theorem a9g (pa:PlainAttrs T)(slot:Slot T name id)(hty:typeOf (.builtin id)=pure (.type "method_descriptor"))(hm:MtR X id r)(ho:PE X o to)(ha:PA X (e::es) t)
  (hbase:attributeBase o name X.env (eval o X.env)=eval o X.env:=by rfl)
  (hfew:((backTo cpos (starEach (e::es) X.env)).all (fun x=>!x.1)&&(backToKw cpos (keywordEach [] X.env)).all (fun x=>x.1.isSome)
   && decide ((e::es).length+([]:List Keyword).length+(if([]:List Keyword).isEmpty then 0 else 1)<30))=true:=by rfl)
  (hline:(apos.endLine==cpos.line)=true:=by rfl) (hs:starEach (e::es) X.env=(false,eval e X.env)::starEach es X.env:=by rfl) (hplain:(backTo cpos (starEach es X.env)).any (·.1)=false:=by rfl):
  PE X (.Call (.Attribute o name apos) (e::es) [] cpos) (tBM X.K T r to t):=by
 intro pins s σ H Q I h;refine wpAny_Call_method_late hbase hfew hline rfl (thn (ho pins s σ H _ I h) fun v s1 ⟨x,H1,I1,r1,ty,q1⟩=>?_);obtain⟨h1,h2⟩:=b4D I1 r1 ty;refine⟨T,id,pa,slot,hty,h1,h2,?_⟩;have hA:=ha cpos pins s1 σ H1 _ I1 q1;rw[hs] at hA ⊢;refine Calls.callWith_builtin (by show(false||(backTo cpos (starEach es X.env)).any (·.1))=false;rw[hplain]<;>rfl) (Calls.evalArgs_plain ?_)
 exact thn hA fun us s2 h0=>ex5 h0 fun vs H2 I2 r2 q2=>hm pins s2 σ H2 x vs v us Q I2 r1 r2 q2
end
def MtM (X:Cx) (id:String) (r:V->List V->Hp->VK->Prop):Prop:=
 ∀(pins:List (Addr×Obj)) (s:Shared) (σ:St) (H:Hp) (x:V) (xs:List V) (v:Value) (us:List Value) (Q:VK),Inv X pins σ H s->RelV x v->Vals xs us->r x xs H Q->
  wpAny (model X.prog X.w) X.A (call (.builtin id) (v::us)) (EP X pins σ Q) X.xe s
theorem Vals.one:∀{x:V} {us:List Value},Vals [x] us->∃u,us=[u]/\RelV x u
 | _,_,.cons r .nil=>⟨_,rfl,r⟩
theorem Vals.eraseIdx:∀{xs:List V} {us:List Value} (i:Nat),Vals xs us->Vals (xs.eraseIdx i) (us.eraseIdx i)
 | _,_,_,.nil=>.nil
 | _,_,0,.cons _ t=>t
 | _,_,i+1,.cons r t=>.cons r (Vals.eraseIdx i t)
theorem Vals.reverse {xs:List V}{us:List Value}(h:Vals xs us):Vals xs.reverse us.reverse:=by
 induction h with
 | nil=>exact .nil
 | cons r t ih=>rw[reverse_cons,reverse_cons];exact Vals.append ih (.cons r .nil)
theorem Vals.rep {xs:List V}{us:List Value}(h:Vals xs us):∀k:Nat,Vals (List.replicate k xs).flatten (List.replicate k us).flatten
 | 0=>.nil
 | k+1=>by
  rw[yD,yD,jP,jP];exact Vals.append h (Vals.rep h k)
theorem a3J {α:Type}:∀(l:List α) (i:Nat),(l.eraseIdx i).length<=l.length
 | [],_=>zE _
 | _::_,0=>Nat.le_succ _
 | _::r,i+1=>Nat.succ_le_succ (a3J r i)
theorem a1f (its:List Value):∀(k:Nat) (acc:List Value),
  List.foldl (fun x1 x2=>x1++x2) acc.toArray (List.replicate k its.toArray)=(acc++(List.replicate k its).flatten).toArray
 | 0,acc=>by simp
 | k+1,acc=>by
  have e:acc.toArray++its.toArray=(acc++its).toArray:=by simp
  have e2:(acc++its)++(List.replicate k its).flatten=acc++(List.replicate (k+1) its).flatten:=by
   rw[yD,jP,jQ]
  rw[<-e2,<-a1f its k (acc++its),<-e,yD,List.foldl_cons]
section
variable {X:Cx}{pins:List (Addr×Obj)}{σ:St}{H:Hp}{s:Shared}{l:Addr}{xs ys:List V}
theorem Inv.lset {its its':List Value}{n:Nat}{f:Array Value->Array Value}{t':Nat}(I:Inv X pins σ H s)(hH:H l=some (.lst xs))
  (e:s.heap.get? l=some {cls:=.type "list",data:=.seq its.toArray n}) (hf:f its.toArray=its'.toArray) (hv:Vals ys its') (hz:ys.length<=sizeLine):
  Inv X pins σ (upd H l (.lst ys)) {s with heap:=s.heap.update l (Obj.mapSeq f),toks:=t'}:=by
 have q:=PySem.IsL.update e f;rw[hf] at q;refine I.write (x:=l) (e:=l) (by rw[hH];exact trivial) (.inl rfl) (fun b' u hb hu=>(Heap.get?_update_other s.heap (Obj.mapSeq f) (qT hb)).trans hu) ⟨_,q⟩ ?_
 exact⟨hz,its',_,hv,q⟩
theorem Inv.lnew {its:List Value}{t':Nat}(I:Inv X pins σ H s)(hv:Vals ys its)(hz:ys.length<=sizeLine):
  Inv X pins σ (upd H s.heap.objs.size (.lst ys)) {s with heap:=s.heap.push {cls:=.type "list",data:=.seq its.toArray},toks:=t'}:=
 I.laid (fun _ _ q=>zD _ q) (zE _) ⟨hz,its,0,hv,zS _ rfl⟩
theorem Inv.fresh (I:Inv X pins σ H s):H s.heap.objs.size=none:=I.hok.fresh (zE _)
theorem Inv.lstM (I:Inv X pins σ H s)(hH:H l=some (.lst xs)):xs.length<=sizeLine/\∃(its:List Value) (n:Nat),Vals xs its/\xs.length=its.length/\s.heap.get? l=some {cls:=.type "list",data:=.seq its.toArray n}:=by
 obtain⟨z,its,n,r,e⟩:=I.hok l _ hH;exact⟨z,its,n,r,r.length,e⟩
theorem notLongL {n:Nat}(h:n<=sizeLine):Builtin.List.listTooLong n=false:=by
 unfold Builtin.List.listTooLong;exact qK (by walk_at "o")
end
section
variable {X:Cx}
def rAppend:V->List V->Hp->VK->Prop:=fun x vs H Q=>∃l xs y,x= .ref l/\vs=[y]/\H l=some (.lst xs)/\xs.length<sizeLine/\Q .non (upd H l (.lst (xs++[y])))
theorem a1g:MtM X "list.append" rAppend:=by
 intro pins s σ H x vs v us Q I rx rv h;obtain⟨l,xs,y,rfl,rfl,hH,hz,q⟩:=h;cases rx;obtain⟨u,rfl,ru⟩:=rv.one;obtain⟨z,its,n,r,hl,e⟩:=I.lstM hH;refine call_meets F.slot_list_append ⟨_,e,rfl⟩ F.entry_list_append (F.args_list_append_2 _ _) (PySem.list_append l its.toArray n u (by rw[zO];walk_at "o")) ⟨e,?_⟩
 refine⟨.non,_,I.lset (its':=its++[u]) hH e (by simp) (r.append (.cons ru .nil)) ?_,rfl,q⟩
 rw[zM,jK];walk_at "o"
def rPopAt:V->List V->Hp->VK->Prop:=fun x vs H Q=>∃l xs i k y,x= .ref l/\vs=[.int i]/\H l=some (.lst xs)/\-(2^63)<=i/\i<2^63/\seqIndex? i xs.length=some k/\xs[k]? =some y/\Q y (upd H l (.lst (xs.eraseIdx k)))
theorem a9a:MtM X "list.pop" rPopAt:=by
 intro pins s σ H x vs v us Q I rx rv h;obtain⟨l,xs,i,k,y,rfl,rfl,hH,h1,h2,hk,hy,q⟩:=h;cases rx;obtain⟨u,rfl,ru⟩:=rv.one;obtain⟨t,rfl⟩:=ru;obtain⟨z,its,n,r,hl,e⟩:=I.lstM hH;obtain⟨w,hw,rw'⟩:=r.get hy;refine call_meets F.slot_list_pop ⟨_,e,rfl⟩ F.entry_list_pop (F.args_list_pop_2 _ _)
  (MeetsSeq.list_pop_at l its.toArray n i t k w (fitsIndex_both h1 h2) (by rw[zO,<-hl];exact hk) (by rw[<-xA];exact hw) (by rw[zO];walk_at "o")) ⟨e,?_⟩
 refine⟨y,_,I.lset (its':=its.eraseIdx k) hH e ?_ (r.eraseIdx k) ?_,rw',q⟩
 ·show its.toArray.eraseIdxIfInBounds k=(its.eraseIdx k).toArray;rw[List.eraseIdxIfInBounds_toArray]
 ·have:=a3J xs k
  walk_at "o"
theorem a7I {α:Type}(xs:List α)(k:Nat):(List.replicate k xs).flatten.length=k*xs.length:=by
 induction k with
 | zero=>simp
 | succ k ih=>rw[yD,jP,zM,ih,Nat.succ_mul,Nat.add_comm]
end
section
set_option maxRecDepth 100000 in
end
end L2
namespace Att
open PySem PySem.W PySem.Calls PyProof.Rows
theorem a1P {P:Params}{h:Heap}:∀(ns:List Int) (vs:List Value),WellAll P h vs (ns.map WData.int)->IntsAre vs ns:=by
 intro ns
 induction ns with
 | nil=>
  intro vs w;rw[xW] at w;cases w;exact .nil
 | cons n ns ih=>
  intro vs w;rw[zH] at w;cases w with
  | cons a b=>
   cases a;exact .cons _ _ (ih _ b)
theorem a7Z {l:OpenLaw}{n:Nat}(hn:l.most=some n){P:Params}{h:Heap}{args:List WData}{vals:List Value}
  (hpre:l.row.toRowW.claim.pre args=true) (hwl:WellAll P h vals args):
  ∃a vs ns,vals=[Value.ref a]/\args=[WData.list (ns.map WData.int)]/\h.get? a=some {cls:=.type "list",data:=.seq vs.toArray}/\IntsAre vs ns/\ns.length<=n:=by
 have hsh:WShape.hasAll [] args [.list .int]=true:=(pre_splitW hpre).1;have hc:l.pre.holds [] {args:=args}=true:=(pre_splitW hpre).2;obtain⟨d,r,rfl,h1,h2⟩:=hasAllW_cons hsh;obtain rfl:=hasAllW_nil h2;obtain⟨xs,rfl,h3⟩:=hasW_list h1;obtain⟨ns,rfl⟩:=items_int h3;have hlen:ns.length<=n:=by
  unfold OpenLaw.pre at hc;have h4:(WTm.not (.lt (.lit (.int (n:Int))) (.len (.arg 0)))).holds [] {args:=[.list (ns.map .int)]}=true:=by
   have h4:=(holds_andW hc).1;rw[hn] at h4;exact h4
  have h5:=condW_of h4 (w_not (w_lt w_lit (w_len_list (w_arg rfl))));rw[zC] at h5;refine Nat.le_of_not_lt fun q=>?_;have q':(n:Int)<((ns.length:Nat):Int):=by walk_at "o"
  first
   | (rw[qL q'] at h5;exact absurd h5 (by decide))
   | (simp at h5;walk_at "o")
 cases hwl with
 | cons w1 w2=>
  cases w2;cases w1 with
  | list ho hall=>exact⟨_,_,ns,rfl,rfl,ho,a1P ns _ hall,hlen⟩
theorem a77 (l:OpenLaw)(args:List WData):l.row.toRowW.claim.post args (.bool true) args=true:=
 postW_of (r:=l.row.toRowW) (X:=(true==true))
  (show WShape.has [] (.bool true) .bool=true by first|rfl|decide|simp[WShape.has,WShape.arms,WShape.armsAll])
  (show(WTm.eq .res (.lit (.bool true))).value [] {args:=args,res:=some (.bool true),after:=args}=some (.bool (true==true)) from w_eq_bool (w_res rfl) w_lit) rfl
theorem attach_call {l:OpenLaw}{n:Nat}{q:Program}{loose:List Str}{XP:(Str->Option Value)->Heap->Prop}{YP:World->Heap->Prop}{d:DefRec}
  (hn:l.most=some n) (hdf:d.params.defaults=[])
  (call:∀(w:World) (s₀ s₁:Shared) (mg mb:Str->Option Value) (fa:Addr) (o:Obj) (pm cd doc:Value) (a:Addr) (vs:List Value) (ns:List Int),
   Ground q loose [] XP w s₀ mg mb s₁.heap->YP w s₁.heap->
   s₁.heap.get? fa=some o->o.data= .func (docDef d.name d.params d.body d.scope pm cd doc)->s₁.heap.CodeRec cd d.name->mg d.name=some (.ref fa)->
   s₁.heap.get? a=some {cls:=.type "list",data:=.seq vs.toArray}->IntsAre vs ns->ns.length<=n->s₁.gens= #[]->
   codeAny (model l.prog w) callerA (.call (.ref fa) ⟨[.ref a],[]⟩) (fun r s'=>r= .ok (.ret (.bool true))/\OldK s₁.heap s'.heap/\s'.os=s₁.os/\AllBare s'.gens) s₁):
  WalkO q loose XP YP l.row.toRowW d [] (fun f vs=>PySem.call f vs):=by
 intro w s₀ s₁ mg mb G Y fa o pm cd doc dV kV ho hd hcd hD hmg hg args vals as hpre hlay hrd hwl hlo;obtain rfl:dV= .none:=Dflts.none hD hdf;obtain rfl:kV= .none:=Dflts.noKw hD;obtain⟨a,vs,ns,rfl,rfl,hobj,hints,hlen⟩:=a7Z hn hpre hwl;refine enter_call (codeAny_mono (call w s₀ s₁ mg mb fa o pm cd doc a vs ns G Y ho (fd_plain hd) hcd hmg hobj hints hlen hg) fun r s' hq=>?_);obtain⟨rfl,h2,h3,h4⟩:=hq;exact⟨.inl ⟨.bool true,.bool true,[],rfl,fun _=>rfl,.bool true,a77 l _,fun _=>⟨List.Pairwise.nil,fun _ hm=>(nomatch hm)⟩⟩,h2,h3,h4⟩
def ledger (h:Heap) (L d:Addr):List (Addr×Obj):=(List.range h.objs.size).filterMap fun a=>if a=L\/a=d then none else(h.get? a).map fun o=>(a,o)
end Att
namespace L2
open PySem PySem.Spec PyProof.Rows
theorem a3s:∀{vs:List Value} {ns:List Int},IntsAre vs ns->Vals (ns.map V.int) vs
 | _,_,.nil=>.nil
 | _,_,.cons n t h=>.cons ⟨t,rfl⟩ (a3s h)
def Only (H:Hp):Prop:=∀b,H b=none\/∃o xs,H b=some (.frz o (.lst xs))
theorem a9K {P:Program}{w:World}{K:PySem.W.Frag}{mg mb:Str->Option Value}{CX:CXT}{k:Nat}{fa a:Addr}{fd:FuncData}{x:Str}{sp:Sp}{s₁:Shared}{vs:List Value}{ns:List Int}
  (KX:K.In s₁.heap) (hns:s₁.heap.Ns mainGlobals mg) (hb:s₁.heap.Ns builtinsNs mb) (hbb:∀x:Str,x≠"__name__"->mb x=bootBuiltins x) (hlim:s₁.heap.NoLimit) (hg:s₁.gens= #[])
  (ha:s₁.heap.get? a=some {cls:=.type "list",data:=.seq vs.toArray}) (hi:IntsAre vs ns) (hl:ns.length<=sizeLine) (hr:Room k callerA)
  (F:∀base:Heap,K.In base->base.Ns mainGlobals mg->FnOk P w K mg base CX k fa fd [x] sp) (hbind:∀(s:Shared) (u:Value),BindsTo s fd ⟨[u],[]⟩ [(x,u)])
  (hsp:∀H:Hp,Only H->SqL K H a (ns.map V.int)->sp [.ref a] H (fun v _=>v= .bl true) fun _ _ _=>False)
  (hCX:∀H e s',CX [] H s₁ (fun _ _ _=>False) e s'->False):
  codeAny (model P w) callerA (.call (.ref fa) ⟨[.ref a],[]⟩) (fun r s'=>r= .ok (.ret (.bool true))/\OldK s₁.heap s'.heap/\s'.os=s₁.os/\AllBare s'.gens) s₁:=by
 have rv:=a3s hi;have lenV:=hi.length;have core:∀H:Hp,Only H->SqL K H a (ns.map V.int)->HOk P w H s₁.heap->(∀b,H b≠none->b=a)->(H a≠none->K.lookup a=none)->
   codeAny (model P w) callerA (.call (.ref fa) ⟨[.ref a],[]⟩) (fun r s'=>r= .ok (.ret (.bool true))/\OldK s₁.heap s'.heap/\s'.os=s₁.os/\AllBare s'.gens) s₁:=by
  intro H hO hS hok hA hK;have base_of:∀{b:Addr} {o:Obj},s₁.heap.get? b=some o->H b=none->(hidT s₁.heap H).get? b=some o:=fun e n=>b1p e n;have noA:∀{b:Addr} {o:Obj} {es:Array DictEntry} {ep:Nat},s₁.heap.get? b=some o->o.data= .dict es ep->H b=none:=fun{b o es ep} e d=>by
   cases q:H b with
   | none=>rfl
   | some u=>
    have e':b=a:=hA b (by rw[q];simp)
    subst e';rw[ha] at e;cases e;have d':Data.seq vs.toArray _=Data.dict es ep:=d;cases d'
  have nsK:∀{b:Addr} {m:Str->Option Value},s₁.heap.Ns b m->(hidT s₁.heap H).Ns b m:=fun{b m} ⟨o,es,ep,e,d,r⟩=>⟨o,es,ep,base_of e (noA e d),d,r⟩
  have hKb:K.In (hidT s₁.heap H):=fun b o e=>base_of (KX b o e) (by
   cases q:H b with
   | none=>rfl
   | some u=>
    have e':b=a:=hA b (by rw[q];simp)
    subst e'
    rw[hK (by rw[q];simp)] at e;cases e)
  have hM:Mod K mg (hidT s₁.heap H):=⟨hKb,nsK hns,⟨mb,nsK hb,hbb⟩,let ⟨mc,h1,h2⟩:=hlim;⟨mc,nsK h1,h2⟩⟩;have e0:Env0 P w K mg (hidT s₁.heap H) callerA [] s₁ H:=⟨rfl,hM,fun b o e=>b18 e,Nat.le_of_eq (a8z _ _),trivial,fun b hb=>absurd (show b∈([]:List Addr) from hb) (by simp),hok,.of_eq hg⟩
  refine codeAny_mono ((F _ hKb (nsK hns)).run callerA [] s₁ H ⟨[.ref a],[]⟩ [.ref a] [.ref a] _ _ hr e0 (hbind s₁ (.ref a)) (.cons rfl .nil) (hsp H hO hS)) fun r s' h=>?_;cases r with
  | error e=>exact(hCX H e s' h).elim
  | ok fl=>
   cases fl with
   | next=>exact False.elim h
   | brk=>exact False.elim h
   | cont=>exact False.elim h
   | ret u=>
    obtain⟨v,H',os,bare,un,hok',r',q⟩:=h;have q':v= .bl true:=q;subst q';obtain rfl:u=Value.bool true:=r';refine⟨rfl,OldK.of_keep fun b o e=>?_,os,bare⟩;cases q:H b with
    | none=>exact un.keep b o e q (by intro z;exact absurd (show b∈([]:List Addr) from z) (by simp)) (by simp)
    | some u=>
     rcases hO b with z|⟨ob,xs,z⟩
     ·rw[q] at z;cases z
     ·have z2:=un.frzs b ob _ z;obtain⟨e1,_⟩:=hok b _ z;obtain⟨e2,_⟩:=hok' b _ z2;rw[e] at e1;cases e1;exact e2
 cases hk:K.lookup a with
 | some o=>
  have e:=KX a o hk;rw[ha] at e;cases e;refine core (fun _=>none) (fun _=>.inl rfl) (.inr ⟨_,vs.toArray,_,hk,rfl,rfl,rfl,by rw[zO,lenV];exact hl,by simpa using rv⟩) (fun b u z=>by have z':(none:Option HO)=some u:=z;cases z') (fun b z=>absurd rfl z) fun z=>absurd rfl z
 | none=>
  refine core (fun b=>if b=a then some (.frz {cls:=.type "list",data:=.seq vs.toArray} (.lst (ns.map V.int))) else none) (fun b=>?_) (.inl (.inr ⟨{cls:=.type "list",data:=.seq vs.toArray},if_pos rfl⟩)) (fun b u z=>?_) (fun b z=>?_) fun _=>hk
  ·by_cases hb:b=a
   ·exact .inr ⟨_,_,if_pos hb⟩
   ·exact .inl (if_neg hb)
  ·by_cases hb:b=a
   ·have z':=(if_pos hb).symm.trans z;cases z';subst hb;exact⟨ha,by rw[zC];exact hl,vs,_,rv,ha⟩
   ·have z':=(if_neg hb).symm.trans z;cases z'
  ·by_cases hb:b=a
   ·exact hb
   ·exact absurd (if_neg hb) z
abbrev KOf {K:PySem.W.Frag} {h:Heap} (_:K.In h):PySem.W.Frag:=K
theorem b15 {l:PySem.W.OpenLaw}{n k:Nat}{q:Program}{loose:List Str}{XP:(Str->Option Value)->Heap->Prop}{YP:World->Heap->Prop}{d:DefRec}{K:Params->PySem.W.Frag}{CX:World->CXT}{sp:World->Sp}{x:Str}
  (hn:l.most=some n) (hn2:n<=sizeLine) (hdf:d.params.defaults=[]) (hr:Room k callerA)
  (hY:∀(w:World) (h:Heap),YP w h->(K w.params).In h)
  (F:∀(w:World) (mg:Str->Option Value) (fa:Addr) (h:Heap),(K w.params).In h->h.Ns mainGlobals mg->mg d.name=some (.ref fa)->
   ∃fd:FuncData,(∀(s:Shared) (u:Value),BindsTo s fd ⟨[u],[]⟩ [(x,u)])/\
    ∀base:Heap,(K w.params).In base->base.Ns mainGlobals mg->FnOk l.prog w (K w.params) mg base (CX w) k fa fd [x] (sp w))
  (hsp:∀(w:World) (H:Hp) (a:Addr) (ns:List Int),ns.length<=n->Only H->SqL (K w.params) H a (ns.map V.int)->sp w [.ref a] H (fun v _=>v= .bl true) fun _ _ _=>False)
  (hCX:∀(w:World) (H:Hp) (s:Shared) (e:Value) (s':Shared),CX w [] H s (fun _ _ _=>False) e s'->False):
  PySem.W.WalkO q loose XP YP l.row.toRowW d [] (fun f vs=>PySem.call f vs):=by
 refine Att.attach_call hn hdf fun w s₀ s₁ mg mb fa o pm cd doc a vs ns G Y ho hd hcd hmg hobj hints hlen hg=>?_;have KX:=hY w _ Y;obtain⟨fd,hb,hF⟩:=F w mg fa _ KX G.T.g hmg;exact a9K KX G.T.g G.T.b G.T.builtins G.T.nolimit hg hobj hints (qC hlen hn2) hr hF hb (fun H hO hS=>hsp w H a ns hlen hO hS) fun H e s'=>hCX w H s₁ e s'
def defArgs (s:Stmt):Arguments:=match s with
 | .FunctionDef _ a _ _ _ _ _ _ _ _=>a
 | _=>{posonlyargs:=[],args:=[],vararg:=none,kwonlyargs:=[],kw_defaults:=[],kwarg:=none,defaults:=[]}
def defBody (s:Stmt):List Stmt:=match s with
 | .FunctionDef _ _ b _ _ _ _ _ _ _=>b
 | _=>[]
def defScope (s:Stmt):Scope:=match s with
 | .FunctionDef _ _ _ _ _ _ sc _ _ _=>sc
 | _=>{kind:=.function,names:=[],isGenerator:=false,isCoroutine:=false}
abbrev CX0:CXT:=fun _ _ _ _ _ _=>False
abbrev E0:XK:=fun _ _ _=>False
theorem pass0 {X:Cx}:Passes CX0 X E0:=fun _ _ _ _ _ _ _ h=>h.elim
structure Fun (K:PySem.W.Frag) (x qual:Str) (st:Stmt) (f:Addr) (fd:FuncData):Prop where
 ex:∃(oc:Value) (od:Option Addr) (kV doc pm:Value) (an:Option Addr) (cdv ct:Value) (osl:Array (Option Value)),
  fd=PySem.W.fnOf x qual (defArgs st) (defBody st) (defScope st) .none kV doc pm an cdv ct/\K.lookup f=some ⟨oc,od,.func fd,osl⟩/\PySem.W.codeIn K cdv qual=true
 kp:PySem.W.keepIn K (.ref f)=true
section
variable {P:Program}{w:World}{K:PySem.W.Frag}{mg:Str->Option Value}{base:Heap}
theorem Fun.ok {x qual:Str}{st:Stmt}{f:Addr}{fd:FuncData}{N ps:List Str}{k:Nat}{sp:Sp}(F:Fun K x qual st f fd)(S:FnScope N ps (defScope st))(len:∀vs H Q E,sp vs H Q E->vs.length=ps.length)
  (hbody:∀(cdv:Value) (A:Around) (outer:List Env) (s:Shared) (H:Hp) (vs:List V) (Q:VK) (E:XK),Room k (A.deeper (envOfC qual (defScope st) s.heap.objs.size f cdv))->sp vs H Q E->
   ∃t,PSs (cxOf CX0 P w K mg base N qual (defScope st) f cdv A outer s H E).nox (defBody st) t/\t {nx:=fun _ H'=>Q .non H',rt:=Q} (start N vs) H):FnOk P w K mg base CX0 (k+1) f fd ps sp:=by
 obtain⟨oc,od,kV,doc,pm,an,cdv,ct,osl,rfl,lk,hcd⟩:=F.ex;refine fn_of lk hcd S len fun A outer s H vs Q E hr hsp=>?_;obtain⟨t,h,q⟩:=hbody cdv A outer s H vs Q E hr hsp;exact⟨t,h.nox,q⟩
theorem Fun.binds {x qual:Str}{st:Stmt}{f:Addr}{fd:FuncData}{ps:List Str}(F:Fun K x qual st f fd)
  (h:∀(kV doc pm:Value) (an:Option Addr) (cdv ct:Value) (us:List Value),us.length=ps.length->bindArgs (PySem.W.fnOf x qual (defArgs st) (defBody st) (defScope st) .none kV doc pm an cdv ct) ⟨us,[]⟩=pure (ps.zip us)):Binds K fd ps []:=by
 obtain⟨oc,od,kV,doc,pm,an,cdv,ct,osl,rfl,lk,hcd⟩:=F.ex;exact .all (h kV doc pm an cdv ct)
theorem b06 {x qual:Str}{st:Stmt}{f:Addr}{oc:Value}{od an:Option Addr}{osl:Array (Option Value)}{kV doc pm cdv ct:Value}(l:K.lookup f=some ⟨oc,od,.func (PySem.W.fnOf x qual (defArgs st) (defBody st) (defScope st) .none kV doc pm an cdv ct),osl⟩)
  (c:PySem.W.codeIn K cdv qual=true) (k:PySem.W.keepIn K (.ref f)=true):Fun K x qual st f (PySem.W.fnOf x qual (defArgs st) (defBody st) (defScope st) .none kV doc pm an cdv ct):=⟨⟨oc,od,kV,doc,pm,an,cdv,ct,osl,rfl,l,c⟩,k⟩
end
theorem a3e {A:Around}{k:Nat}(hr:Room k A):A.units+1<cLine:=Nat.lt_of_le_of_lt (Nat.add_le_add_left (by decide:1<=64) _) hr.units
def Same (H H':Hp):Prop:=∀b o,H b=some o->H' b=some o
theorem Same.refl (H:Hp):Same H H:=fun _ _ h=>h
theorem Same.trans {H H1 H2:Hp}(a:Same H H1)(b:Same H1 H2):Same H H2:=fun c o h=>b c o (a c o h)
section
variable {prog:Program}{w:World}{K:Type} [DecidableEq K] {knd:KeyKind prog w K}{A:Around}{E:Value->Shared->Prop}{s:Shared}
theorem a15 {kvs:List (K×Value)}{k:K}{v:Value}(h:(kvs.any fun kv=>decide (kv.1=k))=true):(stored kvs k v).length=kvs.length:=by
 unfold stored;rw[if_pos h,zC]
theorem a2B {kvs:List (K×Value)}{k:K}{v:Value}(h:¬(kvs.any fun kv=>decide (kv.1=k))=true):(stored kvs k v).length=kvs.length+1:=by
 unfold stored;rw[if_neg h,zM];rfl
theorem a6g {d:Addr}{kvs:List (K×Value)}{k:K}{key v:Value}{Q:Unit->Shared->Prop}(hkey:knd.is k key=true)(hm:s.heap.DictAt knd d kvs kvs.length)(hsz:kvs.length<=sizeLine)
  (hQ:∀h',h'.DictAt knd d (stored kvs k v) (stored kvs k v).length->Heap.SameBut d s.heap h'->Q () {s with heap:=h',toks:=s.toks+1}):wpAny (model prog w) A (dictSet d key v) Q E s:=by
 obtain⟨o,es,ho,hc,hd,hk,hp,hn⟩:=hm;have pl:=hp.length;have hes:es.size<=sizeLine:=by rw[jY] at pl;walk_at "o"
 unfold dictSet
 try with_reducible refine qI ?_
 refine zA (knd.pyHash hkey ?_);unfold dictSetHashed
 try with_reducible refine qI ?_
 refine zA (wpAny_dictFind_of (s:={s with toks:=s.toks+1}) hkey ho hd hk ?_)
 have hidx:(es.findIdx? fun e=>knd.is k e.key)=kvs.findIdx? fun kv=>decide (kv.1=k):=by
  rw[<-hp.findIdx k];obtain⟨l⟩:=es;simp
 cases hi:es.findIdx? fun e=>knd.is k e.key with
 | some i=>
  have old:=any_of_findIdx_some (hidx▸hi);have el:=a15 (v:=v) old;refine zA (jT (zA (wpAny_updateDict (s:={s with toks:=s.toks+1}) ho hd (wpAny_point (hQ _ ⟨_,_,xL _ ho (Obj.isFreed_of_dict (Obj.data_mapDict hd _)),hc.mapDict _,by rw[el];exact Obj.data_mapDict hd _,hk.modify _ _,?_,?_⟩ (qZ ..))))))
  ·rw[stored,if_pos old];have hl:(es.toList.findIdx? fun e=>knd.is k e.key)=some i:=by rw[<-hi];obtain⟨l⟩:=es;simp
   have:=hp.modify hn hl v
   obtain⟨l⟩:=es;simpa using this
  ·rw[stored,if_pos old,keys_map_store];exact hn
 | none=>
  have hnot:k∉kvs.map (·.1):=not_mem_of_findIdx_none (hidx▸hi);have hany:¬(kvs.any fun kv=>decide (kv.1=k))=true:=by
   rw[List.any_eq_true];rintro⟨kv,hkv,he⟩;exact hnot (zZ.mpr ⟨kv,hkv,xI he⟩)
  have el:=a2B (v:=v) hany;refine zA (jT (wpAny_updateDictKeys (hz:=hes) (s:={s with toks:=s.toks+1}) ho hd (hQ _ ⟨_,_,xL _ ho (Obj.isFreed_of_dict (Obj.data_mapDictKeys hd _)),hc.mapDictKeys _,by rw[el];exact Obj.data_mapDictKeys hd _,hk.push hkey _,?_,?_⟩ (qZ ..))))
  ·rw[stored,if_neg hany]
   have:=hp.append hkey (knd.hash k) v
   obtain⟨l⟩:=es;simpa using this
  ·rw[stored,if_neg hany,zL,jR];exact⟨hn,by simp,fun a ha b hb e=>by simp only[zH,xW,zN] at hb;subst hb;exact hnot (e▸ha)⟩
theorem a5e {d:Addr}{kvs:List (K×Value)}{k:K}{key v:Value}{Q:Unit->Shared->Prop}(hkey:knd.is k key=true)(hm:s.heap.DictAt knd d kvs kvs.length)(hsz:kvs.length<=sizeLine)
  (hQ:∀h',h'.DictAt knd d (stored kvs k v) (stored kvs k v).length->Heap.SameBut d s.heap h'->Q () {s with heap:=h',toks:=s.toks+1}):wpAny (model prog w) A (setItem (.ref d) key v) Q E s:=by
 have ty:=hm.dictOf.typeIs;unfold setItem
 try with_reducible refine qI ?_
 refine zA (yT ty (by decide) ?_)
 refine zA (qE (name:=Str.ofString "__setitem__") ty slot_dict_setitem (qO slot_dict_setitem ty entry_dict_setitem ?_ (args_dict_setitem _ _ _)));show wpAny _ _ (Builtin.Dict.notOrdered "__setitem__" ⟨[.ref d,key,v],[]⟩ >>=_) _ _ s;refine zA (wpAny_notOrdered_dict ty ?_);show wpAny _ _ (dictSet d key v >>=_) _ _ s;exact zA (a6g hkey hm hsz fun h' hm' hs'=>zB ⟨.none,rfl,zB (hQ h' hm' hs')⟩)
end
section
variable {prog:Program}{w:World}{K:Type} [DecidableEq K] {knd:HeapKind prog w K}{A:Around}{E:Value->Shared->Prop}{s:Shared}
def DictLnH (knd:HeapKind prog w K) (h:Heap) (d:Addr) (xs:List (K×Addr×Value)):Prop:=∃o es,h.get? d=some o/\o.ExactDict/\o.data= .dict es xs.length/\es.toList=xs.map (entryOfKey knd)/\(∀x∈xs,knd.is h x.1 x.2.1)/\(xs.map (·.1)).Nodup
theorem DictLnH.of {h:Heap}{d:Addr}{xs:List (K×Addr×Value)}(x:DictLnH knd h d xs):h.DictOfH knd d xs:=let ⟨o,es,a,b,c,e⟩:=x;⟨o,es,_,a,b,c,e⟩
theorem a28 {d a:Addr}{xs:List (K×Addr×Value)}{k:K}{v:Value}{Q:Unit->Shared->Prop}(hu:knd.room A)(hkey:knd.is s.heap k a)(hm:DictLnH knd s.heap d xs)(hsz:xs.length<=sizeLine)
  (hQ:∀h',DictLnH knd h' d (storedH xs k a v)->Heap.SameBut d s.heap h'->Q () {s with heap:=h',toks:=s.toks+knd.draws k}):wpAny (model prog w) A (dictSet d (.ref a) v) Q E s:=by
 obtain⟨o,es,ho,hc,hd,he,his,hn⟩:=hm;have sz:=size_of_entries he;unfold dictSet
 try with_reducible refine qI ?_
 refine zA (knd.pyHash hu hkey ?_);unfold dictSetHashed
 try with_reducible refine qI ?_
 refine zA (wpAny_dictFind_heap (s:={s with toks:=s.toks+knd.draws k}) hu hkey ho hd he his hn ?_ ?_)
 ·intro hno;have hnot:k∉xs.map (·.1):=not_mem_keys_of_get hno;have en:=storedH_new (atKey_none_of_get hno) a v;refine zA (jT (wpAny_updateDictKeys (hz:=by walk_at "o") (s:={s with toks:=s.toks+knd.draws k}) ho hd (hQ _ ⟨_,_,xL _ ho (Obj.isFreed_of_dict (Obj.data_mapDictKeys hd _)),hc.mapDictKeys _,by rw[en,zM];exact Obj.data_mapDictKeys hd _,?_,?_,?_⟩ (qZ ..))))
  ·rw[en];simp[he,entryOfKey]
  ·rw[en];intro x hx;rcases qG.mp hx with hx|hx
   ·exact knd.keeps (his x hx) ho hd (qZ ..)
   ·rw[zN.mp hx];exact knd.keeps hkey ho hd (qZ ..)
  ·rw[en,zL,jR];exact⟨hn,by simp,fun x hx y hy e=>by simp only[zH,xW,zN] at hy;subst hy;exact hnot (e▸hx)⟩
 ·intro j p hj;have eo:=storedH_old (atKey_of_get hn hj) a v;refine zA (jT (zA (wpAny_updateDict (s:={s with toks:=s.toks+knd.draws k}) ho hd (wpAny_point (hQ _ ⟨_,_,xL _ ho (Obj.isFreed_of_dict (Obj.data_mapDict hd _)),hc.mapDict _,by rw[eo,zC];exact Obj.data_mapDict hd _,?_,?_,?_⟩ (qZ ..))))))
  ·rw[eo]
   have:=modify_map_putAt (entryOfKey knd) (fun e:DictEntry=>{e with val:=v}) k v (fun _ _=>rfl) hn hj
   rw[<-he] at this;obtain⟨l⟩:=es;simpa using this
  ·rw[eo];intro x hx;obtain⟨y,hy,rfl⟩:=zZ.mp hx;unfold putAt
   split<;>exact knd.keeps (his y hy) ho hd (qZ ..)
  ·rw[eo,keys_map_putAt];exact hn
theorem a6c {d a:Addr}{xs:List (K×Addr×Value)}{k:K}{v:Value}{Q:Unit->Shared->Prop}(hu:knd.room A.in1)(hkey:knd.is s.heap k a)(hm:DictLnH knd s.heap d xs)(hsz:xs.length<=sizeLine)
  (hQ:∀h',DictLnH knd h' d (storedH xs k a v)->Heap.SameBut d s.heap h'->Q () {s with heap:=h',toks:=s.toks+knd.draws k}):wpAny (model prog w) A (setItem (.ref d) (.ref a) v) Q E s:=by
 have ty:=hm.of.typeIs;unfold setItem
 try with_reducible refine qI ?_
 refine zA (yT ty (by decide) ?_)
 refine zA (qE (name:=Str.ofString "__setitem__") ty slot_dict_setitem (qO slot_dict_setitem ty entry_dict_setitem ?_ (args_dict_setitem _ _ _)));show wpAny _ _ (Builtin.Dict.notOrdered "__setitem__" ⟨[.ref d,.ref a,v],[]⟩ >>=_) _ _ s;refine zA (wpAny_notOrdered_dict ty ?_);show wpAny _ _ (dictSet d (.ref a) v >>=_) _ _ s;exact zA (a28 hu hkey hm hsz fun h' hm' hs'=>zB ⟨.none,rfl,zB (hQ h' hm' hs')⟩)
end
section
variable {κ:Type} [DecidableEq κ]
def valV (kvs:List (κ×V)) (k:κ):Option V:=(kvs.find? fun kv=>decide (kv.1=k)).map (·.2)
def putK (kvs:List (κ×V)) (k:κ) (v:V):List (κ×V):=
 if(kvs.any fun kv=>decide (kv.1=k))=true then kvs.map (fun kv=>if kv.1=k then(kv.1,v) else kv) else kvs++[(k,v)]
theorem a0z {p:κ×V}{r:List (κ×V)}{k:κ}(e:p.1=k):valV (p::r) k=some p.2:=by simp[valV,find?_cons,e]
theorem T8 {p:κ×V}{r:List (κ×V)}{k:κ}(e:¬p.1=k):valV (p::r) k=valV r k:=by simp[valV,find?_cons,e]
theorem a4T (k:κ):∀kvs:List (κ×V),(kvs.any fun kv=>decide (kv.1=k))=(valV kvs k).isSome
 | []=>rfl
 | p::r=>by
  rw[any_cons]
  by_cases e:p.1=k
  ·simp only[a0z e,qL e,Bool.true_or,Option.isSome_some]
  ·rw[T8 e,qK e,Bool.false_or];exact a4T k r
theorem V9 (kvs:List (κ×V))(k:κ)(v:V):(putK kvs k v).length<=kvs.length+1:=by
 unfold putK
 split
 ·rw[zC];walk_at "o"
 ·rw[zM,qJ,xY];walk_at "o"
theorem RelO.isSome_eq {o:Option V}{u:Option Value}(r:RelO o u):o.isSome=u.isSome:=by
 cases o with
 | none=>cases u with
  | none=>rfl
  | some _=>exact(show False from r).elim
 | some _=>cases u with
  | none=>exact(show False from r).elim
  | some _=>rfl
theorem RelO.getD {o:Option V}{u:Option Value}{d:V}{d':Value}(r:RelO o u)(rd:RelV d d'):RelV (o.getD d) (u.getD d'):=by
 cases o with
 | none=>cases u with
  | none=>exact rd
  | some _=>exact(show False from r).elim
 | some _=>cases u with
  | none=>exact(show False from r).elim
  | some _=>exact r
theorem KV.val {kvs:List (κ×V)}{vs:List (κ×Value)}(r:KV kvs vs)(k:κ):RelO (valV kvs k) (valueAt vs k):=by
 unfold KV at r
 induction r with
 | nil=>exact True.intro
 | @cons p q ps qs h t ih=>
  obtain⟨h1,h2⟩:=h
  by_cases e:p.1=k
  ·have e':q.1=k:=h1.symm.trans e;have b:valueAt (q::qs) k=some q.2:=by simp[valueAt,find?_cons,e']
   rw[a0z e,b];exact h2
  ·have e':¬q.1=k:=fun z=>e (h1.trans z);have b:valueAt (q::qs) k=valueAt qs k:=by simp[valueAt,find?_cons,e']
   rw[T8 e,b];exact ih
theorem KV.any {kvs:List (κ×V)}{vs:List (κ×Value)}(r:KV kvs vs)(k:κ):(kvs.any fun kv=>decide (kv.1=k))=vs.any fun kv=>decide (kv.1=k):=by
 unfold KV at r
 induction r with
 | nil=>rfl
 | cons h t ih=>rw[any_cons,any_cons,ih,h.1]
theorem KV.repl {kvs:List (κ×V)}{vs:List (κ×Value)}(r:KV kvs vs)(k:κ){y:V}{u:Value}(ry:RelV y u):
  KV (kvs.map fun kv=>if kv.1=k then(kv.1,y) else kv) (vs.map fun kv=>if kv.1=k then(kv.1,u) else kv):=by
 unfold KV at r ⊢
 induction r with
 | nil=>exact .nil
 | @cons p q ps qs h t ih=>
  rw[zH,zH];refine .cons ?_ ih;obtain⟨h1,h2⟩:=h
  by_cases e:p.1=k
  ·rw[if_pos e,if_pos (h1.symm.trans e)];exact⟨h1,ry⟩
  ·rw[if_neg e,if_neg (fun z=>e (h1.trans z))];exact⟨h1,h2⟩
theorem KV.put {kvs:List (κ×V)}{vs:List (κ×Value)}(r:KV kvs vs)(k:κ){y:V}{u:Value}(ry:RelV y u):KV (putK kvs k y) (stored vs k u):=by
 unfold putK stored;rw[r.any k]
 by_cases e:(vs.any fun kv=>decide (kv.1=k))=true
 ·rw[if_pos e,if_pos e];exact r.repl k ry
 ·rw[if_neg e,if_neg e];exact Paired.snoc r ⟨rfl,ry⟩
theorem KV.length {kvs:List (κ×V)}{vs:List (κ×Value)}(r:KV kvs vs):kvs.length=vs.length:=xJ r
end
theorem a3G {P:Program}{w:World}{k:Key}{u:Value}(r:RelV (kV k) u):(mixKind P w).is k u=true:=by
 cases k with
 | inl i=>obtain⟨t,e⟩:=(show ∃t,u=Value.int i t from r);subst e;exact a4Y P w i t
 | inr x=>obtain⟨t,e⟩:=(show ∃t,u=Value.str x t from r);subst e;exact a5g P w x t
theorem a1x {P:Program}{w:World}:∀{ks:List Key} {us:List Value},Vals (ks.map kV) us->ItemsAre (mixKind P w) ks us
 | [],_,r=>by rw[xW] at r;cases r;exact .nil
 | k::ks,_,r=>by
  rw[zH] at r;cases r with
  | cons h t=>exact .cons (a3G h) (a1x t)
abbrev KT (H:Hp):List (List Key×V)->List (List Key×Addr×Value)->Prop:=Paired fun p q=>p.1=q.1/\H q.2.1=some (.tup (p.1.map kV))/\RelV p.2 q.2.2
theorem KT.val {H:Hp}{kvs:List (List Key×V)}{xs:List (List Key×Addr×Value)}(r:KT H kvs xs)(k:List Key):RelO (valV kvs k) ((atKey xs k).map (·.2)):=by
 induction r with
 | nil=>exact True.intro
 | @cons p q ps qs h t ih=>
  obtain⟨h1,_,h2⟩:=h
  by_cases e:p.1=k
  ·have e':q.1=k:=h1.symm.trans e;have b:atKey (q::qs) k=some q.2:=by simp[atKey,find?_cons,e']
   rw[a0z e,b];exact h2
  ·have e':¬q.1=k:=fun z=>e (h1.trans z);have b:atKey (q::qs) k=atKey qs k:=by simp[atKey,find?_cons,e']
   rw[T8 e,b];exact ih
theorem KT.repl {H:Hp}{kvs:List (List Key×V)}{xs:List (List Key×Addr×Value)}(r:KT H kvs xs)(k:List Key){y:V}{u:Value}(ry:RelV y u):
  KT H (kvs.map fun kv=>if kv.1=k then(kv.1,y) else kv) (xs.map (putAt k u)):=by
 induction r with
 | nil=>exact .nil
 | @cons p q ps qs h t ih=>
  rw[zH,zH];refine .cons ?_ ih;obtain⟨h1,h2,h3⟩:=h;unfold putAt
  by_cases e:p.1=k
  ·rw[if_pos e,if_pos (h1.symm.trans e)];exact⟨h1,h2,ry⟩
  ·rw[if_neg e,if_neg (fun z=>e (h1.trans z))];exact⟨h1,h2,h3⟩
theorem KT.put {H:Hp}{kvs:List (List Key×V)}{xs:List (List Key×Addr×Value)}(r:KT H kvs xs)(k:List Key){b:Addr}{y:V}{u:Value}(hb:H b=some (.tup (k.map kV)))(ry:RelV y u):
  KT H (putK kvs k y) (storedH xs k b u):=by
 have e:(kvs.any fun kv=>decide (kv.1=k))=(atKey xs k).isSome:=by
  rw[a4T,(r.val k).isSome_eq,isSome_map]
 unfold putK storedH;rw[e]
 by_cases q:(atKey xs k).isSome=true
 ·rw[if_pos q,if_pos q];exact r.repl k ry
 ·rw[if_neg q,if_neg q];exact Paired.snoc r ⟨rfl,hb,ry⟩
theorem KT.keeps {H H':Hp}{kvs:List (List Key×V)}{xs:List (List Key×Addr×Value)}(r:KT H kvs xs)(ht:∀b ys,H b=some (.tup ys)->H' b=some (.tup ys)):KT H' kvs xs:=
 Paired.mapP r fun _ _ z=>⟨z.1,ht _ _ z.2.1,z.2.2⟩
section
variable {P:Program}{w:World}{H:Hp}{h:Heap}{a:Addr}
theorem b0A {u:HO}(ok:HOk P w H h)(e:Rd H a u):ObjOk P w H h a u:=e.ok ok
theorem dk_rd {kvs:List (Key×V)}(ok:HOk P w H h)(e:Rd H a (.dK kvs)):kvs.length<=sizeLine/\(a==sysModules)=false/\∃vs,KV kvs vs/\h.DictOf (mixKind P w) a vs:=
 let ⟨z,y,vs,r,d⟩:=(show ObjOk P w H h a (.dK kvs) from b0A ok e);⟨z,y,vs,r,d.dictOf⟩
theorem dk_at {kvs:List (Key×V)}(ok:HOk P w H h)(e:H a=some (.dK kvs)):kvs.length<=sizeLine/\(a==sysModules)=false/\∃vs,KV kvs vs/\h.DictAt (mixKind P w) a vs kvs.length:=b0A ok (.inl e)
theorem a7x {kvs:List (Key×V)}(ok:HOk P w H h)(e:H a=some (.dK kvs)):kvs.length<=sizeLine/\(a==sysModules)=false/\∃vs,KV kvs vs/\h.DictOf (mixKind P w) a vs:=dk_rd ok (.inl e)
theorem a5F {ks:List Key}(ok:HOk P w H h)(e:H a=some (.tup (ks.map kV))):(tupleKind (mixKind P w)).is h ks a:=by
 obtain⟨_,its,r,o,h1,h2,⟨n,h3⟩,_⟩:=(show ObjOk P w H h a (.tup (ks.map kV)) from ok a _ e);exact⟨o,its.toArray,n,h1,h2,h3,by simpa using a1x r⟩
theorem a6a {kvs:List (List Key×V)}(ok:HOk P w H h)(e:Rd H a (.dT kvs)):kvs.length<=sizeLine/\(a==sysModules)=false/\
  ∃xs,KT H kvs xs/\DictLnH (tupleKind (mixKind P w)) h a xs:=by
 obtain⟨z,y,xs,r,o,es,h1,h2,h3,h4,h5⟩:=(show ObjOk P w H h a (.dT kvs) from b0A ok e);refine⟨z,y,xs,r,o,es,h1,h2,by rw[<-xJ r];exact h3,h4,fun x hx=>?_,h5⟩
 have all:∀{l:List (List Key×V)} {m:List (List Key×Addr×Value)},KT H l m->∀x∈m,(tupleKind (mixKind P w)).is h x.1 x.2.1:=by
  intro l m q
  induction q with
  | nil=>intro x hx;exact nomatch hx
  | @cons p q ps qs hq t ih=>
   intro x hx;rcases zX.mp hx with e|hx
   ·subst e;exact a5F ok (by rw[<-hq.1];exact hq.2.1)
   ·exact ih x hx
 exact all r x hx
theorem dt_rd {kvs:List (List Key×V)}(ok:HOk P w H h)(e:Rd H a (.dT kvs)):kvs.length<=sizeLine/\(a==sysModules)=false/\
  ∃xs,KT H kvs xs/\h.DictOfH (tupleKind (mixKind P w)) a xs:=let ⟨z,y,xs,r,d⟩:=a6a ok e;⟨z,y,xs,r,d.of⟩
theorem a7K {kvs:List (List Key×V)}(ok:HOk P w H h)(e:H a=some (.dT kvs)):kvs.length<=sizeLine/\(a==sysModules)=false/\
  ∃xs,KT H kvs xs/\h.DictOfH (tupleKind (mixKind P w)) a xs:=dt_rd ok (.inl e)
end
def DPut (H:Hp) (a:Addr) (y v:V) (H':Hp):Prop:=
 (∃kvs k,H a=some (.dK kvs)/\y=kV k/\kvs.length<sizeLine/\H'=upd H a (.dK (putK kvs k v)))\/
 ∃kvs k b,H a=some (.dT kvs)/\y= .ref b/\H b=some (.tup (k.map kV))/\kvs.length<sizeLine/\H'=upd H a (.dT (putK kvs k v))
theorem DPut.t {H:Hp}{a b:Addr}{kvs:List (List Key×V)}{k:List Key}{v:V}(e:H a=some (.dT kvs))(eb:H b=some (.tup (k.map kV)))(hl:kvs.length<sizeLine):
  DPut H a (.ref b) v (upd H a (.dT (putK kvs k v))):=.inr ⟨kvs,k,b,e,rfl,eb,hl,rfl⟩
section
variable {X:Cx}{pins:List (Addr×Obj)}{σ:St}{H:Hp}{s:Shared}{a:Addr}{y v:V}{u r:Value}{o:Option V}{A:Around}{E:Value->Shared->Prop}
theorem Inv.big (I:Inv X pins σ H s):sysModules<s.heap.objs.size:=by
 have h:mainGlobals<s.heap.objs.size:=(I.mod.glob.keeps I.bk).lt;exact Nat.lt_trans (by decide) h
theorem a4s {h':Heap}{t':Nat}{ob:HO}(I:Inv X pins σ H s)(mu:Mut (H a))(hs:Heap.SameBut a s.heap h')(he:∃q,h'.get? a=some q)(new:ObjOk X.prog X.w (upd H a ob) h' a ob):
  Inv X pins σ (upd H a ob) {s with heap:=h',toks:=t'}:=
 I.write (x:=a) (e:=a) mu (.inl rfl) (fun b q hb z=>(hs.2 b hb).trans z) he new
theorem b3U {P:Program}{w:World}{H':Hp}{h':Heap}{kvs:List (Key×V)}{vs:List (Key×Value)}(z:kvs.length<=sizeLine)(hd:(a==sysModules)=false)(rel:KV kvs vs)(dd:h'.DictAt (mixKind P w) a vs vs.length):
  ObjOk P w H' h' a (.dK kvs):=⟨z,hd,vs,rel,by rw[rel.length];exact dd⟩
theorem a8w {H':Hp}{Q:Unit->Shared->Prop}(hu:A.units+1<cLine)(I:Inv X pins σ H s)(g:DPut H a y v H')(ry:RelV y u)(rv:RelV v r)(h:∀s',Inv X pins σ H' s'->Q () s'):
  wpAny (model X.prog X.w) A (setItem (.ref a) u r) Q E s:=by
 rcases g with ⟨kvs,k,e,ey,l,eH⟩|⟨kvs,k,b,e,ey,eb,l,eH⟩
 ·subst ey eH;obtain⟨z,hd,vs,rel,dd⟩:=dk_at I.hok e;rw[rel.length] at dd;have hz:vs.length<=sizeLine:=by rw[<-rel.length];exact z
  have hl:(putK kvs k v).length<=sizeLine:=by have:=V9 kvs k v;walk_at "o"
  refine a5e (a3G ry) dd hz fun h' dd' hs=>h _ ?_;have he:∃q,h'.get? a=some q:=let ⟨q,_,hq,_⟩:=dd';⟨q,hq⟩;exact a4s I (by rw[e];exact True.intro) hs he (b3U hl hd (rel.put k rv) dd')
 ·subst ey eH;cases(show u=Value.ref b from ry);obtain⟨z,hd,xs,rel,dd⟩:=a6a I.hok (.inl e);have hz:xs.length<=sizeLine:=by rw[<-xJ rel];exact z
  have hl:(putK kvs k v).length<=sizeLine:=by have:=V9 kvs k v;walk_at "o"
  refine a6c (yN hu) (a5F I.hok eb) dd hz fun h' dd' hs=>h _ ?_;obtain⟨q,es,hq,h2,h3,h4,_,h5⟩:=dd';refine a4s I (by rw[e];exact True.intro) hs ⟨q,hq⟩ ⟨hl,hd,_,(rel.put k eb rv).keeps fun c ys ec=>?_,q,es,hq,h2,by rw[xJ (rel.put k eb rv)];exact h3,h4,h5⟩
  rw[g8 (b2U ec e (fun z=>nomatch z))];exact ec
end
def sDPut (td ty tv:TE):TS:=fun D σ H=>tv σ H fun v H1=>td σ H1 fun x H2=>ty σ H2 fun y H3=>∃a H4,x= .ref a/\DPut H3 a y v H4/\D.nx σ H4
section
variable {X:Cx}{o i value:Expr}{pos pos':Pos}{td ty tv:TE}
theorem b1I (hu:X.A.units+1<cLine)(ho:PE X o td)(hi:PE X i ty)(hv:PE X value tv)(hs:swapsWith value (some (.Subscript o i pos')) pos.line X.env=pure false):
  PS X (.Assign [.Subscript o i pos'] value pos) (sDPut td ty tv):=by
 intro pins s σ H D I h;refine wpAny_Assign_Subscript (thn (hv pins s σ H _ I h) fun r s1 ⟨v,H1,I1,rv,q1⟩=>thn (ho pins s1 σ H1 _ I1 q1) fun u s2 ⟨x,H2,I2,rx,q2⟩=>thn (hi pins s2 σ H2 _ I2 q2) fun iv s3 ⟨y,H3,I3,ry,a,H4,ex,g,q3⟩=>?_) hs;subst ex;obtain rfl:u=Value.ref a:=rx;exact a8w hu I3 g ry rv fun s4 I4=>⟨σ,H4,I4,q3⟩
end
theorem a5D {P:Program}{w:World}{H:Hp}(h:Heap)(hb:sysModules<h.objs.size):ObjOk P w H (h.push {cls:=.type "dict",data:=.dict #[]}) h.objs.size (.dT []):=
 ⟨jN _,beq_eq_false_iff_ne.mpr (qT (zT hb)),[],.nil,_, #[],zS _ rfl,⟨rfl,rfl,rfl⟩,rfl,rfl,nodup_nil⟩
def tDNewT:TE:=fun _ H Q=>∀p,H p=none->Q (.ref p) (upd H p (.dT []))
section
variable {X:Cx}{pos:Pos}
theorem b0M:PE X (.Dict [] [] pos) tDNewT:=fun pins s σ H Q I h=>
 wpAny_Dict_empty ⟨.ref s.heap.objs.size,_,I.laid (a:=s.heap.objs.size) (o:=.dT []) (t':=s.toks) (fun _ _ q=>zD _ q) (zE _) (a5D s.heap I.big),rfl,h _ (I.hok.fresh (zE _))⟩
end
end L2
set_option maxHeartbeats 1000000
namespace Z
open PySem PySem.Spec PyProof.Rows L2
theorem obs {α β:Type}{o:Option α}{k:α->Option β}{y:β}(h:o.bind k=some y):∃a,o=some a/\k a=some y:=Option.bind_eq_some_iff.mp h
theorem oms {α β:Type}{o:Option α}{k:α->β}{y:β}(h:o.map k=some y):∃a,o=some a/\k a=y:=Option.map_eq_some_iff.mp h
set_option genInjectivity true in
inductive D where
 | non|bl (b:Bool)|int (i:Int)|str (x:Str)|tup (xs:List D)|lst (xs:List D)|dT (ks:List (List Key)) (xs:List D)|dK (ks:List Key) (xs:List D)|exn (C:Addr)
set_option genInjectivity true in
inductive W where
 | v (d:D)|o (d:D)|l (d:D)|r (i:Nat)
abbrev Ev:=List (Option W)
abbrev Av:=Addr->Prop
def ExcAt (a C:Addr) (h:Heap):Prop:=∃o vs,h.get? a=some o/\o.cls= .ref C/\o.data= .fields vs
def Mu:HO->Prop
 | .lst _=>True
 | .dT _=>True
 | .dK _=>True
 | _=>False
abbrev Emp:Hp:=fun _=>none
mutual
def Den (K:PySem.W.Frag) (A:Av) (H:Hp):D->V->Prop
 | .non,v=>v= .non
 | .bl b,v=>v= .bl b
 | .int i,v=>v= .int i
 | .str x,v=>v= .str x
 | .tup xs,v=>∃a vs,v= .ref a/\SqT K H a vs/\DenL K A H xs vs
 | .lst xs,v=>∃a vs,v= .ref a/\((H a=some (.lst vs)/\¬A a)\/(∃o,H a=some (.frz o (.lst vs)))\/SqL K Emp a vs)/\DenL K A H xs vs
 | .dT ks xs,v=>∃a vs,v= .ref a/\(H a=some (.dT (ks.zip vs))/\¬A a)/\ks.length=xs.length/\DenL K A H xs vs
 | .dK ks xs,v=>∃a vs,v= .ref a/\(H a=some (.dK (ks.zip vs))/\¬A a)/\ks.length=xs.length/\DenL K A H xs vs
 | .exn C,v=>∃a,v= .ref a/\H a=some (.ext (ExcAt a C))
def DenL (K:PySem.W.Frag) (A:Av) (H:Hp):List D->List V->Prop
 | [],vs=>vs=[]
 | d::ds,vs=>∃v r,vs=v::r/\Den K A H d v/\DenL K A H ds r
end
section
variable {K:PySem.W.Frag}{A A' M:Av}{H H':Hp}
structure Go (A A' M:Av) (H H':Hp):Prop where
 k:∀b o,H b=some o->¬M b->H' b=some o
 m:∀b,M b->A b/\∃u,H b=some u/\Mu u
 n:∀b,A' b->A b\/H b=none
theorem Go.not (g:Go A A' M H H'){b:Addr}{u:HO}(e:H b=some u)(n:¬Mu u):H' b=some u:=g.k b u e fun z=>by
 obtain⟨_,u',e',m⟩:=g.m b z;rw[e] at e';cases e';exact n m
theorem Go.lone (g:Go A A' M H H'){b:Addr}{u:HO}(h:H b=some u/\¬A b):H' b=some u/\¬A' b:=
 ⟨g.k b u h.1 fun z=>h.2 (g.m b z).1,fun z=>(g.n b z).elim h.2 fun z=>by rw[h.1] at z;cases z⟩
mutual
theorem u9 (g:Go A A' M H H'):∀(d:D) (v:V),Den K A H d v->Den K A' H' d v
 | .non,v,h=>by rw[Den] at h ⊢;exact h
 | .bl b,v,h=>by rw[Den] at h ⊢;exact h
 | .int i,v,h=>by rw[Den] at h ⊢;exact h
 | .str x,v,h=>by rw[Den] at h ⊢;exact h
 | .tup xs,v,h=>by
  rw[Den] at h ⊢;obtain⟨a,vs,e,q,l⟩:=h;refine⟨a,vs,e,?_,w4 g xs vs l⟩;rcases q with (q|⟨o,q⟩)|q
  ·exact .inl (.inl (g.not q id))
  ·exact .inl (.inr ⟨o,g.not q id⟩)
  ·exact .inr q
 | .lst xs,v,h=>by
  rw[Den] at h ⊢;obtain⟨a,vs,e,q,l⟩:=h;refine⟨a,vs,e,?_,w4 g xs vs l⟩;rcases q with q|⟨o,q⟩|q
  ·exact .inl (g.lone q)
  ·exact .inr (.inl ⟨o,g.not q id⟩)
  ·exact .inr (.inr q)
 | .dT ks xs,v,h=>by
  rw[Den] at h ⊢;obtain⟨a,vs,e,q,hl,l⟩:=h;exact⟨a,vs,e,g.lone q,hl,w4 g xs vs l⟩
 | .dK ks xs,v,h=>by
  rw[Den] at h ⊢;obtain⟨a,vs,e,q,hl,l⟩:=h;exact⟨a,vs,e,g.lone q,hl,w4 g xs vs l⟩
 | .exn C,v,h=>by
  rw[Den] at h ⊢;obtain⟨a,e,q⟩:=h;exact⟨a,e,g.not q id⟩
theorem w4 (g:Go A A' M H H'):∀(ds:List D) (vs:List V),DenL K A H ds vs->DenL K A' H' ds vs
 | [],vs,h=>by rw[DenL] at h ⊢;exact h
 | d::ds,vs,h=>by
  rw[DenL] at h ⊢;obtain⟨v,r,e,q,l⟩:=h;exact⟨v,r,e,u9 g d v q,w4 g ds r l⟩
end
theorem a1Y (s:Same H H'):Go A A (fun _=>False) H H':=⟨fun b o e _=>s b o e,fun _ z=>z.elim,fun _ z=>.inl z⟩
theorem A3 (h:∀b,A' b->A b):Go A A' (fun _=>False) H H:=⟨fun _ _ e _=>e,fun _ z=>z.elim,fun b z=>.inl (h b z)⟩
theorem V8 (s:Same H H'){d:D}{v:V}(h:Den K A H d v):Den K A H' d v:=u9 (a1Y s) d v h
theorem a8H (s:Same H H'){d:List D}{v:List V}(h:DenL K A H d v):DenL K A H' d v:=w4 (a1Y s) d v h
theorem j8 {d:D}{ds:List D}{v:V}{vs:List V}(h:Den K A H d v)(t:DenL K A H ds vs):DenL K A H (d::ds) (v::vs):=by rw[DenL];exact⟨v,vs,rfl,h,t⟩
theorem k5:DenL K A H [] []:=by rw[DenL]
theorem t5:∀{ds es:List D} {vs ws:List V},DenL K A H ds vs->DenL K A H es ws->DenL K A H (ds++es) (vs++ws)
 | [],_,_,_,h,t=>by rw[DenL] at h;subst h;exact t
 | d::ds,_,_,_,h,t=>by
  rw[DenL] at h;obtain⟨v,r,rfl,q,l⟩:=h;exact j8 q (t5 l t)
theorem c6:∀{ds:List D} {vs:List V},DenL K A H ds vs->ds.length=vs.length
 | [],_,h=>by rw[DenL] at h;subst h;rfl
 | d::ds,_,h=>by
  rw[DenL] at h;obtain⟨v,r,rfl,q,l⟩:=h;rw[qJ,qJ,c6 l]
theorem z6:∀{ds:List D} {vs:List V} {i:Nat} {d:D},DenL K A H ds vs->ds[i]? =some d->∃v,vs[i]? =some v/\Den K A H d v
 | [],_,_,_,_,e=>by simp at e
 | d::ds,_,0,_,h,e=>by
  rw[DenL] at h;obtain⟨v,r,rfl,q,l⟩:=h;simp at e;subst e;exact⟨v,rfl,q⟩
 | d::ds,_,i+1,x,h,e=>by
  rw[DenL] at h;obtain⟨v,r,rfl,q,l⟩:=h;obtain⟨u,h1,h2⟩:=z6 (i:=i) (d:=x) l (by simpa using e)
  exact⟨u,by simpa using h1,h2⟩
theorem a5r {d:D}{v:V}(hd:Den K A H d v):∀{ds:List D} {vs:List V} (i:Nat),DenL K A H ds vs->DenL K A H (ds.set i d) (vs.set i v)
 | [],_,_,h=>by rw[DenL] at h;subst h;exact k5
 | _::_,_,0,h=>by
  rw[DenL] at h;obtain⟨v,r,rfl,q,l⟩:=h;exact j8 hd l
 | _::_,_,i+1,h=>by
  rw[DenL] at h;obtain⟨v,r,rfl,q,l⟩:=h;exact j8 q (a5r hd i l)
theorem a3C:∀{ds:List D} {vs:List V} (n:Nat),DenL K A H ds vs->DenL K A H (ds.take n) (vs.take n)
 | [],_,n,h=>by rw[DenL] at h;subst h;simp;exact k5
 | d::ds,_,0,h=>by simp;exact k5
 | d::ds,_,n+1,h=>by
  rw[DenL] at h;obtain⟨v,r,rfl,q,l⟩:=h;exact j8 q (a3C n l)
theorem a3K:∀{ds:List D} {vs:List V} (n:Nat),DenL K A H ds vs->DenL K A H (ds.drop n) (vs.drop n)
 | [],_,n,h=>by rw[DenL] at h;subst h;simp;exact k5
 | d::ds,_,0,h=>h
 | d::ds,_,n+1,h=>by
  rw[DenL] at h;obtain⟨v,r,rfl,q,l⟩:=h;exact a3K n l
theorem u5 {i:Int}{v:V}:Den K A H (.int i) v↔v= .int i:=by rw[Den]
theorem a14 {i:Bool}{v:V}:Den K A H (.bl i) v↔v= .bl i:=by rw[Den]
theorem a7l {v:V}:Den K A H .non v↔v= .non:=by rw[Den]
theorem a1V {i:Str}{v:V}:Den K A H (.str i) v↔v= .str i:=by rw[Den]
theorem denL1 {d:D}{vs:List V}(l:DenL K A H [d] vs):∃v,vs=[v]/\Den K A H d v:=by
 rw[DenL] at l;obtain⟨v,r,rfl,h,l⟩:=l;rw[DenL] at l;subst l;exact⟨v,rfl,h⟩
theorem denL2 {d e:D}{vs:List V}(l:DenL K A H [d,e] vs):∃v u,vs=[v,u]/\Den K A H d v/\Den K A H e u:=by
 rw[DenL] at l;obtain⟨v,r,rfl,h,l⟩:=l;obtain⟨u,rfl,h'⟩:=denL1 l;exact⟨v,u,rfl,h,h'⟩
end
mutual
def lf:D->Bool
 | .tup xs=>lfL xs
 | .lst _=>false
 | .dT _ _=>false
 | .dK _ _=>false
 | _=>true
def lfL:List D->Bool
 | []=>true
 | d::ds=>lf d&&lfL ds
end
section
variable {K:PySem.W.Frag}{A A':Av}{H H':Hp}
mutual
theorem a32 (g:∀b o,H b=some o->¬Mu o->H' b=some o):∀(d:D) (v:V),lf d=true->Den K A H d v->Den K A' H' d v
 | .non,v,_,h=>by rw[Den] at h ⊢;exact h
 | .bl b,v,_,h=>by rw[Den] at h ⊢;exact h
 | .int i,v,_,h=>by rw[Den] at h ⊢;exact h
 | .str x,v,_,h=>by rw[Den] at h ⊢;exact h
 | .tup xs,v,f,h=>by
  rw[Den] at h ⊢;obtain⟨a,vs,e,q,l⟩:=h;refine⟨a,vs,e,?_,a0G g xs vs (by rw[lf] at f;exact f) l⟩
  rcases q with (q|⟨o,q⟩)|q
  ·exact .inl (.inl (g _ _ q id))
  ·exact .inl (.inr ⟨o,g _ _ q id⟩)
  ·exact .inr q
 | .lst xs,v,f,h=>by rw[lf] at f;cases f
 | .dT _ xs,v,f,h=>by rw[lf] at f;cases f
 | .dK _ xs,v,f,h=>by rw[lf] at f;cases f
 | .exn _,v,_,h=>by rw[Den] at h ⊢;obtain⟨a,e,q⟩:=h;exact⟨a,e,g _ _ q id⟩
theorem a0G (g:∀b o,H b=some o->¬Mu o->H' b=some o):∀(d:List D) (v:List V),lfL d=true->DenL K A H d v->DenL K A' H' d v
 | [],v,_,h=>by rw[DenL] at h ⊢;exact h
 | d::ds,v,f,h=>by
  rw[lfL,jJ] at f;rw[DenL] at h ⊢;obtain⟨u,r,e,q,l⟩:=h;exact⟨u,r,e,a32 g d u f.1 q,a0G g ds r f.2 l⟩
end
end
def Obj (K:PySem.W.Frag) (A:Av) (H:Hp) (a:Addr):D->Prop
 | .lst xs=>∃vs,H a=some (.lst vs)/\DenL K A H xs vs
 | .dT ks xs=>∃vs,H a=some (.dT (ks.zip vs))/\ks.length=xs.length/\DenL K A H xs vs
 | .dK ks xs=>∃vs,H a=some (.dK (ks.zip vs))/\ks.length=xs.length/\DenL K A H xs vs
 | _=>False
def DenR (K:PySem.W.Frag) (A:Av) (H:Hp):D->V->Prop
 | .lst xs,v=>∃a vs,v= .ref a/\SqL K H a vs/\DenL K A H xs vs
 | .dT ks xs,v=>∃a vs,v= .ref a/\H a=some (.dT (ks.zip vs))/\ks.length=xs.length/\DenL K A H xs vs
 | .dK ks xs,v=>∃a vs,v= .ref a/\H a=some (.dK (ks.zip vs))/\ks.length=xs.length/\DenL K A H xs vs
 | d,v=>Den K A H d v
section
variable {K:PySem.W.Frag}{A A' M:Av}{H H':Hp}{d:D}{v:V}{a:Addr}
theorem A2 (g:Go A A' M H H')(hk:H' a=H a)(h:Obj K A H a d):Obj K A' H' a d:=by
 cases d with
 | lst xs=>obtain⟨vs,e,l⟩:=h;exact⟨vs,hk.trans e,w4 g _ _ l⟩
 | dT ks xs=>obtain⟨vs,e,hl,l⟩:=h;exact⟨vs,hk.trans e,hl,w4 g _ _ l⟩
 | dK ks xs=>obtain⟨vs,e,hl,l⟩:=h;exact⟨vs,hk.trans e,hl,w4 g _ _ l⟩
 | _=>exact h
theorem F0 (h:Obj K A H a d):∃u,H a=some u/\Mu u:=by
 cases d with
 | lst xs=>obtain⟨vs,e,l⟩:=h;exact⟨_,e,trivial⟩
 | dT ks xs=>obtain⟨vs,e,hl,l⟩:=h;exact⟨_,e,trivial⟩
 | dK ks xs=>obtain⟨vs,e,hl,l⟩:=h;exact⟨_,e,trivial⟩
 | _=>exact h.elim
theorem a0y (h:Obj K A H a d)(n:¬A a):Den K A H d (.ref a):=by
 cases d with
 | lst xs=>obtain⟨vs,e,l⟩:=h;rw[Den];exact⟨a,vs,rfl,.inl ⟨e,n⟩,l⟩
 | dT ks xs=>obtain⟨vs,e,hl,l⟩:=h;rw[Den];exact⟨a,vs,rfl,⟨e,n⟩,hl,l⟩
 | dK ks xs=>obtain⟨vs,e,hl,l⟩:=h;rw[Den];exact⟨a,vs,rfl,⟨e,n⟩,hl,l⟩
 | _=>exact h.elim
theorem obj_r (h:Obj K A H a d):DenR K A H d (.ref a):=by
 cases d with
 | lst xs=>obtain⟨vs,e,l⟩:=h;exact⟨a,vs,rfl,.inl (.inl e),l⟩
 | dT ks xs=>obtain⟨vs,e,hl,l⟩:=h;exact⟨a,vs,rfl,e,hl,l⟩
 | dK ks xs=>obtain⟨vs,e,hl,l⟩:=h;exact⟨a,vs,rfl,e,hl,l⟩
 | _=>exact h.elim
theorem F2 (h:Den K A H d v):DenR K A H d v:=by
 cases d with
 | lst xs=>
  rw[Den] at h;obtain⟨a,vs,e,q,l⟩:=h;refine⟨a,vs,e,?_,l⟩;rcases q with q|⟨o,q⟩|(q|⟨o,q⟩)|q
  ·exact .inl (.inl q.1)
  ·exact .inl (.inr ⟨o,q⟩)
  ·cases q
  ·cases q
  ·exact .inr q
 | dT ks xs=>rw[Den] at h;obtain⟨a,vs,e,q,l⟩:=h;exact⟨a,vs,e,q.1,l⟩
 | dK ks xs=>rw[Den] at h;obtain⟨a,vs,e,q,l⟩:=h;exact⟨a,vs,e,q.1,l⟩
 | _=>exact h
end
def W.own:W->Option D
 | .o d=>some d
 | .l d=>some d
 | _=>none
def Ow (ρ:Ev) (σ:L2.St):Av:=fun b=>∃(i:Nat) (w:W) (d:D),ρ[i]? =some (some w)/\w.own=some d/\σ[i]? =some (some (V.ref b))
abbrev AvO (O:Av) (ρ:Ev) (σ:L2.St):Av:=fun b=>O b\/Ow ρ σ b
def SlotOk (K:PySem.W.Frag) (A:Av) (H:Hp):W->V->Prop
 | .v d,v=>Den K A H d v
 | .o d,v=>∃a,v= .ref a/\Obj K A H a d
 | .l d,v=>∃a,v= .ref a/\Obj K A H a d
 | .r _,_=>False
def hz (X:Cx) (L:List (Option Nat×Addr)):Hp:=fun b=>if(none,b)∈L then none else X.H₀ b
structure Rep (X:Cx) (P:List (D×V)) (O:Av) (L:List (Option Nat×Addr)) (ρ:Ev) (σ:L2.St) (H:Hp):Prop where
 same:∀b o,X.H₀ b=some o->(∀i,(i,b)∉L)->H b=some o
 amb:∀b,O b->(∃o,X.H₀ b=some o)/\∀i,(i,b)∉L
 len:ρ.length=σ.length
 slot:∀(i:Nat) (w:W),ρ[i]? =some (some w)->∃v,σ[i]? =some (some v)/\SlotOk X.K (AvO O ρ σ) H w v
 inj:∀(i j:Nat) (w w':W) (d d':D) (b:Addr),ρ[i]? =some (some w)->w.own=some d->σ[i]? =some (some (.ref b))->ρ[j]? =some (some w')->w'.own=some d'->σ[j]? =some (some (.ref b))->i=j
 new:∀(i:Nat) (d:D) (b:Addr),ρ[i]? =some (some (.o d))->σ[i]? =some (some (.ref b))->hz X L b=none
 lnt:∀(i:Nat) (d:D),ρ[i]? =some (some (.l d))->∃b,σ[i]? =some (some (.ref b))/\(some i,b)∈L
 lnd:∀(i:Nat) (b:Addr),(some i,b)∈L->∃d,ρ[i]? =some (some (.l d))/\σ[i]? =some (some (.ref b))
 prot:∀p∈P,Den X.K (AvO O ρ σ) H p.1 p.2
 gvl:∀b,(none,b)∈L->∃(i:Nat) (a:Addr),(some i,a)∈L
section
variable {X:Cx}{P:List (D×V)}{O:Av}{L:List (Option Nat×Addr)}{ρ:Ev}{σ:L2.St}{H H':Hp}
theorem a5R {K:PySem.W.Frag}{A:Av}{H:Hp}{w:W}{d:D}{v:V}(h:SlotOk K A H w v)(e:w.own=some d):∃a,v= .ref a/\Obj K A H a d:=by
 cases w<;>simp only[W.own] at e<;>first|(cases e;exact h)|cases e
theorem Rep.obj (r:Rep X P O L ρ σ H){i:Nat}{w:W}{d:D}(e:ρ[i]? =some (some w))(ew:w.own=some d):∃a,σ[i]? =some (some (.ref a))/\Obj X.K (AvO O ρ σ) H a d:=by
 obtain⟨v,h1,h2⟩:=r.slot i w e;obtain⟨a,rfl,h3⟩:=a5R h2 ew;exact⟨a,h1,h3⟩
theorem Rep.owMu (r:Rep X P O L ρ σ H){b:Addr}(z:Ow ρ σ b):∃u,H b=some u/\Mu u:=by
 obtain⟨i,w,d,e1,e2,e3⟩:=z;obtain⟨a,h1,h2⟩:=r.obj e1 e2;rw[e3] at h1;cases h1;exact F0 h2
theorem Rep.ambN (r:Rep X P O L ρ σ H){b:Addr}(z:O b):¬Ow ρ σ b:=fun⟨i,w,d,e1,e2,e3⟩=>by
 obtain⟨⟨o,h0⟩,hl⟩:=r.amb b z;cases w with
 | o d'=>have:=r.new i d' b e1 e3;unfold hz at this;rw[if_neg (hl none),h0] at this;cases this
 | l d'=>obtain⟨c,h1,h2⟩:=r.lnt i d' e1;rw[e3] at h1;cases h1;exact hl (some i) h2
 | _=>cases e2
theorem Rep.there (r:Rep X P O L ρ σ H){b:Addr}(z:AvO O ρ σ b):∃o,H b=some o:=by
 rcases z with z|z
 ·obtain⟨⟨o,h0⟩,hl⟩:=r.amb b z;exact⟨o,r.same b o h0 hl⟩
 ·obtain⟨u,e,_⟩:=r.owMu z;exact⟨u,e⟩
theorem Rep.fresh (r:Rep X P O L ρ σ H){b:Addr}(n:H b=none):¬AvO O ρ σ b:=fun z=>by obtain⟨o,e⟩:=r.there z;rw[n] at e;cases e
theorem Rep.fresh0 (r:Rep X P O L ρ σ H){b:Addr}(n:H b=none):hz X L b=none:=by
 unfold hz
 split
 ·rfl
 ·rename_i hg;cases q:X.H₀ b with
  | none=>rfl
  | some o=>
   have:H b=some o:=r.same b o q fun i e=>by
    cases i with
    | none=>exact hg e
    | some i=>
     obtain⟨d,h1,h2⟩:=r.lnd i b e;obtain⟨a,h3,h4⟩:=r.obj h1 rfl;rw[h2] at h3;cases h3;obtain⟨u,e,_⟩:=F0 h4;rw[n] at e;cases e
   rw[n] at this;cases this
theorem O3 {K:PySem.W.Frag}{A A' M:Av}{H H':Hp}(g:Go A A' M H H'){w:W}{v:V}(hk:∀a d,w.own=some d->v= .ref a->H' a=H a)(h:SlotOk K A H w v):SlotOk K A' H' w v:=by
 cases w with
 | v d=>exact u9 g _ _ h
 | o d=>obtain⟨a,e,q⟩:=h;exact⟨a,e,A2 g (hk a d rfl e) q⟩
 | l d=>obtain⟨a,e,q⟩:=h;exact⟨a,e,A2 g (hk a d rfl e) q⟩
 | r i=>exact h
theorem Rep.grow (r:Rep X P O L ρ σ H)(s:Same H H'):Rep X P O L ρ σ H' where
 same:=fun b o e hl=>s b o (r.same b o e hl)
 amb:=r.amb
 len:=r.len
 slot:=fun i w e=>by
  obtain⟨v,h1,h2⟩:=r.slot i w e;refine⟨v,h1,O3 (a1Y s) (fun a d ew ev=>?_) h2⟩;subst ev;obtain⟨b,h3,h4⟩:=r.obj e ew;rw[h1] at h3;cases h3;obtain⟨u,eu,_⟩:=F0 h4;rw[eu,s _ _ eu]
 inj:=r.inj
 new:=r.new
 lnt:=r.lnt
 lnd:=r.lnd
 prot:=fun p hp=>V8 s (r.prot p hp)
 gvl:=r.gvl
theorem Rep.more {p:D×V}(r:Rep X P O L ρ σ H)(h:Den X.K (AvO O ρ σ) H p.1 p.2):Rep X (p::P) O L ρ σ H:=
 ⟨r.same,r.amb,r.len,r.slot,r.inj,r.new,r.lnt,r.lnd,fun q hq=>(zX.mp hq).elim (fun e=>by rw[e];exact h) (r.prot q),r.gvl⟩
theorem Rep.less {p:D×V}(r:Rep X (p::P) O L ρ σ H):Rep X P O L ρ σ H:=
 ⟨r.same,r.amb,r.len,r.slot,r.inj,r.new,r.lnt,r.lnd,fun q hq=>r.prot q (zI _ hq),r.gvl⟩
theorem Rep.head {p:D×V}(r:Rep X (p::P) O L ρ σ H):Den X.K (AvO O ρ σ) H p.1 p.2:=r.prot p zJ
theorem v6 {α:Type}{l:List α}{i j:Nat}{x y:α}(e:(l.set i x)[j]? =some y):(j=i/\y=x/\i<l.length)\/(j≠i/\l[j]? =some y):=by
 by_cases q:i=j
 ·subst q;rw[List.getElem?_set,if_pos rfl] at e;split at e
  ·cases e;rename_i h;exact .inl ⟨rfl,rfl,h⟩
  ·cases e
 ·rw[zR q] at e;exact .inr ⟨qT q,e⟩
theorem z5 {α:Type}{l:List α}{i:Nat}{x:α}(h:i<l.length):(l.set i x)[i]? =some x:=by rw[List.getElem?_set,if_pos rfl,if_pos h]
def freeSlot (ρ:Ev) (i:Nat):Bool:=match ρ[i]? with
 | some (some (.l _))=>false
 | _=>true
theorem Rep.put (r:Rep X P O L ρ σ H){i:Nat}{d:D}{v:V}(hf:freeSlot ρ i=true)(h:Den X.K (AvO O ρ σ) H d v):Rep X P O L (ρ.set i (some (.v d))) (σ.set i (some v)) H:=by
 have sub:∀b,AvO O (ρ.set i (some (.v d))) (σ.set i (some v)) b->AvO O ρ σ b:=fun b z=>by
  rcases z with z|⟨j,w,c,e1,e2,e3⟩
  ·exact .inl z
  ·rcases v6 e1 with ⟨rfl,z,_⟩|⟨n,e1⟩
   ·cases z;cases e2
   ·rw[zR (qT n)] at e3;exact .inr ⟨j,w,c,e1,e2,e3⟩
 have g:=A3 (H:=H) sub;have st:∀{j:Nat} {w:W} {c:D},(ρ.set i (some (.v d)))[j]? =some (some w)->w.own=some c->j≠i/\ρ[j]? =some (some w):=fun{j w c} e1 e2=>by
  rcases v6 e1 with ⟨rfl,z,_⟩|z
  ·cases z;cases e2
  ·exact z
 refine⟨r.same,r.amb,by rw[qS,qS];exact r.len,fun j w e=>?_,fun j k w w' c c' b e1 e2 e3 e4 e5 e6=>?_,fun j c b e1 e2=>?_,fun j c e=>?_,fun j b e=>?_,fun p hp=>u9 g _ _ (r.prot p hp),r.gvl⟩
 ·rcases v6 e with ⟨rfl,z,hl⟩|⟨n,e⟩
  ·cases z;exact⟨v,z5 (by rw[<-r.len];exact hl),u9 g _ _ h⟩
  ·obtain⟨u,h1,h2⟩:=r.slot j w e;exact⟨u,by rw[zR (qT n)];exact h1,O3 g (fun _ _ _ _=>rfl) h2⟩
 ·obtain⟨n1,e1⟩:=st e1 e2;obtain⟨n2,e4⟩:=st e4 e5;rw[zR (qT n1)] at e3;rw[zR (qT n2)] at e6;exact r.inj j k w w' c c' b e1 e2 e3 e4 e5 e6
 ·obtain⟨n1,e1⟩:=st (c:=c) e1 rfl;rw[zR (qT n1)] at e2;exact r.new j c b e1 e2
 ·obtain⟨n1,e1⟩:=st (c:=c) e rfl;rw[zR (qT n1)];exact r.lnt j c e1
 ·obtain⟨c,h1,h2⟩:=r.lnd j b e;have n:i≠j:=fun z=>by subst z;unfold freeSlot at hf;rw[h1] at hf;cases hf
  exact⟨c,by rw[zR n];exact h1,by rw[zR n];exact h2⟩
theorem Rep.putO (r:Rep X P O L ρ σ H)(s:Same H H'){i:Nat}{d:D}{a:Addr}(hf:freeSlot ρ i=true)(hn:H a=none)(h:Obj X.K (fun b=>AvO O ρ σ b\/b=a) H' a d):Rep X P O L (ρ.set i (some (.o d))) (σ.set i (some (.ref a))) H':=by
 have nA:=r.fresh hn;have sub:∀b,AvO O (ρ.set i (some (.o d))) (σ.set i (some (.ref a))) b->AvO O ρ σ b\/b=a:=fun b z=>by
  rcases z with z|⟨j,w,c,e1,e2,e3⟩
  ·exact .inl (.inl z)
  ·rcases v6 e1 with ⟨rfl,z,hl⟩|⟨n,e1⟩
   ·rw[z5 (by rw[<-r.len];exact hl)] at e3;cases e3;exact .inr rfl
   ·rw[zR (qT n)] at e3;exact .inl (.inr ⟨j,w,c,e1,e2,e3⟩)
 have g:Go (AvO O ρ σ) (AvO O (ρ.set i (some (.o d))) (σ.set i (some (.ref a)))) (fun _=>False) H H':=⟨fun b o e _=>s b o e,fun _ z=>z.elim,fun b z=>(sub b z).imp id fun z=>by rw[z];exact hn⟩
 have old:∀{j:Nat} {w:W} {b:Addr},ρ[j]? =some (some w)->σ[j]? =some (some (.ref b))->w.own≠none->b≠a:=fun{j w b} e1 e2 e3 z=>by
  cases q:w.own with
  | none=>exact e3 q
  | some c=>exact nA (.inr ⟨j,w,c,e1,q,by rw[<-z];exact e2⟩)
 refine⟨fun b o e hl=>s b o (r.same b o e hl),r.amb,by rw[qS,qS];exact r.len,fun j w e=>?_,fun j k w w' c c' b e1 e2 e3 e4 e5 e6=>?_,fun j c b e1 e2=>?_,fun j c e=>?_,fun j b e=>?_,fun p hp=>u9 g _ _ (r.prot p hp),r.gvl⟩
 ·rcases v6 e with ⟨rfl,z,hl⟩|⟨n,e⟩
  ·cases z;exact⟨.ref a,z5 (by rw[<-r.len];exact hl),a,rfl,A2 (A3 sub) rfl h⟩
  ·obtain⟨u,h1,h2⟩:=r.slot j w e;refine⟨u,by rw[zR (qT n)];exact h1,O3 g (fun b c ec eb=>?_) h2⟩
   subst eb;obtain⟨o,eo,_⟩:=r.owMu ⟨j,w,c,e,ec,h1⟩;rw[eo,s _ _ eo]
 ·rcases v6 e1 with ⟨rfl,z,hl⟩|⟨n1,e1⟩
  ·rw[z5 (by rw[<-r.len];exact hl)] at e3;cases e3
   rcases v6 e4 with ⟨rfl,_,_⟩|⟨n2,e4⟩
   ·rfl
   ·rw[zR (qT n2)] at e6;exact absurd rfl (old e4 e6 (by rw[e5];exact nofun))
  ·rw[zR (qT n1)] at e3;have f1:=old e1 e3 (by rw[e2];exact nofun)
   rcases v6 e4 with ⟨rfl,_,hl⟩|⟨n2,e4⟩
   ·rw[z5 (by rw[<-r.len];exact hl)] at e6;cases e6
    exact absurd rfl f1
   ·rw[zR (qT n2)] at e6;exact r.inj j k w w' c c' b e1 e2 e3 e4 e5 e6
 ·rcases v6 e1 with ⟨rfl,z,hl⟩|⟨n1,e1⟩
  ·rw[z5 (by rw[<-r.len];exact hl)] at e2;cases e2;exact r.fresh0 hn
  ·rw[zR (qT n1)] at e2;exact r.new j c b e1 e2
 ·rcases v6 e with ⟨rfl,z,hl⟩|⟨n1,e⟩
  ·cases z
  ·rw[zR (qT n1)];exact r.lnt j c e
 ·obtain⟨c,h1,h2⟩:=r.lnd j b e;have n:i≠j:=fun z=>by subst z;unfold freeSlot at hf;rw[h1] at hf;cases hf
  exact⟨c,by rw[zR n];exact h1,by rw[zR n];exact h2⟩
def setOwn (ρ:Ev) (i:Nat) (d:D):Ev:=match ρ[i]? with
 | some (some (.l _))=>ρ.set i (some (.l d))
 | _=>ρ.set i (some (.o d))
def ownAt (ρ:Ev) (i:Nat):Option D:=match ρ[i]? with
 | some (some w)=>w.own
 | _=>none
theorem w6 {ρ:Ev}{i:Nat}{c:D}(e:ownAt ρ i=some c):∃w,ρ[i]? =some (some w)/\w.own=some c:=by
 unfold ownAt at e;split at e
 ·rename_i w q;exact⟨w,q,e⟩
 ·cases e
theorem a0s {ρ:Ev}{i:Nat}{c d:D}(e:ownAt ρ i=some c):∃w,w.own=some d/\setOwn ρ i d=ρ.set i (some w)/\((∃x,w= .l x)↔∃x,ρ[i]? =some (some (.l x))):=by
 obtain⟨w,q,e⟩:=w6 e;unfold setOwn;cases w with
 | v d=>cases e
 | r d=>cases e
 | o x=>rw[q];exact⟨.o d,rfl,rfl,by simp⟩
 | l x=>rw[q];exact⟨.l d,rfl,rfl,by simp⟩
theorem X2 {ρ:Ev}{σ:L2.St}{i:Nat}{c d:D}(e:ownAt ρ i=some c)(b:Addr):Ow (setOwn ρ i d) σ b↔Ow ρ σ b:=by
 obtain⟨w,h1,h2,_⟩:=a0s (d:=d) e;obtain⟨w0,q,e0⟩:=w6 e;rw[h2];constructor
 ·rintro⟨j,w',c',e1,e2,e3⟩;rcases v6 e1 with ⟨rfl,z,_⟩|⟨n,e1⟩
  ·exact⟨j,w0,c,q,e0,e3⟩
  ·exact⟨j,w',c',e1,e2,e3⟩
 ·rintro⟨j,w',c',e1,e2,e3⟩
  by_cases n:j=i
  ·subst n;exact⟨j,w,d,z5 (zG.mp q).1,h1,e3⟩
  ·exact⟨j,w',c',by rw[zR (qT n)];exact e1,e2,e3⟩
theorem Rep.mut (r:Rep X P O L ρ σ H){i:Nat}{a:Addr}{c d:D}(e:ownAt ρ i=some c)(ea:σ[i]? =some (some (.ref a)))(hk:∀b o,H b=some o->b≠a->H' b=some o)(h:Obj X.K (AvO O ρ σ) H' a d):
  Rep X P O L (setOwn ρ i d) σ H':=by
 obtain⟨w,h1,h2,h3⟩:=a0s (d:=d) e;obtain⟨w0,q,e0⟩:=w6 e;have av:AvO O (setOwn ρ i d) σ=AvO O ρ σ:=funext fun b=>propext (or_congr Iff.rfl (X2 e b));have ma:Ow ρ σ a:=⟨i,w0,c,q,e0,ea⟩;have g:Go (AvO O ρ σ) (AvO O ρ σ) (fun b=>b=a) H H':=⟨hk,fun b z=>by rw[z];exact⟨.inr ma,r.owMu ma⟩,fun b z=>.inl z⟩
 have st:∀{j:Nat} {w':W} {c':D},(setOwn ρ i d)[j]? =some (some w')->w'.own=some c'->∃w'' c'',ρ[j]? =some (some w'')/\w''.own=some c'':=fun{j w' c'} e1 e2=>by
  rw[h2] at e1;rcases v6 e1 with ⟨rfl,_,_⟩|⟨_,e1⟩
  ·exact⟨w0,c,q,e0⟩
  ·exact⟨w',c',e1,e2⟩
 refine⟨fun b o eb hl=>hk b o (r.same b o eb hl) fun z=>?_,r.amb,by rw[h2,qS];exact r.len,fun j w' e'=>?_,fun j k w1 w2 c1 c2 b e1 e2 e3 e4 e5 e6=>?_,fun j c' b e1 e2=>?_,fun j c' e'=>?_,fun j b e'=>?_,fun p hp=>by rw[av];exact u9 g _ _ (r.prot p hp),r.gvl⟩
 ·subst z;cases w0 with
  | o x=>have:=r.new i x b q ea;unfold hz at this;rw[if_neg (hl none),eb] at this;cases this
  | l x=>obtain⟨c',q1,q2⟩:=r.lnt i x q;rw[ea] at q1;cases q1;exact hl (some i) q2
  | _=>cases e0
 ·rw[av];rw[h2] at e';rcases v6 e' with ⟨rfl,z,_⟩|⟨n,e'⟩
  ·cases z;refine⟨.ref a,ea,?_⟩;cases w with
   | o x=>cases h1;exact⟨a,rfl,h⟩
   | l x=>cases h1;exact⟨a,rfl,h⟩
   | _=>cases h1
  ·obtain⟨u,q1,q2⟩:=r.slot j w' e';refine⟨u,q1,O3 g (fun b c' ec eb=>?_) q2⟩;subst eb;have nb:b≠a:=fun z=>n (r.inj j i w' w0 c' c a e' ec (by rw[<-z];exact q1) q e0 ea)
   obtain⟨o,eo,_⟩:=r.owMu ⟨j,w',c',e',ec,q1⟩;rw[eo,hk _ _ eo nb]
 ·obtain⟨u1,v1,q1,q2⟩:=st e1 e2;obtain⟨u2,v2,q3,q4⟩:=st e4 e5;exact r.inj j k u1 u2 v1 v2 b q1 q2 e3 q3 q4 e6
 ·rw[h2] at e1;rcases v6 e1 with ⟨rfl,z,_⟩|⟨n,e1⟩
  ·cases z;cases w0 with
   | o x=>exact r.new j x b q e2
   | l x=>exact absurd (h3.mpr ⟨x,q⟩) (by simp)
   | _=>cases e0
  ·exact r.new j c' b e1 e2
 ·rw[h2] at e';rcases v6 e' with ⟨rfl,z,_⟩|⟨n,e'⟩
  ·cases z;obtain⟨x,qx⟩:=h3.mp ⟨_,rfl⟩;exact r.lnt j x qx
  ·exact r.lnt j c' e'
 ·obtain⟨c',q1,q2⟩:=r.lnd j b e'
  by_cases n:j=i
  ·subst n;obtain⟨x,rfl⟩:=h3.mpr ⟨c',q1⟩;exact⟨x,by rw[h2];exact z5 (zG.mp q).1,q2⟩
  ·exact⟨c',by rw[h2,zR (qT n)];exact q1,q2⟩
def frzAt (ρ:Ev) (i:Nat):Option Ev:=match ρ[i]? with
 | some (some (.o d))=>some (ρ.set i (some (.v d)))
 | some (some (.v _))=>some ρ
 | _=>none
theorem Rep.frz (r:Rep X P O L ρ σ H){i:Nat}{ρ':Ev}(e:frzAt ρ i=some ρ'):Rep X P O L ρ' σ H/\∀(j:Nat) (w:W) (d:D),ρ'[j]? =some (some w)->w.own=some d->ρ[j]? =some (some w)/\j≠i:=by
 unfold frzAt at e;split at e
 ·rename_i d q;cases e;obtain⟨a,h1,h2⟩:=r.obj q rfl;have hl:i<σ.length:=by rw[<-r.len];exact(zG.mp q).1
  have es:σ.set i (some (.ref a))=σ:=by
   apply xT;intro j
   by_cases z:i=j
   ·subst z;rw[z5 hl,h1]
   ·rw[zR z]
  have hw:¬AvO O (ρ.set i (some (.v d))) σ a:=fun z=>by
   rcases z with z|⟨j,w,c,e1,e2,e3⟩
   ·exact r.ambN z ⟨i,_,d,q,rfl,h1⟩
   ·rcases v6 e1 with ⟨rfl,z,_⟩|⟨n,e1⟩
    ·cases z;cases e2
    ·exact n (r.inj j i w (.o d) c d a e1 e2 e3 q rfl h1)
  have sub:∀b,AvO O (ρ.set i (some (.v d))) σ b->AvO O ρ σ b:=fun b z=>by
   rcases z with z|⟨j,w,c,e1,e2,e3⟩
   ·exact .inl z
   ·rcases v6 e1 with ⟨rfl,z,_⟩|⟨n,e1⟩
    ·cases z;cases e2
    ·exact .inr ⟨j,w,c,e1,e2,e3⟩
  have g:=A3 (H:=H) sub;refine⟨⟨r.same,r.amb,by rw[qS];exact r.len,fun j w e=>?_,fun j k w w' c c' b e1 e2 e3 e4 e5 e6=>?_,fun j c b e1 e2=>?_,fun j c e=>?_,fun j b e=>?_,fun p hp=>u9 g _ _ (r.prot p hp),r.gvl⟩,fun j w c e1 e2=>?_⟩
  ·rcases v6 e with ⟨rfl,z,_⟩|⟨n,e⟩
   ·cases z;exact⟨.ref a,h1,a0y (A2 g rfl h2) hw⟩
   ·obtain⟨u,q1,q2⟩:=r.slot j w e;exact⟨u,q1,O3 g (fun _ _ _ _=>rfl) q2⟩
  ·rcases v6 e1 with ⟨rfl,z,_⟩|⟨n1,e1⟩
   ·cases z;cases e2
   ·rcases v6 e4 with ⟨rfl,z,_⟩|⟨n2,e4⟩
    ·cases z;cases e5
    ·exact r.inj j k w w' c c' b e1 e2 e3 e4 e5 e6
  ·rcases v6 e1 with ⟨rfl,z,_⟩|⟨n1,e1⟩
   ·cases z
   ·exact r.new j c b e1 e2
  ·rcases v6 e with ⟨rfl,z,_⟩|⟨n1,e⟩
   ·cases z
   ·exact r.lnt j c e
  ·obtain⟨c,q1,q2⟩:=r.lnd j b e;have n:i≠j:=fun z=>by subst z;rw[q] at q1;cases q1
   exact⟨c,by rw[zR n];exact q1,q2⟩
  ·rcases v6 e1 with ⟨rfl,z,_⟩|⟨n,e1⟩
   ·cases z;cases e2
   ·exact⟨e1,n⟩
 ·rename_i d q;cases e;exact⟨r,fun j w c e1 e2=>⟨e1,fun z=>by subst z;rw[q] at e1;cases e1;cases e2⟩⟩
 ·cases e
end
abbrev FX:=Ev->Option (W×Ev)
abbrev FT:=Ev->Option (Bool×Ev)
abbrev FA:=Ev->Option (List W×Ev)
def DenW (K:PySem.W.Frag) (A:Av) (σ:L2.St) (H1 H':Hp):W->V->Prop
 | .v d,v=>Den K A H' d v
 | .o d,v=>∃a,v= .ref a/\H1 a=none/\Obj K (fun b=>A b\/b=a) H' a d
 | .r i,v=>σ[i]? =some (some v)
 | .l _,_=>False
def DenP (K:PySem.W.Frag) (A:Av) (σ:L2.St) (H:Hp):W->V->Prop
 | .v d,v=>Den K A H d v
 | .r i,v=>σ[i]? =some (some v)
 | _,_=>False
def DenA (K:PySem.W.Frag) (A:Av) (σ:L2.St) (H:Hp):List W->List V->Prop
 | [],vs=>vs=[]
 | w::ws,vs=>∃v r,vs=v::r/\DenP K A σ H w v/\DenA K A σ H ws r
def W.fz:W->W
 | .o d=>.v d
 | w=>w
def tX (X:Cx) (f:FX):TE:=fun σ H Q=>∃P O L ρ w ρ',Rep X P O L ρ σ H/\f ρ=some (w,ρ')/\∀v H1 H',Rep X P O L ρ' σ H1->Same H1 H'->DenW X.K (AvO O ρ' σ) σ H1 H' w v->Q v H'
def tT (X:Cx) (f:FT):TT:=fun σ H Q=>∃P O L ρ b ρ',Rep X P O L ρ σ H/\f ρ=some (b,ρ')/\∀H',Rep X P O L ρ' σ H'->Q b H'
def tA (X:Cx) (f:FA):TA:=fun σ H Q=>∃P O L ρ ws ρ',Rep X P O L ρ σ H/\f ρ=some (ws,ρ')/\∀vs H',Rep X P O L ρ' σ H'->DenA X.K (AvO O ρ' σ) σ H' ws vs->Q vs H'
theorem tXe {X:Cx}{f:FX}{σ:L2.St}{H:Hp}{Q:VK}{C:Prop}(h:tX X f σ H Q)(k:∀P O L ρ w ρ',Rep X P O L ρ σ H->f ρ=some (w,ρ')->(∀v H1 H',Rep X P O L ρ' σ H1->Same H1 H'->DenW X.K (AvO O ρ' σ) σ H1 H' w v->Q v H')->C):C:=by
 obtain⟨P,O,L,ρ,w,ρ',r,e,q⟩:=h;exact k P O L ρ w ρ' r e q
theorem tTe {X:Cx}{f:FT}{σ:L2.St}{H:Hp}{Q:Bool->Hp->Prop}{C:Prop}(h:tT X f σ H Q)(k:∀P O L ρ b ρ',Rep X P O L ρ σ H->f ρ=some (b,ρ')->(∀H',Rep X P O L ρ' σ H'->Q b H')->C):C:=by
 obtain⟨P,O,L,ρ,w,ρ',r,e,q⟩:=h;exact k P O L ρ w ρ' r e q
theorem tAe {X:Cx}{f:FA}{σ:L2.St}{H:Hp}{Q:List V->Hp->Prop}{C:Prop}(h:tA X f σ H Q)(k:∀P O L ρ ws ρ',Rep X P O L ρ σ H->f ρ=some (ws,ρ')->(∀vs H',Rep X P O L ρ' σ H'->DenA X.K (AvO O ρ' σ) σ H' ws vs->Q vs H')->C):C:=by
 obtain⟨P,O,L,ρ,w,ρ',r,e,q⟩:=h;exact k P O L ρ w ρ' r e q
structure QX (X:Cx) (e:Expr) (f:FX):Prop where
 to:PE X e (tX X f)
structure QT (X:Cx) (e:Expr) (f:FT):Prop where
 to:PT X e (tT X f)
structure QW (X:Cx) (e:Expr) (f:FT):Prop where
 to:PW X e (tT X f)
structure QA (X:Cx) (e:List Expr) (f:FA):Prop where
 to:PA X e (tA X f)
theorem PE.weak {X:Cx}{e:Expr}{t u:TE}(h:PE X e t)(w:∀σ H Q,u σ H Q->t σ H Q):PE X e u:=fun pins s σ H Q I q=>h pins s σ H Q I (w σ H Q q)
theorem PT.weak {X:Cx}{e:Expr}{t u:TT}(h:PT X e t)(w:∀σ H Q,u σ H Q->t σ H Q):PT X e u:=fun pins s σ H Q I q=>h pins s σ H Q I (w σ H Q q)
theorem PW.weak {X:Cx}{e:Expr}{t u:TT}(h:PW X e t)(w:∀σ H Q,u σ H Q->t σ H Q):PW X e u:=fun wh pins s σ H Q I q=>h wh pins s σ H Q I (w σ H Q q)
theorem PA.weak {X:Cx}{e:List Expr}{t u:TA}(h:PA X e t)(w:∀σ H Q,u σ H Q->t σ H Q):PA X e u:=fun pos pins s σ H Q I q=>h pos pins s σ H Q I (w σ H Q q)
def dr (ρ:Ev):W->Option D
 | .v d=>some d
 | .r i=>match ρ[i]? with
  | some (some (.v d))=>some d
  | some (some w)=>w.own
  | _=>none
 | _=>none
def drs (ρ:Ev):List W->Option (List D)
 | []=>some []
 | w::ws=>(dr ρ w).bind fun d=>(drs ρ ws).map fun ds=>d::ds
section
variable {X:Cx}{P:List (D×V)}{O:Av}{L:List (Option Nat×Addr)}{ρ:Ev}{σ:L2.St}{H H1 H':Hp}{w:W}{d:D}{v:V}
theorem DenW.fz (r:Rep X P O L ρ σ H1)(s:Same H1 H')(h:DenW X.K (AvO O ρ σ) σ H1 H' w v):DenP X.K (AvO O ρ σ) σ H' w.fz v:=by
 cases w with
 | v d=>exact h
 | o d=>
  obtain⟨a,rfl,n,ob⟩:=h;exact a0y (A2 (A3 fun b z=>.inl z) rfl ob) (r.fresh n)
 | r i=>exact h
 | l d=>exact h.elim
theorem hold (r:Rep X P O L ρ σ H)(h:DenP X.K (AvO O ρ σ) σ H w v):∃P',Rep X P' O L ρ σ H/\∀ρ2 H2,Rep X P' O L ρ2 σ H2->Rep X P O L ρ2 σ H2/\DenP X.K (AvO O ρ2 σ) σ H2 w v:=by
 cases w with
 | v d=>exact⟨(d,v)::P,r.more h,fun ρ2 H2 r2=>⟨r2.less,r2.head⟩⟩
 | r i=>exact⟨P,r,fun ρ2 H2 r2=>⟨r2,h⟩⟩
 | _=>exact h.elim
theorem E8 (r:Rep X P O L ρ σ H)(e:dr ρ w=some d)(h:DenP X.K (AvO O ρ σ) σ H w v):DenR X.K (AvO O ρ σ) H d v:=by
 cases w with
 | v c=>cases e;exact F2 h
 | r i=>
  rw[dr] at e;have h:σ[i]? =some (some v):=h;cases q:ρ[i]? with
  | none=>rw[q] at e;cases e
  | some o=>
   rw[q] at e;cases o with
   | none=>cases e
   | some w'=>
    cases w' with
    | v c=>
     cases e;obtain⟨u,h1,h2⟩:=r.slot i _ q;rw[h1] at h;cases h;exact F2 h2
    | _=>
     obtain⟨a,h1,h2⟩:=r.obj q e;rw[h1] at h;cases h;exact obj_r h2
 | _=>cases e
def DenRL (K:PySem.W.Frag) (A:Av) (H:Hp):List D->List V->Prop
 | [],vs=>vs=[]
 | d::ds,vs=>∃v r,vs=v::r/\DenR K A H d v/\DenRL K A H ds r
theorem a6W (r:Rep X P O L ρ σ H):∀{ws:List W} {ds:List D} {vs:List V},drs ρ ws=some ds->DenA X.K (AvO O ρ σ) σ H ws vs->DenRL X.K (AvO O ρ σ) H ds vs
 | [],ds,vs,e,h=>by cases e;exact h
 | w::ws,ds,vs,e,h=>by
  obtain⟨v,rs,rfl,h1,h2⟩:=h;rw[drs] at e;cases e1:dr ρ w with
  | none=>rw[e1] at e;cases e
  | some d=>
   cases e2:drs ρ ws with
   | none=>rw[e1,e2] at e;cases e
   | some dd=>
    rw[e1,e2] at e;cases e;exact⟨v,rs,rfl,E8 r e1 h1,a6W r e2 h2⟩
end
section
variable {K:PySem.W.Frag}{A:Av}{σ:L2.St}{H H':Hp}
theorem D0 {i:Int}:DenW K A σ H H' (.v (.int i)) (.int i):=by show Den _ _ _ _ _;rw[Den]
theorem C6 {i:Bool}:DenW K A σ H H' (.v (.bl i)) (.bl i):=by show Den _ _ _ _ _;rw[Den]
theorem a9P {i:Str}:DenW K A σ H H' (.v (.str i)) (.str i):=by show Den _ _ _ _ _;rw[Den]
theorem T3:DenW K A σ H H' (.v .non) .non:=by show Den _ _ _ _ _;rw[Den]
end
def fVar (i:Nat):FX:=fun ρ=>match ρ[i]? with
 | some (some (.v d))=>some (.v d,ρ)
 | some (some (.r _))=>none
 | some (some _)=>some (.r i,ρ)
 | _=>none
def fC (d:D):FX:=fun ρ=>some (.v d,ρ)
section
variable {X:Cx}{a b e:Expr}{pos:Pos}{f g h:FX}{t u:FT}
theorem a7 (i:Nat){x:Str}(hN:X.N[i]? =some x:=by rfl)(hv:Vis X.env.scope x:=by first|exact Or.inl rfl|exact Or.inr (Or.inl rfl)|exact Or.inr (Or.inr rfl))(hd:(x==("__debug__":Str))=false:=by decide)(hcd:(x==("__classdict__":Str))=false:=by decide):QX X (.Name x pos) (fVar i):=by
 refine⟨PE.weak (a4v hN hv hd hcd) fun σ H Q h0=>tXe h0 fun P O L ρ w ρ' r e q=>?_⟩;unfold fVar at e;split at e
 ·rename_i d0 e0;cases e;obtain⟨v,h1,h2⟩:=r.slot i _ e0;exact⟨v,h1,q v H H r (Same.refl H) h2⟩
 ·cases e
 ·rename_i w' _ _ e0;cases e;obtain⟨v,h1,h2⟩:=r.slot i _ e0;exact⟨v,h1,q v H H r (Same.refl H) h1⟩
 ·cases e
theorem a62 {d:D}{v:V}(hd:∀A H,Den X.K A H d v):∀σ H Q,tX X (fC d) σ H Q->tC v σ H Q:=fun σ H Q h0=>tXe h0 fun P O L ρ w ρ' r e q=>by cases e;exact q v H H r (Same.refl H) (hd _ H)
theorem b8 {i:Int}{j:Nat}:QX X (.Constant (.int i) j pos) (fC (.int i)):=⟨PE.weak b4E (a62 fun A H=>u5.mpr rfl)⟩
theorem a1F {i:Bool}{j:Nat}:QX X (.Constant (.bool i) j pos) (fC (.bl i)):=⟨PE.weak pe_bl (a62 fun A H=>a14.mpr rfl)⟩
theorem U2 {j:Nat}:QX X (.Constant .none j pos) (fC .non):=⟨PE.weak a52 (a62 fun A H=>a7l.mpr rfl)⟩
theorem a9G {i:Str}{j:Nat}:QX X (.Constant (.str i) j pos) (fC (.str i)):=⟨PE.weak b3Z (a62 fun A H=>a1V.mpr rfl)⟩
def fBin (op:D->D->Option W) (f g:FX):FX:=fun ρ=>(f ρ).bind fun p=>(g p.2).bind fun q=>(dr q.2 p.1.fz).bind fun x=>(dr q.2 q.1.fz).bind fun y=>(op x y).map fun w=>(w,q.2)
def Pr2 (X:Cx) (op:D->D->Option W) (r:R2):Prop:=∀(A:Av) (x y:D) (w:W) (v u:V) (H:Hp) (Q:VK),(∀b,A b->∃o,H b=some o)->op x y=some w->DenR X.K A H x v->DenR X.K A H y u->(∀z H',Same H H'->DenW X.K A [] H H' w z->Q z H')->r v u H Q
theorem DenW.st {K:PySem.W.Frag}{A:Av}{σ:L2.St}{H1 H':Hp}{w:W}{v:V}(h:DenW K A [] H1 H' w v):DenW K A σ H1 H' w v:=by
 cases w with
 | r i=>exact absurd h (by simp[DenW])
 | _=>exact h
theorem a0L {r:R2}{op:D->D->Option W}(k:Pr2 X op r):∀σ H Q,tX X (fBin op f g) σ H Q->tOp r (tX X f) (tX X g) σ H Q:=fun σ H Q h0=>tXe h0 fun P O L ρ w ρ' r e q=>by
 unfold fBin at e;obtain⟨⟨w1,ρ1⟩,e1,e⟩:=obs e;dsimp only at e;refine⟨P,O,L,ρ,w1,ρ1,r,e1,fun v H1 H1' r1 s1 d1=>?_⟩;obtain⟨P',r1',k1⟩:=hold (r1.grow s1) (d1.fz r1 s1);obtain⟨⟨w2,ρ2⟩,e2,e⟩:=obs e;dsimp only at e;refine⟨P',O,L,ρ1,w2,ρ2,r1',e2,fun u H2 H2' r2 s2 d2=>?_⟩;have d2':=d2.fz r2 s2;obtain⟨r3,d1'⟩:=k1 ρ2 H2' (r2.grow s2);cases e3:dr ρ2 w1.fz with
 | none=>rw[e3] at e;cases e
 | some x=>
  cases e4:dr ρ2 w2.fz with
  | none=>rw[e3,e4] at e;cases e
  | some y=>
   rw[e3,e4] at e;simp only[bind_some] at e;cases e5:op x y with
   | none=>rw[e5] at e;cases e
   | some w'=>
    rw[e5] at e;cases e;exact k _ x y w v u H2' Q (fun b z=>r3.there z) e5 (E8 r3 e3 d1') (E8 r3 e4 d2') fun z H' s d=>q z H2' H' r3 s d.st
theorem Q9 {op:Operator}{r:R2}{o:D->D->Option W}(ho:OpR X (binaryOp op) r)(k:Pr2 X o r)(ha:QX X a f)(hb:QX X b g):QX X (.BinOp a op b pos) (fBin o f g):=⟨PE.weak (b3r ho ha.to hb.to) (a0L k)⟩
theorem a37 {op:CmpOp}{r:R2}{o:D->D->Option W}(ho:OpR X (compareOp op) r)(k:Pr2 X o r)(ha:QX X a f)(hb:QX X b g)(hm:behindInMarks op b=false:=by first|exact nomark _|rfl):QX X (.Compare a [op] [b] pos) (fBin o f g):=⟨PE.weak (b2b ho ha.to hb.to hm) (a0L k)⟩
def fTest (f:FX):FT:=fun ρ=>(f ρ).bind fun p=>match p.1 with|.v (.bl k)=>some (k,p.2)|_=>none
theorem Z9 {f:FX}{ρ ρ':Ev}{k:Bool}(e:fTest f ρ=some (k,ρ')):f ρ=some (.v (.bl k),ρ'):=by
 unfold fTest at e;cases q:f ρ with
 | none=>rw[q] at e;cases e
 | some p=>
  rw[q] at e;obtain⟨w,ρ1⟩:=p;simp only[bind_some] at e;split at e
  ·cases e;rfl
  ·cases e
theorem Q7 {op:CmpOp}{r:R2}{o:D->D->Option W}(ho:OpR X (compareOp op) r)(k:Pr2 X o r)(ha:QX X a f)(hb:QX X b g)(hm:behindInMarks op b=false:=by first|exact nomark _|rfl):QT X (.Compare a [op] [b] pos) (fTest (fBin o f g)):=by
 refine⟨PT.weak (b1x ho ha.to hb.to hm) fun σ H Q h0=>tTe h0 fun P O L ρ t ρ' r e q=>?_⟩;refine a0L k σ H _ ⟨P,O,L,ρ,_,ρ',r,Z9 e,fun v H1 H' r1 s1 d1=>⟨t,?_,q H' (r1.grow s1)⟩⟩;have d1':Den X.K (AvO O ρ' σ) H' (.bl t) v:=d1;exact a14.mp d1'
def big:Nat:=2^8000
def mOk (i j:Int):Prop:=i.natAbs<2^64\/j.natAbs<2^64\/(i.natAbs<big/\j.natAbs<big)
instance (i j:Int):Decidable (mOk i j):=by unfold mOk;infer_instance
theorem mOk.ok {i j:Int}(m:mOk i j):IntMulOk i j:=by
 rcases m with m|m|⟨m,n⟩
 ·exact .of_left (KE_bits m)
 ·exact .of_right (KE_bits m)
 ·exact .of_bits (qC (KE_bits m) (by decide)) (qC (KE_bits n) (by decide))
where KE_bits {x:Int} {m:Nat} (h:x.natAbs<2^m):Builtin.Int.intBits x<=m:=intBits_le_iff.mpr h
theorem b1O:OpR X (binaryOp .Mult) (rI mOk fun i j=>.int (i*j)):=opI fun _ _ _ _ _ _ _ hc q=>mul_int q hc.ok
def dOk (j:Int):Prop:=0<j/\j.natAbs<big
instance (j:Int):Decidable (dOk j):=by unfold dOk;infer_instance
theorem b1Y:OpR X (binaryOp .FloorDiv) (rI (fun _ j=>dOk j) fun i j=>.int (i/j)):=opI fun i j _ _ _ _ _ hc q=>by
 have e:i.fdiv j=i/j:=Int.fdiv_eq_ediv_of_nonneg i (Int.le_of_lt hc.1);refine floordiv_int (Int.ne_of_gt hc.1) (by rw[e];exact q) (.inl (PyProof.noPylong_of_log2 ?_))
 by_cases z:j.natAbs=0
 ·rw[z];decide
 ·exact zK ((Nat.log2_lt z).mpr (show j.natAbs<2^8000 from hc.2)) (by decide)
def oI (C:Int->Int->Prop) [∀i j,Decidable (C i j)] (g:Int->Int->D):D->D->Option W
 | .int i,.int j=>if C i j then some (.v (g i j)) else none
 | _,_=>none
def oI0 (g:Int->Int->D):D->D->Option W
 | .int i,.int j=>some (.v (g i j))
 | _,_=>none
theorem l5 {K:PySem.W.Frag}{A:Av}{H:Hp}{i:Int}{v:V}(h:DenR K A H (.int i) v):v= .int i:=by
 have h:Den K A H (.int i) v:=h;exact u5.mp h
theorem kI {C:Int->Int->Prop} [∀i j,Decidable (C i j)] {g:Int->Int->Int}:Pr2 X (oI C fun i j=>.int (g i j)) (rI C fun i j=>.int (g i j)):=by
 intro A x y w v u H Q _ e hx hy q;cases x<;>cases y<;>simp only[oI] at e<;>try cases e
 rename_i i j;split at e
 ·rename_i hc;cases e;exact⟨i,j,l5 hx,l5 hy,hc,q _ H (Same.refl H) D0⟩
 ·cases e
theorem kI0 {g:Int->Int->Int}:Pr2 X (oI0 fun i j=>.int (g i j)) (rI0 fun i j=>.int (g i j)):=by
 intro A x y w v u H Q _ e hx hy q;cases x<;>cases y<;>simp only[oI0] at e<;>cases e
 rename_i i j;exact⟨i,j,l5 hx,l5 hy,q _ H (Same.refl H) D0⟩
theorem kB0 {g:Int->Int->Bool}:Pr2 X (oI0 fun i j=>.bl (g i j)) (rI0 fun i j=>.bl (g i j)):=by
 intro A x y w v u H Q _ e hx hy q;cases x<;>cases y<;>simp only[oI0] at e<;>cases e
 rename_i i j;exact⟨i,j,l5 hx,l5 hy,q _ H (Same.refl H) C6⟩
abbrev fSub:=fBin (oI0 fun i j=>.int (i-j))
abbrev fMul:=fBin (oI mOk fun i j=>.int (i*j))
abbrev fDiv:=fBin (oI (fun _ j=>dOk j) fun i j=>.int (i/j))
abbrev fMod:=fBin (oI (fun _ j=>0<j) fun i j=>.int (i%j))
instance (i j:Int):Decidable (CPow i j):=by unfold CPow;infer_instance
abbrev fPow:=fBin (oI CPow fun i j=>.int (i^j.toNat))
theorem V2 (ha:QX X a f)(hb:QX X b g):QX X (.BinOp a .Sub b pos) (fSub f g):=Q9 b3T kI0 ha hb
theorem P0 (ha:QX X a f)(hb:QX X b g):QX X (.BinOp a .Mult b pos) (fMul f g):=Q9 b1O kI ha hb
theorem Z2 (ha:QX X a f)(hb:QX X b g):QX X (.BinOp a .FloorDiv b pos) (fDiv f g):=Q9 b1Y kI ha hb
theorem Q3 (ha:QX X a f)(hb:QX X b g):QX X (.BinOp a .Mod b pos) (fMod f g):=Q9 b33 kI ha hb
theorem a6d (ha:QX X a f)(hb:QX X b g):QX X (.BinOp a .Pow b pos) (fPow f g):=Q9 b4i kI ha hb
abbrev oGt:=oI0 fun i j=>.bl (decide (j<i))
abbrev oGe:=oI0 fun i j=>.bl (decide (j<=i))
theorem qx_gt (ha:QX X a f)(hb:QX X b g):QX X (.Compare a [.Gt] [b] pos) (fBin oGt f g):=a37 b28 kB0 ha hb
theorem b1k (ha:QX X a f)(hb:QX X b g):QT X (.Compare a [.Gt] [b] pos) (fTest (fBin oGt f g)):=Q7 b28 kB0 ha hb
theorem b3E (ha:QX X a f)(hb:QX X b g):QT X (.Compare a [.GtE] [b] pos) (fTest (fBin oGe f g)):=Q7 op_ge kB0 ha hb
def lim:Nat:=1000000
theorem t7:lim<=sizeLine:=by unfold lim;rw[jM];decide
theorem j7 {H:Hp}{p:Addr}(h:H p=none)(o:HO):Same H (upd H p o):=fun b u q=>by rw[g8 (m4 q h)];exact q
theorem v7 {K:PySem.W.Frag}{A:Av}{σ:L2.St}{H:Hp}{p:Addr}{xs:List D}{vs:List V}(hp:H p=none)(l:DenL K A H xs vs):DenW K A σ H (upd H p (.lst vs)) (.o (.lst xs)) (.ref p):=
 ⟨p,rfl,hp,vs,p9,w4 (M:=fun _=>False) ⟨fun b o q _=>j7 hp _ b o q,fun _ z=>z.elim,fun b z=>z.imp id fun z=>by rw[z];exact hp⟩ _ _ l⟩
theorem O5 {K:PySem.W.Frag}{A:Av}{σ:L2.St}{H H0:Hp}{p:Addr}{xs:List D}{vs:List V}(hp:H p=none)(l:DenL K A H xs vs):DenW K A σ H0 (upd H p (.tup vs)) (.v (.tup xs)) (.ref p):=by
 show Den _ _ _ _ _;rw[Den];exact⟨p,vs,rfl,.inl (.inl p9),a8H (j7 hp _) l⟩
theorem b2f:OpR X (binaryOp .Add) (fun x y H Q=>∃l b xs zs,x= .ref l/\y= .ref b/\SqL X.K H l xs/\SqL X.K H b zs/\xs.length+zs.length<=sizeLine/\∀p,H p=none->Q (.ref p) (upd H p (.lst (xs++zs)))):=by
 intro pins s σ H x y v u Q I rx ry h;obtain⟨l,b,xs,zs,rfl,rfl,hH,hB,hz,q⟩:=h;cases rx;cases ry;obtain⟨its,r,⟨⟨c1,d1,e1,s1⟩,n1,g1,k1,_,w1⟩,_⟩:=I.list hH;obtain⟨its2,r2,⟨⟨c2,d2,e2,s2⟩,n2,g2,k2,_,w2⟩,_⟩:=I.list hB;simp only at k1 w1 k2 w2;subst k1 w1 k2 w2;have l1:=r.length;have l2:=r2.length;refine concat_meets ⟨_,g1,rfl⟩ ⟨_,g2,rfl⟩ noFill_list_add seq_list_add PySem.F.slot_list_add PySem.F.entry_list_add (PySem.F.args_list_add_2 _ _) (list_addW l b its.toArray its2.toArray n1 n2 d1 d2 s1 s2 (by rw[zO,zO];walk_at "o")) ⟨g1,g2,?_⟩
 have ea:its.toArray++its2.toArray=(its++its2).toArray:=by simp
 rw[ea];exact⟨.ref _,_,I.lnew (t':=s.toks) (r.append r2) (by rw[zM];walk_at "o"),rfl,q _ I.fresh⟩
def oCat (xs ys:List D):Option W:=if xs.length+ys.length<=lim then some (.o (.lst (xs++ys))) else none
def oAdd:D->D->Option W
 | .int i,.int j=>some (.v (.int (i+j)))
 | .lst xs,.lst ys=>oCat xs ys
 | .tup xs,.tup ys=>if xs≠[]/\xs.length+ys.length<=lim then some (.v (.tup (xs++ys))) else none
 | _,_=>none
theorem m7 (ha:QX X a f)(hb:QX X b g):QX X (.BinOp a .Add b pos) (fBin oAdd f g):=Q9 (b4m.or (b2f.or a6M)) (by
 intro A x y w v u H Q _ e hx hy q;cases x<;>cases y<;>simp only[oAdd] at e<;>try cases e
 ·rename_i i j;exact .inl ⟨i,j,l5 hx,l5 hy,q _ H (Same.refl H) D0⟩
 ·rename_i xs ys;split at e
  ·rename_i hl;cases e;have hx:Den X.K A H (.tup xs) v:=hx;have hy:Den X.K A H (.tup ys) u:=hy;rw[Den] at hx hy;obtain⟨a,vs,ev,ha,la⟩:=hx;obtain⟨b,us,eu,hb,lb⟩:=hy;refine .inr (.inr ⟨a,b,vs,us,ev,eu,ha,hb,fun z=>?_,?_,fun z=>?_,fun _ p hp=>q _ _ (j7 hp _) (O5 hp (t5 la lb))⟩)
   rotate_left 2
   ·subst z;have z:ys=[]:=yO.mp (c6 lb);subst z;refine q _ H (Same.refl H) ?_;show Den _ _ _ _ _;rw[xD,Den];exact⟨a,vs,rfl,ha,la⟩
   ·subst z;exact hl.1 (yO.mp (c6 la))
   ·rw[<-c6 la,<-c6 lb];exact qC hl.2 t7
  ·cases e
 ·rename_i xs ys;unfold oCat at e;split at e
  ·rename_i hl;cases e;obtain⟨a,vs,ev,ha,la⟩:=hx;obtain⟨b,us,eu,hb,lb⟩:=hy;refine .inr (.inl ⟨a,b,vs,us,ev,eu,ha,hb,?_,fun p hp=>q _ _ (j7 hp _) (v7 hp (t5 la lb))⟩);rw[<-c6 la,<-c6 lb];exact qC hl t7
  ·cases e) ha hb
def fUn (op:D->Option W) (f:FX):FX:=fun ρ=>(f ρ).bind fun p=>(dr p.2 p.1.fz).bind fun x=>(op x).map fun w=>(w,p.2)
def Pr1 (X:Cx) (op:D->Option W) (r:V->Hp->VK->Prop):Prop:=∀(A:Av) (x:D) (w:W) (v:V) (H:Hp) (Q:VK),(∀b,A b->∃o,H b=some o)->op x=some w->DenR X.K A H x v->(∀z H',Same H H'->DenW X.K A [] H H' w z->Q z H')->r v H Q
theorem a6X {r:V->Hp->VK->Prop}{op:D->Option W}(k:Pr1 X op r):∀σ H Q,tX X (fUn op f) σ H Q->tUn r (tX X f) σ H Q:=fun σ H Q h0=>tXe h0 fun P O L ρ w ρ' r e q=>by
 unfold fUn at e;obtain⟨⟨w1,ρ1⟩,e1,e⟩:=obs e;dsimp only at e;refine⟨P,O,L,ρ,w1,ρ1,r,e1,fun v H1 H1' r1 s1 d1=>?_⟩;have r3:=r1.grow s1;cases e3:dr ρ1 w1.fz with
 | none=>rw[e3] at e;cases e
 | some x=>
  rw[e3] at e;simp only[bind_some] at e;cases e5:op x with
  | none=>rw[e5] at e;cases e
  | some w'=>
   rw[e5] at e;cases e;exact k _ x w v H1' Q (fun b z=>r3.there z) e5 (E8 r3 e3 (d1.fz r1 s1)) fun z H' s d=>q z H1' H' r3 s d.st
def oNeg:D->Option W
 | .int i=>some (.v (.int (-i)))
 | _=>none
theorem M2 (ha:QX X a f):QX X (.UnaryOp .USub a pos) (fUn oNeg f):=⟨PE.weak (pe_un b4o ha.to) (a6X fun A x w v H Q _ e hx q=>by
 cases x<;>simp only[oNeg] at e<;>cases e
 rename_i i
 exact⟨i,l5 hx,q _ H (Same.refl H) D0⟩)⟩
end
section
variable {X:Cx}{a b c e:Expr}{pos:Pos}{f g h:FX}{t u:FT}{fa:FA}{es rest:List Expr}
def truth:D->Option Bool
 | .non=>some false
 | .bl b=>some b
 | .int i=>some (!decide (i=0))
 | .tup xs=>some (!xs.isEmpty)
 | .lst xs=>some (!xs.isEmpty)
 | .dK ks _=>some (!ks.isEmpty)
 | _=>none
def fTru (f:FX):FT:=fun ρ=>(f ρ).bind fun p=>(dr p.2 p.1.fz).bind fun d=>(truth d).map fun k=>(k,p.2)
theorem a2D {K:PySem.W.Frag}{A:Av}{H:Hp}{xs:List D}{vs:List V}(l:DenL K A H xs vs):(!xs.isEmpty)= !vs.isEmpty:=by
 have:=c6 l
 cases xs<;>cases vs<;>simp_all
theorem a7D {K:PySem.W.Frag}{A:Av}{H:Hp}{d:D}{v:V}{k:Bool}(e:truth d=some k)(h:DenR K A H d v):TruV K v H k:=by
 cases d with
 | non=>cases e;have h:Den K A H .non v:=h;rw[Den] at h;subst h;rfl
 | bl b=>cases e;have h:Den K A H (.bl k) v:=h;rw[Den] at h;subst h;rfl
 | int i=>cases e;have h:Den K A H (.int i) v:=h;rw[Den] at h;subst h;rfl
 | tup xs=>cases e;have h:Den K A H (.tup xs) v:=h;rw[Den] at h;obtain⟨a,vs,rfl,hq,l⟩:=h;exact .inr (.inl ⟨vs,hq,a2D l⟩)
 | lst xs=>cases e;obtain⟨a,vs,rfl,hq,l⟩:=h;exact .inl ⟨vs,hq,a2D l⟩
 | dK ks xs=>
  cases e;obtain⟨a,vs,rfl,hq,hl,l⟩:=h;refine .inr (.inr ⟨_,hq,?_⟩)
  have:=c6 l
  cases ks<;>cases vs<;>cases xs<;>simp_all
 | _=>cases e
theorem S3 (ha:QX X a f)(he:∀whole,isTrue a X.env whole=(do let v <-whole;standAt a.pos;holding [v] (truthy v)):=by intro _;rfl):QT X a (fTru f):=⟨PT.weak (b0i ha.to he) fun σ H Q h0=>tTe h0 fun P O L ρ k ρ' r e q=>by
 unfold fTru at e;obtain⟨⟨w,ρ1⟩,e1,e⟩:=obs e;dsimp only at e;cases e2:dr ρ1 w.fz with
 | none=>rw[e2] at e;cases e
 | some d=>
  rw[e2] at e;simp only[bind_some] at e;cases e3:truth d with
  | none=>rw[e3] at e;cases e
  | some k'=>
   rw[e3] at e;cases e
   exact⟨P,O,L,ρ,w,_,r,e1,fun v H1 H' r1 s1 d1=>⟨k,a7D e3 (E8 (r1.grow s1) e2 (d1.fz r1 s1)),q H' (r1.grow s1)⟩⟩⟩
def fNot (t:FT):FT:=fun ρ=>(t ρ).map fun p=>(!p.1,p.2)
theorem a2C (ha:QT X a t):QT X (.UnaryOp .Not a pos) (fNot t):=⟨PT.weak (L2.b3I ha.to) fun σ H Q h0=>tTe h0 fun P O L ρ k ρ' r e q=>by
 unfold fNot at e;cases e1:t ρ with
 | none=>rw[e1] at e;cases e
 | some p=>rw[e1] at e;obtain⟨k1,ρ1⟩:=p;cases e;exact⟨P,O,L,ρ,k1,_,r,e1,q⟩⟩
def fAnd (t u:FT):FT:=fun ρ=>(t ρ).bind fun p=>if p.1=true then u p.2 else some (false,p.2)
def fOr (t u:FT):FT:=fun ρ=>(t ρ).bind fun p=>if p.1=true then some (true,p.2) else u p.2
theorem a1R (ha:QT X a t):QW X (.BoolOp .And [a] pos) t:=⟨pw_and1 ha.to⟩
theorem a2S (ha:QT X a t):QW X (.BoolOp .Or [a] pos) t:=⟨pw_or1 ha.to⟩
theorem a2w (ha:QT X a t)(hb:QW X (.BoolOp .And (b::rest) pos) u):QW X (.BoolOp .And (a::b::rest) pos) (fAnd t u):=⟨PW.weak (pw_and ha.to hb.to) fun σ H Q h0=>tTe h0 fun P O L ρ k ρ' r e q=>by
 unfold fAnd at e;obtain⟨⟨k1,ρ1⟩,e1,e⟩:=obs e;dsimp only at e;refine⟨P,O,L,ρ,k1,ρ1,r,e1,fun H' r'=>?_⟩;cases k1 with
 | true=>rw[if_pos rfl] at e ⊢;exact⟨P,O,L,ρ1,k,ρ',r',e,q⟩
 | false=>rw[if_neg zP] at e ⊢;cases e;exact q H' r'⟩
theorem a5w (ha:QT X a t)(hb:QW X (.BoolOp .Or (b::rest) pos) u):QW X (.BoolOp .Or (a::b::rest) pos) (fOr t u):=⟨PW.weak (pw_or ha.to hb.to) fun σ H Q h0=>tTe h0 fun P O L ρ k ρ' r e q=>by
 unfold fOr at e;obtain⟨⟨k1,ρ1⟩,e1,e⟩:=obs e;dsimp only at e;refine⟨P,O,L,ρ,k1,ρ1,r,e1,fun H' r'=>?_⟩;cases k1 with
 | true=>rw[if_pos rfl] at e ⊢;cases e;exact q H' r'
 | false=>rw[if_neg zP] at e ⊢;exact⟨P,O,L,ρ1,k,ρ',r',e,q⟩⟩
theorem a0C (ha:QW X a t):QT X a t:=⟨PW.pt ha.to⟩
theorem C9 {op}(ha:QX X a f):QX X (.BoolOp op [a] pos) f:=⟨b35 ha.to⟩
def fAndV (f g:FX):FX:=fun ρ=>(fTest f ρ).bind fun p=>if p.1=true then g p.2 else some (.v (.bl false),p.2)
def fOrV (f g:FX):FX:=fun ρ=>(fTest f ρ).bind fun p=>if p.1=true then some (.v (.bl true),p.2) else g p.2
def fNotV (f:FX):FX:=fun ρ=>(fTest f ρ).map fun p=>(.v (.bl (!p.1)),p.2)
theorem a0p {K:PySem.W.Frag}{A:Av}{σ:L2.St}{H H':Hp}{k:Bool}{v:V}(h:DenW K A σ H H' (.v (.bl k)) v):v= .bl k:=by
 have h:Den K A H' (.bl k) v:=h;exact a14.mp h
theorem E9 (ha:QX X a f)(hb:QX X (.BoolOp .And (b::rest) pos) g):QX X (.BoolOp .And (a::b::rest) pos) (fAndV f g):=⟨PE.weak (b36 ha.to hb.to) fun σ H Q h0=>tXe h0 fun P O L ρ w ρ' r e q=>by
 unfold fAndV at e;obtain⟨⟨k,ρ1⟩,e1,e⟩:=obs e;dsimp only at e;refine⟨P,O,L,ρ,_,ρ1,r,Z9 e1,fun v H1 H' r1 s1 d1=>⟨k,a0p d1,?_⟩⟩;cases k with
 | true=>rw[if_pos rfl] at e ⊢;exact⟨P,O,L,ρ1,w,ρ',r1.grow s1,e,q⟩
 | false=>rw[if_neg zP] at e ⊢;cases e;exact q _ H' H' (r1.grow s1) (Same.refl _) C6⟩
theorem a7B (ha:QX X a f)(hb:QX X (.BoolOp .Or (b::rest) pos) g):QX X (.BoolOp .Or (a::b::rest) pos) (fOrV f g):=⟨PE.weak (pe_or ha.to hb.to) fun σ H Q h0=>tXe h0 fun P O L ρ w ρ' r e q=>by
 unfold fOrV at e;obtain⟨⟨k,ρ1⟩,e1,e⟩:=obs e;dsimp only at e;refine⟨P,O,L,ρ,_,ρ1,r,Z9 e1,fun v H1 H' r1 s1 d1=>⟨k,a0p d1,?_⟩⟩;cases k with
 | true=>rw[if_pos rfl] at e ⊢;cases e;exact q _ H' H' (r1.grow s1) (Same.refl _) C6
 | false=>rw[if_neg zP] at e ⊢;exact⟨P,O,L,ρ1,w,ρ',r1.grow s1,e,q⟩⟩
def fIf (t:FT) (f g:FX):FX:=fun ρ=>(t ρ).bind fun p=>if p.1=true then f p.2 else g p.2
theorem qx_if (hc:QT X c t)(ha:QX X a f)(hb:QX X b g):QX X (.IfExp c a b pos) (fIf t f g):=⟨PE.weak (a9p hc.to ha.to hb.to) fun σ H Q h0=>tXe h0 fun P O L ρ w ρ' r e q=>by
 unfold fIf at e;obtain⟨⟨k,ρ1⟩,e1,e⟩:=obs e;dsimp only at e;refine⟨P,O,L,ρ,k,ρ1,r,e1,fun H' r'=>?_⟩;cases k with
 | true=>rw[if_pos rfl] at e ⊢;exact⟨P,O,L,ρ1,w,ρ',r',e,q⟩
 | false=>rw[if_neg zP] at e ⊢;exact⟨P,O,L,ρ1,w,ρ',r',e,q⟩⟩
def fNil:FA:=fun ρ=>some ([],ρ)
def fCons (f:FX) (fa:FA):FA:=fun ρ=>(f ρ).bind fun p=>(fa p.2).map fun q=>(p.1.fz::q.1,q.2)
theorem a9:QA X [] fNil:=⟨PA.weak a2t fun σ H Q h0=>tAe h0 fun P O L ρ ws ρ' r e q=>by cases e;exact q [] H r rfl⟩
theorem a8 (ha:QX X e f)(hr:QA X es fa)(hs:starEach (e::es) X.env=(false,eval e X.env)::starEach es X.env:=by rfl):QA X (e::es) (fCons f fa):=⟨PA.weak (K2 ha.to hr.to hs) fun σ H Q h0=>tAe h0 fun P O L ρ ws ρ' r e q=>by
 unfold fCons at e;obtain⟨⟨w,ρ1⟩,e1,e⟩:=obs e;dsimp only at e;obtain⟨⟨ws2,ρ2⟩,e2,e⟩:=oms e;cases e;refine⟨P,O,L,ρ,w,ρ1,r,e1,fun v H1 H' r1 s1 d1=>?_⟩;obtain⟨P',r1',k1⟩:=hold (r1.grow s1) (d1.fz r1 s1);refine⟨P',O,L,ρ1,ws2,_,r1',e2,fun vs H2 r2 l2=>?_⟩;obtain⟨r3,d3⟩:=k1 _ H2 r2
 exact q _ H2 r3 ⟨v,vs,rfl,d3,l2⟩⟩
def takeAll:Ev->List W->Option (List D×Ev)
 | ρ,[]=>some ([],ρ)
 | ρ,.v d::ws=>(takeAll ρ ws).map fun p=>(d::p.1,p.2)
 | ρ,.r i::ws=>(frzAt ρ i).bind fun ρ1=>match ρ1[i]? with
  | some (some (.v d))=>(takeAll ρ1 ws).map fun p=>(d::p.1,p.2)
  | _=>none
 | _,_=>none
theorem a6h {ρ ρ':Ev}{σ:L2.St}{O:Av}(h:∀(j:Nat) (w:W) (d:D),ρ'[j]? =some (some w)->w.own=some d->ρ[j]? =some (some w)):∀b,AvO O ρ' σ b->AvO O ρ σ b:=fun b z=>z.imp id fun⟨j,w,d,e1,e2,e3⟩=>⟨j,w,d,h j w d e1 e2,e2,e3⟩
theorem n8 {P:List (D×V)}{O:Av}{L:List (Option Nat×Addr)}{σ:L2.St}{H:Hp}:∀{ws:List W} {ds:List D} {vs:List V} {ρ ρ':Ev},Rep X P O L ρ σ H->takeAll ρ ws=some (ds,ρ')->DenA X.K (AvO O ρ σ) σ H ws vs->
  Rep X P O L ρ' σ H/\DenL X.K (AvO O ρ' σ) H ds vs/\∀(j:Nat) (w:W) (d:D),ρ'[j]? =some (some w)->w.own=some d->ρ[j]? =some (some w)
 | [],ds,vs,ρ,ρ',r,e,h=>by cases e;have h:vs=[]:=h;subst h;exact⟨r,k5,fun j w d e _=>e⟩
 | .v d::ws,ds,vs,ρ,ρ',r,e,h=>by
  obtain⟨v,rs,rfl,h1,h2⟩:=h;rw[takeAll] at e;obtain⟨⟨ds1,ρ1⟩,e1,e⟩:=oms e;cases e;obtain⟨r1,l1,k1⟩:=n8 r e1 h2;exact⟨r1,j8 (u9 (A3 (a6h k1)) _ _ h1) l1,k1⟩
 | .r i::ws,ds,vs,ρ,ρ',r,e,h=>by
  obtain⟨v,rs,rfl,h1,h2⟩:=h;have h1:σ[i]? =some (some v):=h1;rw[takeAll] at e;cases e0:frzAt ρ i with
  | none=>rw[e0] at e;cases e
  | some ρ1=>
   rw[e0] at e;simp only[bind_some] at e;obtain⟨r1,k1⟩:=r.frz e0;split at e
   ·rename_i d q;obtain⟨⟨ds1,ρ2⟩,e1,e⟩:=oms e;cases e;have go1:∀{ws:List W} {vs:List V},DenA X.K (AvO O ρ σ) σ H ws vs->DenA X.K (AvO O ρ1 σ) σ H ws vs:=fun{ws}=>by
     induction ws with
     | nil=>exact fun h=>h
     | cons w ws ih=>
      intro vs h;obtain⟨v,rs,rfl,h1,h2⟩:=h;refine⟨v,rs,rfl,?_,ih h2⟩;cases w with
      | v d=>exact u9 (A3 (a6h fun j w d e1 e2=>(k1 j w d e1 e2).1)) _ _ h1
      | _=>exact h1
    obtain⟨r2,l2,k2⟩:=n8 r1 e1 (go1 h2);obtain⟨u,q1,q2⟩:=r1.slot i _ q;rw[h1] at q1;cases q1;have q2:Den X.K (AvO O ρ1 σ) H d v:=q2;exact⟨r2,j8 (u9 (A3 (a6h k2)) _ _ q2) l2,fun j w d e1 e2=>(k1 j w d (k2 j w d e1 e2) e2).1⟩
   ·cases e
 | .o _::ws,ds,vs,ρ,ρ',r,e,h=>by rw[takeAll] at e<;>first|cases e|(intros;nofun)
 | .l _::ws,ds,vs,ρ,ρ',r,e,h=>by rw[takeAll] at e<;>first|cases e|(intros;nofun)
def fTup (fa:FA):FX:=fun ρ=>(fa ρ).bind fun p=>(takeAll p.2 p.1).bind fun q=>if q.1.length<=lim then some (.v (.tup q.1),q.2) else none
def fLst (fa:FA):FX:=fun ρ=>(fa ρ).bind fun p=>(takeAll p.2 p.1).bind fun q=>if q.1.length<=lim then some (.o (.lst q.1),q.2) else none
theorem a3F {mk:List D->W}{σ:L2.St}{H:Hp}{Q:VK}{R:List V->Hp->Prop}(hq:∀(A:Av) (ds:List D) (vs:List V) (H:Hp),(∀v H',Same H H'->DenW X.K A σ H H' (mk ds) v->Q v H')->vs.length<=sizeLine->DenL X.K A H ds vs->R vs H)
  (h:tX X (fun ρ=>(fa ρ).bind fun p=>(takeAll p.2 p.1).bind fun q=>if q.1.length<=lim then some (mk q.1,q.2) else none) σ H Q):tA X fa σ H R:=by
 obtain⟨P,O,L,ρ,w,ρ',r,e,q⟩:=h;dsimp only at e;obtain⟨⟨ws,ρ1⟩,e1,e⟩:=obs e;dsimp only at e;obtain⟨⟨ds,ρ2⟩,e2,e⟩:=obs e;dsimp only at e;split at e
 ·rename_i hl;cases e;refine⟨P,O,L,ρ,ws,ρ1,r,e1,fun vs H1 r1 l1=>?_⟩;obtain⟨r2,l2,_⟩:=n8 r1 e2 l1;exact hq _ ds vs H1 (fun v H' s d=>q v H1 H' r2 s d) (by rw[<-c6 l2];exact qC hl t7) l2
 ·cases e
theorem m6 {k:Nat}(ha:QA X es fa):QX X (.Tuple es k pos) (fTup fa):=⟨PE.weak (a55 ha.to) fun σ H Q h=>a3F (mk:=fun ds=>.v (.tup ds)) (fun A ds vs H q hl l=>⟨hl,fun p hp=>q _ _ (j7 hp _) (O5 hp l)⟩) h⟩
theorem t6 (ha:QA X es fa):QX X (.List es pos) (fLst fa):=⟨PE.weak (a91 ha.to) fun σ H Q h=>a3F (mk:=fun ds=>.o (.lst ds)) (fun A ds vs H q hl l=>⟨hl,fun p hp=>q _ _ (j7 hp _) (v7 hp l)⟩) h⟩
def items:D->Option (List D)
 | .tup xs=>some xs
 | .lst xs=>some xs
 | _=>none
theorem G4 {K:PySem.W.Frag}{A:Av}{H:Hp}{d:D}{xs:List D}{v:V}(e:items d=some xs)(h:DenR K A H d v):∃a vs,v= .ref a/\(SqL K H a vs\/SqT K H a vs)/\DenL K A H xs vs:=by
 cases d<;>simp only[items] at e<;>cases e
 ·have h:Den K A H (.tup xs) v:=h;rw[Den] at h;obtain⟨a,vs,e,hq,l⟩:=h;exact⟨a,vs,e,.inr hq,l⟩
 ·obtain⟨a,vs,e,hq,l⟩:=h;exact⟨a,vs,e,.inl hq,l⟩
def strAt (x:Str) (i:Int):Option W:=if x.length<=lim then(atI x.cps.toList i).map fun c=>.v (.str ⟨#[c]⟩) else none
def oIx (x y:D):Option W:=match x,y with
 | .str x,.int i=>strAt x i
 | x,.int i=>(items x).bind fun xs=>(atI xs i).map .v
 | _,_=>none
theorem b1A {K:PySem.W.Frag}{A:Av}{H:Hp}{xs:List D}{vs:List V}{i:Int}{d:D}(l:DenL K A H xs vs)(e:atI xs i=some d):∃v,atI vs i=some v/\Den K A H d v:=by
 unfold atI at e ⊢;rw[<-c6 l];cases q:ixN xs.length i with
 | none=>rw[q] at e;cases e
 | some j=>rw[q] at e;exact z6 l e
theorem k_ix:Pr2 X oIx (rIx X.K):=by
 intro A x y w v u H Q _ e hx hy q;unfold oIx at e;split at e
 ·rename_i z i;unfold strAt at e;split at e
  ·rename_i hl;obtain⟨ch,e1,e⟩:=oms e;cases e;have hx:Den X.K A H (.str z) v:=hx;exact .inr (.inr ⟨z,i,ch,a1V.mp hx,l5 hy,qC hl t7,e1,q _ H (Same.refl H) a9P⟩)
  ·cases e
 ·rename_i i _;cases e1:items x with
  | none=>rw[e1] at e;cases e
  | some xs=>
   rw[e1] at e;simp only[bind_some] at e;obtain⟨d,e2,e⟩:=oms e;cases e;obtain⟨a,vs,rfl,hq,l⟩:=G4 e1 hx;obtain⟨v',h1,h2⟩:=b1A l e2;rcases hq with hq|hq
   ·exact .inl ⟨a,vs,i,v',rfl,l5 hy,hq,h1,q _ H (Same.refl H) h2⟩
   ·exact .inr (.inl ⟨a,vs,i,v',rfl,l5 hy,hq,h1,q _ H (Same.refl H) h2⟩)
 ·cases e
def fCall (k:List D->Option W) (fa:FA):FX:=fun ρ=>(fa ρ).bind fun p=>(drs p.2 p.1).bind fun ds=>(k ds).map fun w=>(w,p.2)
def PrA (X:Cx) (k:List D->Option W) (r:List V->Hp->VK->Prop):Prop:=∀(A:Av) (ds:List D) (w:W) (vs:List V) (H:Hp) (Q:VK),(∀b,A b->∃o,H b=some o)->k ds=some w->DenRL X.K A H ds vs->(∀z H',Same H H'->DenW X.K A [] H H' w z->Q z H')->r vs H Q
theorem a29 {r:List V->Hp->VK->Prop}{k:List D->Option W}(hk:PrA X k r):∀σ H Q,tX X (fCall k fa) σ H Q->tCB r (tA X fa) σ H Q:=fun σ H Q h0=>tXe h0 fun P O L ρ w ρ' r e q=>by
 unfold fCall at e;obtain⟨⟨ws,ρ1⟩,e1,e⟩:=obs e;dsimp only at e;cases e2:drs ρ1 ws with
 | none=>rw[e2] at e;cases e
 | some ds=>
  rw[e2] at e;simp only[bind_some] at e;cases e3:k ds with
  | none=>rw[e3] at e;cases e
  | some w'=>
   rw[e3] at e;cases e;exact⟨P,O,L,ρ,ws,ρ',r,e1,fun vs H1 r1 l1=>hk _ ds w vs H1 Q (fun b z=>r1.there z) e3 (a6W r1 e2 l1) fun z H2 s2 d2=>q z H1 H2 r1 s2 d2.st⟩
theorem a2h {x:Str}{p:Pos}{id:String}{r:List V->Hp->VK->Prop}{k:List D->Option W}(hc:CallR X (.builtin id) r)(hk:PrA X k r)(hv:bootBuiltins x=some (.builtin id))(hm:X.mg x=none)(ha:QA X (e::es) fa)(hg:Gl X x)(hn:x≠"__name__")(hdb:(x==("__debug__":Str))=false)
  (he:starEach (e::es) X.env=(false,eval e X.env)::starEach es X.env) (hpl:(backTo pos (starEach es X.env)).any (·.1)=false):QX X (.Call (.Name x p) (e::es) [] pos) (fCall k fa):=⟨PE.weak (a19 hc hg hm hv ha.to hn hdb he hpl) (a29 hk)⟩
theorem a5n {x:Str}{p:Pos}{T:String}{r:List V->Hp->VK->Prop}{k:List D->Option W}(hc:CallR X (.type T) r)(hk:PrA X k r)(hv:bootBuiltins x=some (.type T))(hm:X.mg x=none)(ha:QA X (e::es) fa)(hg:Gl X x)(hn:x≠"__name__")(hdb:(x==("__debug__":Str))=false)
  (he:starEach (e::es) X.env=(false,eval e X.env)::starEach es X.env) (hpl:(backTo pos (starEach es X.env)).any (·.1)=false):QX X (.Call (.Name x p) (e::es) [] pos) (fCall k fa):=⟨PE.weak (a8x hc hg hm hv ha.to hn hdb he hpl) (a29 hk)⟩
theorem denRL1 {K:PySem.W.Frag}{A:Av}{H:Hp}{d:D}{vs:List V}(l:DenRL K A H [d] vs):∃v,vs=[v]/\DenR K A H d v:=by
 obtain⟨v,r,rfl,h,l⟩:=l;have l:r=[]:=l;subst l;exact⟨v,rfl,h⟩
theorem denRL2 {K:PySem.W.Frag}{A:Av}{H:Hp}{d d':D}{vs:List V}(l:DenRL K A H [d,d'] vs):∃v v',vs=[v,v']/\DenR K A H d v/\DenR K A H d' v':=by
 obtain⟨v,r,rfl,h,l⟩:=l;obtain⟨v',rfl,h'⟩:=denRL1 l;exact⟨v,v',rfl,h,h'⟩
end
inductive R where
 | nx (ρ:Ev)|bk (ρ:Ev)|ct (ρ:Ev)|rt (w:W) (ρ:Ev)
abbrev FS:=Ev->Option R
abbrev A0 (O:Av) (L:List (Option Nat×Addr)):Av:=fun b=>O b\/∃i:Nat,(some i,b)∈L
def EndsOk (X:Cx) (P:List (D×V)) (O:Av) (L:List (Option Nat×Addr)) (E:Ends):R->Prop
 | .nx ρ=>∀σ H,Rep X P O L ρ σ H->E.nx σ H
 | .bk ρ=>∀σ H,Rep X P O L ρ σ H->E.bk σ H
 | .ct ρ=>∀σ H,Rep X P O L ρ σ H->E.ct σ H
 | .rt w ρ=>∀v H,(∀b o,X.H₀ b=some o->(∀i,(i,b)∉L)->H b=some o)->(∀(i:Nat) b,(some i,b)∈L->∃c,ownAt ρ i=some c/\Obj X.K (A0 O L) H b c)->DenW X.K (A0 O L) [] (hz X L) H w v->E.rt v H
def tS (X:Cx) (F:FS):TS:=fun E σ H=>∃P O L ρ r,Rep X P O L ρ σ H/\F ρ=some r/\EndsOk X P O L E r
theorem tSe {X:Cx}{F:FS}{E:Ends}{σ:L2.St}{H:Hp}{C:Prop}(h:tS X F E σ H)(k:∀P O L ρ r,Rep X P O L ρ σ H->F ρ=some r->EndsOk X P O L E r->C):C:=by
 obtain⟨P,O,L,ρ,r,rp,e,q⟩:=h;exact k P O L ρ r rp e q
structure QS (X:Cx) (st:Stmt) (F:FS):Prop where
 to:PS X st (tS X F)
structure QSs (X:Cx) (st:List Stmt) (F:FS):Prop where
 to:PSs X st (tS X F)
theorem PS.weak {X:Cx}{e:Stmt}{t u:TS}(h:PS X e t)(w:∀E σ H,u E σ H->t E σ H):PS X e u:=fun pins s σ H E I q=>h pins s σ H E I (w E σ H q)
theorem PSs.weak {X:Cx}{e:List Stmt}{t u:TS}(h:PSs X e t)(w:∀E σ H,u E σ H->t E σ H):PSs X e u:=fun pins s σ H E I q=>h pins s σ H E I (w E σ H q)
def fThen (F G:FS):FS:=fun ρ=>(F ρ).bind fun r=>match r with
 | .nx ρ'=>G ρ'
 | r=>some r
section
variable {X:Cx}{P:List (D×V)}{O:Av}{L:List (Option Nat×Addr)}{ρ ρ':Ev}{σ:L2.St}{H H1 H':Hp}{w:W}{d:D}{v:V}
theorem Rep.a0 (r:Rep X P O L ρ σ H){b:Addr}(z:A0 O L b):AvO O ρ σ b:=z.imp id fun⟨i,z⟩=>by
 obtain⟨d,h1,h2⟩:=r.lnd i b z;exact⟨i,_,d,h1,rfl,h2⟩
theorem Rep.lents (r:Rep X P O L ρ σ H):∀(i:Nat) b,(some i,b)∈L->∃c,ownAt ρ i=some c/\Obj X.K (A0 O L) H b c:=fun i b z=>by
 obtain⟨d,h1,h2⟩:=r.lnd i b z;obtain⟨a,h3,h4⟩:=r.obj h1 rfl;rw[h2] at h3;cases h3;exact⟨d,by unfold ownAt;rw[h1];rfl,A2 (A3 fun b z=>r.a0 z) rfl h4⟩
def bindW (ρ:Ev) (i:Nat):W->Option Ev
 | .v d=>if freeSlot ρ i=true then some (ρ.set i (some (.v d))) else none
 | .o d=>if freeSlot ρ i=true then some (ρ.set i (some (.o d))) else none
 | .r j=>(frzAt ρ j).bind fun ρ1=>match ρ1[j]? with
  | some (some (.v d))=>if freeSlot ρ1 i=true then some (ρ1.set i (some (.v d))) else none
  | _=>none
 | .l _=>none
theorem a7f {i:Nat}(r:Rep X P O L ρ σ H1)(s:Same H1 H')(h:DenW X.K (AvO O ρ σ) σ H1 H' w v)(e:bindW ρ i w=some ρ'):Rep X P O L ρ' (σ.set i (some v)) H':=by
 cases w with
 | v d=>
  rw[bindW] at e;split at e
  ·rename_i hf;cases e;exact(r.grow s).put hf h
  ·cases e
 | o d=>
  rw[bindW] at e;split at e
  ·rename_i hf;cases e;obtain⟨a,rfl,hn,ob⟩:=h;exact r.putO s hf hn ob
  ·cases e
 | r j=>
  rw[bindW] at e;cases e1:frzAt ρ j with
  | none=>rw[e1] at e;cases e
  | some ρ1=>
   rw[e1] at e;simp only[bind_some] at e;obtain⟨r1,_⟩:=(r.grow s).frz e1;split at e
   ·rename_i d q;split at e
    ·rename_i hf;cases e;obtain⟨u,q1,q2⟩:=r1.slot j _ q;have h:σ[j]? =some (some v):=h;rw[h] at q1;cases q1;exact r1.put hf q2
    ·cases e
   ·cases e
 | l d=>cases e
def retW (ρ:Ev):W->Option R
 | .v d=>some (.rt (.v d) ρ)
 | .o d=>some (.rt (.o d) ρ)
 | .r i=>match ρ[i]? with
  | some (some (.o d))=>some (.rt (.o d) ρ)
  | some (some (.v d))=>some (.rt (.v d) ρ)
  | _=>none
 | .l _=>none
theorem b3P {E:Ends}{q:R}(r:Rep X P O L ρ σ H1)(s:Same H1 H')(h:DenW X.K (AvO O ρ σ) σ H1 H' w v)(e:retW ρ w=some q)(hq:EndsOk X P O L E q):E.rt v H':=by
 have r':=r.grow s;cases w with
 | v d=>cases e;exact hq v H' r'.same r'.lents (u9 (A3 fun b z=>r.a0 z) _ _ h)
 | o d=>
  cases e;obtain⟨a,rfl,hn,ob⟩:=h;exact hq _ H' r'.same r'.lents ⟨a,rfl,r.fresh0 hn,A2 (A3 fun b z=>z.imp (fun z=>r.a0 z) id) rfl ob⟩
 | r i=>
  rw[retW] at e;have h:σ[i]? =some (some v):=h;split at e
  ·rename_i d q;cases e;obtain⟨a,h1,h2⟩:=r'.obj q rfl;rw[h] at h1;cases h1;refine hq _ H' r'.same r'.lents ⟨a,rfl,r'.new i d a q h,A2 (A3 fun b z=>?_) rfl h2⟩;rcases z with z|z
   ·exact r.a0 z
   ·rw[z];exact .inr ⟨i,_,d,q,rfl,h⟩
  ·rename_i d q;cases e;obtain⟨u,q1,q2⟩:=r'.slot i _ q;rw[h] at q1;cases q1;exact hq v H' r'.same r'.lents (u9 (A3 fun b z=>r.a0 z) _ _ q2)
  ·cases e
 | l d=>cases e
end
section
variable {X:Cx}{a b c e:Expr}{st:Stmt}{rest bd els:List Stmt}{pos:Pos}{f g:FX}{t:FT}{fa:FA}{F G:FS}
theorem t3:QSs X [] (fun ρ=>some (.nx ρ)):=⟨PSs.weak b1B fun E σ H h0=>tSe h0 fun P O L ρ r rp e q=>by cases e;exact q σ H rp⟩
theorem b9 (h1:QS X st F)(h2:QSs X rest G):QSs X (st::rest) (fThen F G):=⟨PSs.weak (b0S h1.to h2.to) fun E σ H h0=>tSe h0 fun P O L ρ r rp e q=>by
 unfold fThen at e;obtain⟨r1,e1,e⟩:=obs e;refine⟨P,O,L,ρ,r1,rp,e1,?_⟩;cases r1 with
 | nx ρ'=>exact fun σ' H' rp'=>⟨P,O,L,ρ',r,rp',e,q⟩
 | bk ρ'=>cases e;exact q
 | ct ρ'=>cases e;exact q
 | rt d ρ'=>cases e;exact q⟩
theorem c7 (h1:QS X st F):QSs X [st] F:=⟨b2i h1.to⟩
theorem a8U:QS X (.Break pos) (fun ρ=>some (.bk ρ)):=⟨PS.weak a9X fun E σ H h0=>tSe h0 fun P O L ρ r rp e q=>by cases e;exact q σ H rp⟩
theorem b1h:QS X st (fun _=>none):=⟨PS.weak b0q fun E σ H h0=>tSe h0 fun P O L ρ r rp e q=>by cases e⟩
theorem a84 {e c:Option Expr}:QS X (.Raise e c pos) (fun _=>none):=b1h
def fRet (f:FX):FS:=fun ρ=>(f ρ).bind fun p=>retW p.2 p.1
theorem j6 (ha:QX X e f):QS X (.Return (some e) pos) (fRet f):=⟨PS.weak (b3Y ha.to) fun E σ H h0=>tSe h0 fun P O L ρ r rp e q=>by
 unfold fRet at e;obtain⟨⟨w,ρ1⟩,e1,e⟩:=obs e
 exact⟨P,O,L,ρ,w,ρ1,rp,e1,fun v H1 H' r1 s1 d1=>b3P r1 s1 d1 e q⟩⟩
def fIfS (t:FT) (F G:FS):FS:=fun ρ=>(t ρ).bind fun p=>if p.1=true then F p.2 else G p.2
theorem w8 (hc:QT X c t)(ha:QSs X bd F)(hb:QSs X els G):QS X (.If c bd els pos) (fIfS t F G):=⟨PS.weak (ps_if hc.to ha.to hb.to) fun E σ H h0=>tSe h0 fun P O L ρ r rp e q=>by
 unfold fIfS at e;obtain⟨⟨k,ρ1⟩,e1,e⟩:=obs e;dsimp only at e;refine⟨P,O,L,ρ,k,ρ1,rp,e1,fun H1 r1=>?_⟩;cases k with
 | true=>rw[if_pos rfl] at e ⊢;exact⟨P,O,L,ρ1,r,r1,e,q⟩
 | false=>rw[if_neg zP] at e ⊢;exact⟨P,O,L,ρ1,r,r1,e,q⟩⟩
def fAsg (i:Nat) (f:FX):FS:=fun ρ=>(f ρ).bind fun p=>(bindW p.2 i p.1).map .nx
theorem g9 (i:Nat){x:Str}{pos':Pos}(hN:X.N.Nodup)(ha:QX X e f)(hi:X.N[i]? =some x:=by rfl)(hx:Loc X.env.scope x:=by first|exact Or.inl rfl|exact Or.inr rfl)(hs:swapsWith e (some (.Name x pos')) pos.line X.env=pure false:=by rfl)(hf:X.fn x=true\/X.env.scope.names.lookup x=some .local:=by first|exact .inl rfl|exact .inr rfl):
  QS X (.Assign [.Name x pos'] e pos) (fAsg i f):=⟨PS.weak (b4t hN hi hx ha.to hs hf) fun E σ H h0=>tSe h0 fun P O L ρ r rp e q=>by
 unfold fAsg at e;obtain⟨⟨w,ρ1⟩,e1,e⟩:=obs e;dsimp only at e;obtain⟨ρ2,e2,e⟩:=oms e;cases e
 exact⟨P,O,L,ρ,w,ρ1,rp,e1,fun v H1 H' r1 s1 d1=>q _ H' (a7f r1 s1 d1 e2)⟩⟩
abbrev FG:=D->Ev->Option Ev
def GOk (X:Cx) (g:TG) (gf:FG):Prop:=∀(P:List (D×V)) (O:Av) (L:List (Option Nat×Addr)) (d:D) (v:V) (ρ ρ':Ev) (σ:L2.St) (H:Hp) (Q:L2.St->Hp->Prop),Rep X P O L ρ σ H->Den X.K (AvO O ρ σ) H d v->gf d ρ=some ρ'->(∀σ' H',Rep X P O L ρ' σ' H'->Q σ' H')->g v σ H Q
structure QG (X:Cx) (tg:Expr) (gf:FG):Prop where
 to:∃g,PG X tg g/\GOk X g gf
abbrev FGs:=List D->Ev->Option Ev
structure QGs (X:Cx) (tgs:List Expr) (n:Nat) (gf:FGs):Prop where
 to:∃g,PGs X tgs g/\∀(P:List (D×V)) (O:Av) (L:List (Option Nat×Addr)) (ds:List D) (vs:List V) (ρ ρ':Ev) (σ:L2.St) (H:Hp) (Q:L2.St->Hp->Prop),Rep X P O L ρ σ H->DenL X.K (AvO O ρ σ) H ds vs->gf ds ρ=some ρ'->(∀σ' H',Rep X P O L ρ' σ' H'->Q σ' H')->g vs σ H Q
 len:∀ds ρ ρ',gf ds ρ=some ρ'->ds.length=n
def gfName (i:Nat):FG:=fun d ρ=>if freeSlot ρ i=true then some (ρ.set i (some (.v d))) else none
theorem c8 (i:Nat){x:Str}(hN:X.N.Nodup)(hi:X.N[i]? =some x:=by rfl)(hx:Loc X.env.scope x:=by first|exact Or.inl rfl|exact Or.inr rfl)(hf:X.fn x=true\/X.env.scope.names.lookup x=some .local:=by first|exact .inl rfl|exact .inr rfl):QG X (.Name x pos) (gfName i):=
 ⟨gName i,a7L hN hi hx hf,fun P O L d v ρ ρ' σ H Q r h e q=>by
  unfold gfName at e;split at e
  ·rename_i hf;cases e;exact q _ H (r.put hf h)
  ·cases e⟩
def gfNil:FGs:=fun ds ρ=>match ds with
 | []=>some ρ
 | _=>none
def gfCons (gf:FG) (gs:FGs):FGs:=fun ds ρ=>match ds with
 | d::ds=>(gf d ρ).bind (gs ds)
 | _=>none
def gfTup (gs:FGs):FG:=fun d ρ=>match d with
 | .tup ds=>gs ds ρ
 | _=>none
theorem B7:QGs X [] 0 gfNil:=⟨⟨gNil,b12,fun P O L ds vs ρ ρ' σ H Q r l e q=>by
 cases ds with
 | nil=>cases e;rw[DenL] at l;exact⟨l,q σ H r⟩
 | cons d ds=>cases e⟩,fun ds ρ ρ' e=>by cases ds with|nil=>rfl|cons d ds=>cases e⟩
theorem holdL {P:List (D×V)}{O:Av}{L:List (Option Nat×Addr)}{σ:L2.St}:∀{ds:List D} {vs:List V} {ρ:Ev} {H:Hp},Rep X P O L ρ σ H->DenL X.K (AvO O ρ σ) H ds vs->∃P',Rep X P' O L ρ σ H/\∀ρ2 σ2 H2,Rep X P' O L ρ2 σ2 H2->Rep X P O L ρ2 σ2 H2/\DenL X.K (AvO O ρ2 σ2) H2 ds vs
 | [],vs,ρ,H,r,l=>⟨P,r,fun ρ2 σ2 H2 r2=>⟨r2,by rw[DenL] at l ⊢;exact l⟩⟩
 | d::ds,vs,ρ,H,r,l=>by
  rw[DenL] at l;obtain⟨v,rs,rfl,h,l⟩:=l;obtain⟨P',r1,k1⟩:=holdL r l
  exact⟨(d,v)::P',r1.more h,fun ρ2 σ2 H2 r2=>by
   obtain⟨r3,l3⟩:=k1 ρ2 σ2 H2 r2.less
   exact⟨r3,j8 r2.head l3⟩⟩
theorem j4 {n:Nat}{tgs:List Expr}{tg:Expr}{gf:FG}{gs:FGs}(h:QG X tg gf)(t:QGs X tgs n gs)(hs:(assignEach (tg::tgs) X.env).map (·.2)=assign tg X.env::(assignEach tgs X.env).map (·.2):=by rfl):QGs X (tg::tgs) (n+1) (gfCons gf gs):=by
 obtain⟨g,p,k⟩:=h.to;obtain⟨gg,pp,kk⟩:=t.to;refine⟨⟨gCons g gg,a9J p pp hs,fun P O L ds vs ρ ρ' σ H Q r l e q=>?_⟩,fun ds ρ ρ' e=>?_⟩
 ·cases ds with
  | nil=>cases e
  | cons d ds=>
   rw[DenL] at l;obtain⟨v,rs,rfl,hd,l⟩:=l;simp only[gfCons] at e;obtain⟨ρ1,e1,e⟩:=obs e;obtain⟨P',r1,k1⟩:=holdL r l;refine⟨v,rs,rfl,k P' O L d v ρ ρ1 σ H _ r1 hd e1 fun σ' H' r2=>?_⟩;obtain⟨r3,l3⟩:=k1 _ _ _ r2;exact kk P O L ds rs ρ1 ρ' σ' H' Q r3 l3 e q
 ·cases ds with
  | nil=>cases e
  | cons d ds=>
   simp only[gfCons] at e;cases e1:gf d ρ with
   | none=>rw[e1] at e;cases e
   | some ρ1=>rw[e1] at e;rw[qJ,t.len ds ρ1 ρ' e]
theorem D1 {tgs:List Expr}{n k:Nat}{gs:FGs}(hc:X.calm=true)(h:QGs X tgs n gs)(hn:(assignEach tgs X.env).length=n:=by rfl)(hst:(assignEach tgs X.env).findIdx? (·.1)=none:=by rfl):QG X (.Tuple tgs k pos) (gfTup gs):=by
 obtain⟨gg,pp,kk⟩:=h.to;refine⟨gTup X.K n gg,b4c hc pp hn hst,fun P O L d v ρ ρ' σ H Q r hd e q=>?_⟩;cases d with
 | tup ds=>
  rw[Den] at hd;obtain⟨a,vs,ev,hq,l⟩:=hd;exact⟨a,vs,ev,hq,by rw[<-c6 l];exact h.len ds ρ ρ' e,kk P O L ds vs ρ ρ' σ H Q r l e q⟩
 | _=>cases e
def gfSub (f g:FX):FG:=fun d ρ=>(f ρ).bind fun p=>match p.1 with
 | .r j=>(g p.2).bind fun q=>(dr q.2 q.1.fz).bind fun k=>match k,ownAt q.2 j with
  | .int k,some (.lst xs)=>(ixN xs.length k).map fun n=>setOwn q.2 j (.lst (xs.set n d))
  | _,_=>none
 | _=>none
theorem U7 (ha:QX X a f)(hb:QX X b g)(hs:∀v,assign (.Subscript a b pos) X.env v=(do
   let ov <-holding [v] (eval a X.env)
   let iv <-holding [v,ov] (eval b X.env)
   standAt pos
   holding [v,ov,iv] (setItem ov iv v)
   release [v,ov,iv] []):=by intro _;rfl):QG X (.Subscript a b pos) (gfSub f g):=by
 refine⟨_,b3L ha.to hb.to b0O hs,fun P O L d v ρ ρ' σ H Q r hd e q=>?_⟩;unfold gfSub at e;obtain⟨⟨w1,ρ1⟩,e1,e⟩:=obs e;dsimp only at e;split at e
 ·rename_i w1 j;obtain⟨⟨w2,ρ2⟩,e2,e⟩:=obs e;dsimp only at e;cases e3:dr ρ2 w2.fz with
  | none=>rw[e3] at e;cases e
  | some k=>
   rw[e3] at e;simp only[bind_some] at e;split at e
   ·rename_i _ _ i xs e4;obtain⟨n,e5,e⟩:=oms e;cases e;have r0:Rep X ((d,v)::P) O L ρ σ H:=r.more hd;refine⟨(d,v)::P,O,L,ρ,_,ρ1,r0,e1,fun o H1 H1' r1 s1 d1=>?_⟩;have d1:σ[j]? =some (some o):=d1;refine⟨(d,v)::P,O,L,ρ1,w2,ρ2,r1.grow s1,e2,fun u H2 H2' r2 s2 d2=>?_⟩;have r3:=r2.grow s2;have ki:=l5 (E8 r3 e3 (d2.fz r2 s2));obtain⟨w0,q0,ow⟩:=w6 e4;obtain⟨pa,h1,vs,h2,l⟩:=r3.obj q0 ow;rw[d1] at h1;cases h1;have av:∀b,AvO O (setOwn ρ2 j (.lst (xs.set n d))) σ b->AvO O ρ2 σ b:=fun b z=>z.imp id fun z=>(X2 e4 b).mp z;refine⟨pa,vs,i,n,rfl,ki,h2,by rw[<-c6 l];exact e5,q σ _ ((r3.less).mut e4 d1 (fun b o eb nb=>by rw[g8 nb];exact eb) ⟨_,p9,?_⟩)⟩
    have g0:Go (AvO O ρ2 σ) (AvO O ρ2 σ) (fun b=>b=pa) H2' (upd H2' pa (.lst (vs.set n v))):=⟨fun b o eb nb=>by rw[g8 nb];exact eb,fun b z=>by rw[z];exact⟨.inr ⟨j,w0,_,q0,ow,d1⟩,_,h2,trivial⟩,fun b z=>.inl z⟩
    exact w4 g0 _ _ (a5r r3.head n l)
   ·cases e
 ·cases e
def fAsgG (f:FX) (gf:FG):FS:=fun ρ=>(f ρ).bind fun p=>(takeAll p.2 [p.1.fz]).bind fun q=>match q.1 with
 | [d]=>(gf d q.2).map .nx
 | _=>none
theorem E7 {tg:Expr}{gf:FG}(ha:QX X e f)(hg:QG X tg gf)(hs:swapsWithSole [tg] e pos.line X.env=pure false:=by rfl)(hw:swappedStores [tg] e X.env=pure none:=by rfl)(h1:(assignEach [tg] X.env).map (·.2)=[assign tg X.env]:=by rfl):QS X (.Assign [tg] e pos) (fAsgG f gf):=by
 obtain⟨g,p,k⟩:=hg.to;refine⟨PS.weak (b37 ha.to p hs hw h1) fun E σ H h0=>tSe h0 fun P O L ρ r rp e q=>?_⟩;unfold fAsgG at e;obtain⟨⟨w,ρ1⟩,e1,e⟩:=obs e;dsimp only at e;obtain⟨⟨ds,ρ2⟩,e2,e⟩:=obs e;dsimp only at e;split at e
 ·rename_i d;obtain⟨ρ3,e3,e⟩:=oms e;cases e;refine⟨P,O,L,ρ,w,ρ1,rp,e1,fun v H1 H' r1 s1 d1=>?_⟩;obtain⟨r2,l2,_⟩:=n8 (vs:=[v]) (r1.grow s1) e2 ⟨v,[],rfl,d1.fz r1 s1,rfl⟩;obtain⟨v',ev,h'⟩:=denL1 l2;cases ev;exact k P O L d v ρ2 ρ3 σ H' _ r2 h' e3 fun σ' H' r'=>q σ' H' r'
 ·cases e
def fDrop (f:FX):FS:=fun ρ=>(f ρ).map fun p=>.nx p.2
theorem K5 (ha:QX X e f)(hs:swapsWith e none pos.line X.env=pure false:=by rfl):QS X (.Expr e pos) (fDrop f):=⟨PS.weak (b1H ha.to hs) fun E σ H h0=>tSe h0 fun P O L ρ r rp e q=>by
 unfold fDrop at e;obtain⟨p,e1,e⟩:=oms e;cases e
 exact⟨P,O,L,ρ,p.1,p.2,rp,e1,fun v H1 H' r1 s1 d1=>q σ H' (r1.grow s1)⟩⟩
def fPar (i j:Nat) (fa:FA):FS:=fun ρ=>(fa ρ).bind fun p=>(takeAll p.2 p.1).bind fun q=>match q.1 with
 | [d,d']=>if freeSlot q.2 i=true/\freeSlot (q.2.set i (some (.v d))) j=true then some (.nx ((q.2.set i (some (.v d))).set j (some (.v d')))) else none
 | _=>none
theorem a5I (i j:Nat){x y:Str}{px py pt:Pos}{kt k2 pt2}(hc:X.calm=true)(hN:X.N.Nodup)(ha:QA X [a,b] fa)(hw:swappedStores [.Tuple [.Name x px,.Name y py] kt pt] (.Tuple [a,b] k2 pt2) X.env=pure (some [x,y]))(hi:X.N[i]? =some x:=by rfl)(hj:X.N[j]? =some y:=by rfl)(hij:i≠j:=by decide)
  (hx:X.env.scope.names.lookup x=some .local:=by rfl) (hy:X.env.scope.names.lookup y=some .local:=by rfl)
  (hs:swapsWithSole [.Tuple [.Name x px,.Name y py] kt pt] (.Tuple [a,b] k2 pt2) pos.line X.env=pure false:=by rfl):
  QS X (.Assign [.Tuple [.Name x px,.Name y py] kt pt] (.Tuple [a,b] k2 pt2) pos) (fPar i j fa):=⟨PS.weak (b4B hc hN hi hj hij hx hy ha.to hw hs) fun E σ H h0=>tSe h0 fun P O L ρ r rp e q=>by
 unfold fPar at e;obtain⟨⟨ws,ρ1⟩,e1,e⟩:=obs e;dsimp only at e;obtain⟨⟨ds,ρ2⟩,e2,e⟩:=obs e;dsimp only at e;split at e
 ·rename_i d d';split at e
  ·rename_i hf;cases e;refine⟨P,O,L,ρ,ws,ρ1,rp,e1,fun vs H1 r1 l1=>?_⟩;obtain⟨r2,l2,_⟩:=n8 r1 e2 l1;obtain⟨v,v',rfl,h,h'⟩:=denL2 l2;have r3:=(r2.more (p:=(d',v')) h').put (i:=i) hf.1 h;exact⟨v,v',rfl,q _ H1 (r3.less.put (i:=j) hf.2 r3.head)⟩
  ·cases e
 ·cases e⟩
end
def whileF (c:FT) (b:FS):Nat->Ev->Option R
 | 0,_=>none
 | n+1,ρ=>(c ρ).bind fun k=>if k.1=true then(b k.2).bind (fun r=>match r with
   | .nx ρ'=>whileF c b n ρ'
   | .ct ρ'=>whileF c b n ρ'
   | .bk ρ'=>some (.nx ρ')
   | .rt d ρ'=>some (.rt d ρ')) else some (.nx k.2)
theorem S7 {c:FT}{b:FS}:∀{n:Nat} {ρ:Ev} {r:R},whileF c b n ρ=some r->whileF c b (n+1) ρ=some r
 | 0,ρ,r,h=>by cases h
 | n+1,ρ,r,h=>by
  rw[whileF] at h ⊢;cases e:c ρ with
  | none=>rw[e] at h;cases h
  | some k=>
   rw[e] at h;obtain⟨k,ρ1⟩:=k;cases k with
   | false=>exact h
   | true=>
    simp only[bind_some,jC] at h ⊢;cases e2:b ρ1 with
    | none=>rw[e2] at h;cases h
    | some r2=>
     rw[e2] at h;cases r2 with
     | nx ρ'=>exact S7 (n:=n) h
     | ct ρ'=>exact S7 (n:=n) h
     | bk ρ'=>exact h
     | rt d ρ'=>exact h
theorem a3O {c:FT}{b:FS}{n m:Nat}{ρ:Ev}{r:R}(h:whileF c b n ρ=some r)(hm:n<=m):whileF c b m ρ=some r:=by
 induction hm with
 | refl=>exact h
 | step _ ih=>exact S7 ih
open Classical in
def whileV (c:FT) (b:FS):FS:=fun ρ=>if h:∃r,∃n,whileF c b n ρ=some r then some h.choose else none
theorem a3N {c:FT}{b:FS}{n:Nat}{ρ:Ev}{r:R}(h:whileF c b n ρ=some r):whileV c b ρ=some r:=by
 have z:∃r,∃n,whileF c b n ρ=some r:=⟨r,n,h⟩;unfold whileV;rw[dif_pos z];obtain⟨m,hm⟩:=z.choose_spec;have h1:=a3O h (Nat.le_max_left n m);have h2:=a3O hm (Nat.le_max_right n m);rw[h1] at h2;exact h2.symm
theorem a8I {c:FT}{b:FS}{ρ:Ev}{r:R}(h:whileV c b ρ=some r):∃n,whileF c b n ρ=some r:=by
 unfold whileV at h;split at h
 ·rename_i z;cases h;exact z.choose_spec
 ·cases h
section
variable {X:Cx}{a b c e:Expr}{body:List Stmt}{pos:Pos}{f g:FX}{t:FT}{fa:FA}{F:FS}
theorem a12 (hp:PassesOwn (model X.prog X.w) X.A X.env X.xe)(hc:QT X c t)(hb:QSs X body F):QS X (.While c body [] pos) (whileV t F):=⟨PS.weak (a92 hp hc.to hb.to) fun E σ H h0=>tSe h0 fun P O L ρ r rp e q=>by
 obtain⟨n,e⟩:=a8I e;refine⟨fun m σ H=>∃ρ,Rep X P O L ρ σ H/\whileF t F m ρ=some r,⟨n,ρ,rp,e⟩,fun m σ H ⟨ρ,rp,e⟩=>?_⟩;cases m with
 | zero=>cases e
 | succ m=>
  rw[whileF] at e;obtain⟨⟨k,ρ1⟩,e1,e⟩:=obs e;refine⟨P,O,L,ρ,k,ρ1,rp,e1,fun H1 r1=>?_⟩;cases k with
  | false=>
   rw[if_neg zP];cases e;exact q σ H1 r1
  | true=>
   rw[if_pos rfl];simp only[bind_some,jC] at e;obtain⟨r2,e2,e⟩:=obs e;refine⟨fun σ' H'=>∃ρ,Rep X P O L ρ σ' H'/\whileF t F m ρ=some r,fun σ' H' h=>⟨m,Nat.lt_succ_self m,h⟩,P,O,L,ρ1,r2,r1,e2,?_⟩;cases r2 with
   | nx ρ'=>exact fun σ' H' rp'=>⟨ρ',rp',e⟩
   | ct ρ'=>exact fun σ' H' rp'=>⟨ρ',rp',e⟩
   | bk ρ'=>cases e;exact fun σ' H' rp'=>q σ' H' rp'
   | rt d ρ'=>cases e;exact q⟩
abbrev FI:=Ev->Option (List D×Ev)
def Wks (K:PySem.W.Frag) (P:List (D×V)) (xs:List D) (J:It):Prop:=∀(Y:Cx) (O:Av) (L:List (Option Nat×Addr)) (ρ:Ev) (σ:L2.St) (H:Hp),Y.K=K->Rep Y P O L ρ σ H->
 (∀(i:Nat) (x:D),xs[i]? =some x->J.go i H/\∀v H',J.yld i H v H'->Same H H'/\Den K (AvO O ρ σ) H' x v)/\J.stop xs.length H
def Holds (P P':List (D×V)):Prop:=∀p∈P',p∈P
theorem Rep.holds {P P':List (D×V)}{O:Av}{L:List (Option Nat×Addr)}{ρ:Ev}{σ:L2.St}{H:Hp}(r:Rep X P O L ρ σ H)(h:Holds P P'):Rep X P' O L ρ σ H:=⟨r.same,r.amb,r.len,r.slot,r.inj,r.new,r.lnt,r.lnd,fun p hp=>r.prot p (h p hp),r.gvl⟩
def tI (X:Cx) (fi:FI):TI:=fun σ H R=>∃P O L ρ xs ρ',Rep X P O L ρ σ H/\fi ρ=some (xs,ρ')/\∀J H1 P',Rep X P' O L ρ' σ H1->Holds P' P->Wks X.K P' xs J->R J H1
theorem tIe {X:Cx}{fi:FI}{σ:L2.St}{H:Hp}{R:It->Hp->Prop}{C:Prop}(h:tI X fi σ H R)(k:∀P O L ρ xs ρ',Rep X P O L ρ σ H->fi ρ=some (xs,ρ')->(∀J H1 P',Rep X P' O L ρ' σ H1->Holds P' P->Wks X.K P' xs J->R J H1)->C):C:=by
 obtain⟨P,O,L,ρ,w,ρ',r,e,q⟩:=h;exact k P O L ρ w ρ' r e q
structure QI (X:Cx) (tg iter:Expr) (fi:FI):Prop where
 to:PI X tg iter (tI X fi)
theorem PI.weak {tg e:Expr}{t u:TI}(h:PI X tg e t)(w:∀σ H Q,u σ H Q->t σ H Q):PI X tg e u:=fun pins s σ H Q I q=>h pins s σ H Q I (w σ H Q q)
def iSeq (K:PySem.W.Frag) (tl:TE):TI:=fun σ H R=>tl σ H fun x H1=>(∃a,x= .ref a/\(∃xs,SqL K H1 a xs)/\R (Itl K a) H1)\/∃a,x= .ref a/\(∃xs,SqT K H1 a xs)/\R (Itt K a) H1
theorem b1s {tg l:Expr}{tl:TE}(hl:PE X l tl):PI X tg l (iSeq X.K tl):=by
 intro pins s σ H R I h;refine thn (hl pins s σ H _ I h) fun v s1 ⟨x,H1,I1,r1,q1⟩=>?_;rcases q1 with ⟨a,e,⟨xs,hq⟩,q⟩|⟨a,e,⟨xs,hq⟩,q⟩
 ·subst e;cases r1;obtain⟨its,rv,p,hz⟩:=I1.list hq;refine yU p.isList ?_;refine⟨s1.heap.objs.size,[s1.heap.objs.size],_,_,H1,rfl,I1.kept (t':=s1.toks) fun b o e=>zD _ e,a8v a _,⟨_,zS _ rfl,rfl,rfl⟩,fun b hb=>?_,q⟩;have e:b=s1.heap.objs.size:=by simpa using hb
  subst e;exact I1.fpOk (zE _) (I1.hok.fresh (zE _))
 ·subst e;cases r1;obtain⟨its,rv,p,hz⟩:=I1.tuple hq;refine wpAny_pyIter_tuple (show s1.heap.IsTuple a its.toArray from p) ?_;refine⟨s1.heap.objs.size,[s1.heap.objs.size],_,_,H1,rfl,I1.kept (t':=s1.toks) fun b o e=>zD _ e,a6n a _,⟨_,zS _ rfl,rfl,rfl⟩,fun b hb=>?_,q⟩;have e:b=s1.heap.objs.size:=by simpa using hb
  subst e;exact I1.fpOk (zE _) (I1.hok.fresh (zE _))
def fiSeq (f:FX):FI:=fun ρ=>(f ρ).bind fun p=>(takeAll p.2 [p.1.fz]).bind fun q=>match q.1 with
 | [d]=>(items d).map fun xs=>(xs,q.2)
 | _=>none
theorem J5 {tg l:Expr}(hl:QX X l f):QI X tg l (fiSeq f):=⟨PI.weak (b1s hl.to) fun σ H R h0=>tIe h0 fun P O L ρ xs ρ' r e q=>by
 unfold fiSeq at e;obtain⟨⟨w,ρ1⟩,e1,e⟩:=obs e;dsimp only at e;obtain⟨⟨ds,ρ2⟩,e2,e⟩:=obs e;dsimp only at e;split at e
 ·rename_i d;obtain⟨ys,e3,e⟩:=oms e;cases e;refine⟨P,O,L,ρ,w,ρ1,r,e1,fun v H1 H' r1 s1 d1=>?_⟩;obtain⟨r2,l2,_⟩:=n8 (vs:=[v]) (r1.grow s1) e2 ⟨v,[],rfl,d1.fz r1 s1,rfl⟩;obtain⟨v',ev,h'⟩:=denL1 l2;cases ev;have r3:=r2.more (p:=(d,v)) h';have hh:Holds ((d,v)::P) P:=fun p hp=>zI _ hp;cases d with
  | tup zs=>
   cases e3;have z:=h';rw[Den] at z;obtain⟨a,vs,rfl,hq,l⟩:=z;refine .inr ⟨a,rfl,⟨vs,hq⟩,q _ H' _ r3 hh fun Y O' L' ρ' σ' Hh hY rr=>?_⟩;have z:=rr.head;rw[hY] at z;rw[Den] at z;obtain⟨a',vs,ea,hq,l⟩:=z;cases ea;refine⟨fun i x ex=>?_,vs,hq,by rw[<-c6 l];exact zE _⟩
   obtain⟨v0,hv,dv⟩:=z6 l ex;exact⟨⟨vs,v0,hq,hv⟩,fun w H' ⟨y1,y2⟩=>by subst y1;have:=y2 vs hq;rw[hv] at this;cases this;exact⟨Same.refl _,dv⟩⟩
  | lst zs=>
   cases e3;obtain⟨a,vs,rfl,hq,l⟩:=F2 h';refine .inl ⟨a,rfl,⟨vs,hq⟩,q _ H' _ r3 hh fun Y O' L' ρ' σ' Hh hY rr=>?_⟩;have z:=rr.head;rw[hY] at z;obtain⟨a',vs,ea,hq,l⟩:=F2 z;cases ea;refine⟨fun i x ex=>?_,vs,hq,by rw[<-c6 l];exact zE _⟩
   obtain⟨v0,hv,dv⟩:=z6 l ex;exact⟨⟨vs,v0,hq,hv⟩,fun w H' ⟨y1,y2⟩=>by subst y1;have:=y2 vs hq;rw[hv] at this;cases this;exact⟨Same.refl _,dv⟩⟩
  | _=>cases e3
 ·cases e⟩
def rngD (lo:Int) (n:Nat):List D:=(List.range n).map fun(i:Nat)=>D.int (lo+i)
theorem a3D {K:PySem.W.Frag}{P:List (D×V)}(lo:Int)(n:Nat):Wks K P (rngD lo n) (Itr lo n):=fun Y O L ρ σ H _ _=>by
 unfold rngD;refine⟨fun i x ex=>?_,by show(List.length _)≥n;simp⟩
 rw[zV] at ex
 by_cases hi:i<n
 ·rw[jU hi] at ex;cases ex;exact⟨hi,fun v H' ⟨y1,y2⟩=>by subst y1;exact⟨Same.refl _,u5.mpr y2⟩⟩
 ·rw[jA (by simpa using hi)] at ex;cases ex
def fiR1 (fa:FA):FI:=fun ρ=>(fa ρ).bind fun p=>match p.1 with
 | [.v (.int n)]=>if -(2^62)<=n/\n<2^62 then some (rngD 0 n.toNat,p.2) else none
 | _=>none
theorem K1 {tg:Expr}{p:Pos}(hm:X.mg "range"=none)(ha:QA X [a] fa)(hg:Gl X "range":=by rfl)(hs:starEach [a] X.env=[(false,eval a X.env)]:=by rfl):QI X tg (.Call (.Name "range" p) [a] [] pos) (fiR1 fa):=⟨PI.weak (a8e hg hm ha.to hs) fun σ H R h0=>tIe h0 fun P O L ρ xs ρ' r e q=>by
 unfold fiR1 at e;obtain⟨⟨ws,ρ1⟩,e1,e⟩:=obs e;dsimp only at e;split at e
 ·rename_i n;split at e
  ·rename_i hn;cases e;refine⟨P,O,L,ρ,_,_,r,e1,fun vs H1 r1 l1=>?_⟩;obtain⟨v,rs,rfl,h1,l1⟩:=l1;have l1:rs=[]:=l1;have h1:Den X.K (AvO O ρ' σ) H1 (.int n) v:=h1;subst l1;exact⟨n,by rw[u5.mp h1],hn.1,hn.2,q _ H1 P r1 (fun p hp=>hp) (a3D 0 _)⟩
  ·cases e
 ·cases e⟩
def fiR2 (fa:FA):FI:=fun ρ=>(fa ρ).bind fun p=>match p.1 with
 | [.v (.int m),.v (.int n)]=>if(-(2^62)<=m/\m<2^62)/\-(2^62)<=n/\n<2^62 then some (rngD m (n-m).toNat,p.2) else none
 | _=>none
theorem b0w {tg:Expr}{p:Pos}(hm:X.mg "range"=none)(ha:QA X [a,b] fa)(hg:Gl X "range":=by rfl)(hs:starEach [a,b] X.env=[(false,eval a X.env),(false,eval b X.env)]:=by rfl)(hs2:starEach [b] X.env=[(false,eval b X.env)]:=by rfl):QI X tg (.Call (.Name "range" p) [a,b] [] pos) (fiR2 fa):=⟨PI.weak (a8i hg hm ha.to hs hs2) fun σ H R h0=>tIe h0 fun P O L ρ xs ρ' r e q=>by
 unfold fiR2 at e;obtain⟨⟨ws,ρ1⟩,e1,e⟩:=obs e;dsimp only at e;split at e
 ·rename_i m n;split at e
  ·rename_i hn;cases e;refine⟨P,O,L,ρ,_,_,r,e1,fun vs H1 r1 l1=>?_⟩;obtain⟨v,rs,rfl,h1,u,rs',rfl,h2,l1⟩:=l1;have l1:rs'=[]:=l1;have h1:Den X.K (AvO O ρ' σ) H1 (.int m) v:=h1;have h2:Den X.K (AvO O ρ' σ) H1 (.int n) u:=h2;subst l1;exact⟨m,n,by rw[u5.mp h1,u5.mp h2],⟨hn.1.1,hn.1.2,hn.2.1,hn.2.2⟩,q _ H1 P r1 (fun p hp=>hp) (a3D m _)⟩
  ·cases e
 ·cases e⟩
def loopF (b:D->FS):List D->Ev->Option R
 | [],ρ=>some (.nx ρ)
 | x::xs,ρ=>(b x ρ).bind fun r=>match r with
  | .nx ρ'=>loopF b xs ρ'
  | .ct ρ'=>loopF b xs ρ'
  | .bk ρ'=>some (.nx ρ')
  | .rt d ρ'=>some (.rt d ρ')
def turnF (gf:FG) (b:FS):D->FS:=fun x ρ=>(gf x ρ).bind b
def fFor (fi:FI) (gf:FG) (b:FS):FS:=fun ρ=>(fi ρ).bind fun p=>loopF (turnF gf b) p.1 p.2
theorem A7 {tg iter:Expr}{fi:FI}{gf:FG}(hp:PassesOwn (model X.prog X.w) X.A X.env X.xe)(hc:X.calm=true)(hi:QI X tg iter fi)(hg:QG X tg gf)(hb:QSs X body F)(hs:∀x,foldedSetIterable iter X.env x=pure x:=by intro _;rfl):
  QS X (.For tg iter body [] pos) (fFor fi gf F):=by
 obtain⟨g,pg,kg⟩:=hg.to;refine⟨PS.weak (b4b hp hc hi.to pg hb.to hs) fun E σ H h0=>tSe h0 fun P O L ρ r rp e q=>?_⟩;unfold fFor at e;obtain⟨⟨xs,ρ1⟩,e1,e⟩:=obs e;dsimp only at e;refine⟨P,O,L,ρ,xs,ρ1,rp,e1,fun J H1 P' r1 hh wk=>?_⟩;refine⟨fun i m σ H=>m=xs.length-i/\i<=xs.length/\∃ρ,Rep X P' O L ρ σ H/\loopF (turnF gf F) (xs.drop i) ρ=some r,⟨xs.length,by simp,jN _,ρ1,r1,by simpa using e⟩,?_⟩
 rintro i m σ H ⟨rfl,hi,ρ,rp,e⟩;obtain⟨wi,ws⟩:=wk X O L ρ σ H rfl rp
 by_cases hlt:i<xs.length
 ·obtain⟨go,yl⟩:=wi i xs[i] (by simp[hlt])
  refine .inr ⟨go,fun σ' H'=>∃ρ,Rep X P' O L ρ σ' H'/\loopF (turnF gf F) (xs.drop (i+1)) ρ=some r,fun σ' H' h=>⟨xs.length-(i+1),by omega,rfl,hlt,h⟩,fun v H' y=>?_⟩
  obtain⟨sm,dv⟩:=yl v H' y;rw[xZ hlt,loopF] at e;cases e1:turnF gf F xs[i] ρ with
  | none=>rw[e1] at e;cases e
  | some r1=>
   rw[e1] at e;simp only[bind_some] at e;unfold turnF at e1;obtain⟨ρ1,e2,e1⟩:=obs e1;refine kg P' O L xs[i] v ρ ρ1 σ _ _ (rp.grow sm) dv e2 fun σ' H2 rp'=>⟨P',O,L,ρ1,r1,rp',e1,?_⟩;cases r1 with
   | nx ρ2=>exact fun σ2 H2 rp2=>⟨ρ2,rp2,e⟩
   | ct ρ2=>exact fun σ2 H2 rp2=>⟨ρ2,rp2,e⟩
   | bk ρ2=>cases e;exact fun σ2 H2 rp2=>q σ2 H2 (rp2.holds hh)
   | rt d ρ2=>cases e;exact q
 ·have ei:i=xs.length:=by omega
  subst ei;rw[List.drop_length,loopF] at e;cases e;exact .inl ⟨ws,q σ H (rp.holds hh)⟩
end
def spF (K:PySem.W.Frag) (g:List D->Option W):Sp:=fun vs H Q _=>∃(A:Av) (ds:List D) (w:W),(∀b,A b->∃o,H b=some o)/\DenL K A H ds vs/\g ds=some w/\∀v H',Same H H'->DenW K A [] H H' w v->Q v H'
def spL (K:PySem.W.Frag) (g:D->List D->Option (W×D)):Sp:=fun vs H Q _=>∃(A:Av) (a:Addr) (c:D) (ds:List D) (us:List V) (w:W) (c':D),vs= .ref a::us/\(∀b,A b->∃o,H b=some o)/\¬A a/\Obj K (fun b=>A b\/b=a) H a c/\DenL K (fun b=>A b\/b=a) H ds us/\g c ds=some (w,c')/\
 ∀v H',(∀b o,H b=some o->b≠a->H' b=some o)->Obj K (fun b=>A b\/b=a) H' a c'->DenW K (fun b=>A b\/b=a) [] H H' w v->Q v H'
structure FnS (P:Program) (w:World) (K:PySem.W.Frag) (mg:Str->Option Value) (base:Heap) (x:Str) (k:Nat) (sp:Sp):Prop where
 ex:∃(f:Addr) (fd:FuncData) (ps:List Str),FnOk P w K mg base CX0 k f fd ps sp/\Binds K fd ps []/\PySem.W.keepIn K (.ref f)=true/\mg x=some (.ref f)
abbrev Fn (P:Program) (w:World) (K:PySem.W.Frag) (mg:Str->Option Value) (base:Heap) (x:Str) (k:Nat) (g:List D->Option W):Prop:=FnS P w K mg base x k (spF K g)
abbrev FnL (P:Program) (w:World) (K:PySem.W.Frag) (mg:Str->Option Value) (base:Heap) (x:Str) (k:Nat) (g:D->List D->Option (W×D)):Prop:=FnS P w K mg base x k (spL K g)
section
variable {P:Program}{w:World}{K:PySem.W.Frag}{mg:Str->Option Value}{base:Heap}{x:Str}{j k:Nat}
theorem FnS.mono {sp:Sp}(F:FnS P w K mg base x j sp)(h:j<=k):FnS P w K mg base x k sp:=by
 obtain⟨f,fd,ps,a,b,c,d⟩:=F.ex;exact⟨f,fd,ps,a.mono h,b,c,d⟩
end
def lfC:D->Bool
 | .lst xs=>lfL xs
 | .dT _ xs=>lfL xs
 | .dK _ xs=>lfL xs
 | _=>false
def lfW:W->Bool
 | .v d=>lf d
 | .o d=>lfC d
 | _=>false
def frzL:List W->Ev->Option Ev
 | [],ρ=>some ρ
 | .r i::ws,ρ=>(frzAt ρ i).bind (frzL ws)
 | _::ws,ρ=>frzL ws ρ
def fDef (g:List D->Option W) (fa:FA):FX:=fun ρ=>(fa ρ).bind fun p=>(drs p.2 p.1).bind fun ds=>(g ds).bind fun w=>if lfW w=true then some (w,p.2) else(frzL p.1 p.2).map fun ρ2=>(w,ρ2)
def noR (i:Nat):List W->Bool
 | []=>true
 | .r j::ws=>i != j&&noR i ws
 | _::ws=>noR i ws
def fDefL (g:D->List D->Option (W×D)) (fa:FA):FX:=fun ρ=>(fa ρ).bind fun p=>match p.1 with
 | .r i::ws=>(ownAt p.2 i).bind fun c=>(drs p.2 ws).bind fun ds=>(g c ds).bind fun z=>if noR i ws=true/\lfC z.2=true then(if lfW z.1=true then some (z.1,setOwn p.2 i z.2) else(frzL ws (setOwn p.2 i z.2)).map fun ρ2=>(z.1,ρ2)) else none
 | _=>none
section
variable {K:PySem.W.Frag}{A A':Av}{H H':Hp}
theorem S9 (g:∀b o,H b=some o->¬Mu o->H' b=some o){a:Addr}{d:D}(f:lfC d=true)(hk:H' a=H a)(h:Obj K A H a d):Obj K A' H' a d:=by
 cases d with
 | lst xs=>obtain⟨vs,e,l⟩:=h;exact⟨vs,hk.trans e,a0G g _ _ f l⟩
 | dT ks xs=>obtain⟨vs,e,hl,l⟩:=h;exact⟨vs,hk.trans e,hl,a0G g _ _ f l⟩
 | dK ks xs=>obtain⟨vs,e,hl,l⟩:=h;exact⟨vs,hk.trans e,hl,a0G g _ _ f l⟩
 | _=>exact h.elim
end
section
variable {X:Cx}{P:List (D×V)}{O:Av}{L:List (Option Nat×Addr)}{ρ ρ':Ev}{σ:L2.St}{H:Hp}
theorem Q0:∀{ws:List W} {ρ ρ':Ev},Rep X P O L ρ σ H->frzL ws ρ=some ρ'->Rep X P O L ρ' σ H/\∀(j:Nat) (w:W) (d:D),ρ'[j]? =some (some w)->w.own=some d->ρ[j]? =some (some w)/\W.r j∉ws
 | [],ρ,ρ',r,e=>by cases e;exact⟨r,fun j w d e1 _=>⟨e1,by simp⟩⟩
 | .r i::ws,ρ,ρ',r,e=>by
  rw[frzL] at e;obtain⟨ρ1,e1,e⟩:=obs e;obtain⟨r1,k1⟩:=r.frz e1;obtain⟨r2,k2⟩:=Q0 r1 e;refine⟨r2,fun j w d e1 e2=>?_⟩;obtain⟨a1,a2⟩:=k2 j w d e1 e2;obtain⟨b1,b2⟩:=k1 j w d a1 e2;exact⟨b1,fun z=>(zX.mp z).elim (fun z=>by cases z;exact b2 rfl) a2⟩
 | .v _::ws,ρ,ρ',r,e=>by
  obtain⟨r2,k2⟩:=Q0 (ws:=ws) r e;exact⟨r2,fun j w d e1 e2=>⟨(k2 j w d e1 e2).1,fun z=>(zX.mp z).elim (fun z=>by cases z) (k2 j w d e1 e2).2⟩⟩
 | .o _::ws,ρ,ρ',r,e=>by
  obtain⟨r2,k2⟩:=Q0 (ws:=ws) r e;exact⟨r2,fun j w d e1 e2=>⟨(k2 j w d e1 e2).1,fun z=>(zX.mp z).elim (fun z=>by cases z) (k2 j w d e1 e2).2⟩⟩
 | .l _::ws,ρ,ρ',r,e=>by
  obtain⟨r2,k2⟩:=Q0 (ws:=ws) r e;exact⟨r2,fun j w d e1 e2=>⟨(k2 j w d e1 e2).1,fun z=>(zX.mp z).elim (fun z=>by cases z) (k2 j w d e1 e2).2⟩⟩
def Handed (ρ:Ev) (σ:L2.St) (ws:List W) (b:Addr):Prop:=∃(i:Nat) (w:W) (d:D),W.r i∈ws/\ρ[i]? =some (some w)/\w.own=some d/\σ[i]? =some (some (V.ref b))
theorem a1s {B:Av}(r:Rep X P O L ρ σ H)(hB:∀b,B b->AvO O ρ σ b):∀{ws:List W} {ds:List D} {vs:List V},(∀b,B b->¬Handed ρ σ ws b)->drs ρ ws=some ds->DenA X.K (AvO O ρ σ) σ H ws vs->DenL X.K B H ds vs
 | [],ds,vs,n,e,h=>by cases e;have h:vs=[]:=h;subst h;exact k5
 | w::ws,ds,vs,n,e,h=>by
  obtain⟨v,rs,rfl,h1,h2⟩:=h;rw[drs] at e;cases e1:dr ρ w with
  | none=>rw[e1] at e;cases e
  | some d=>
   cases e2:drs ρ ws with
   | none=>rw[e1,e2] at e;cases e
   | some dd=>
    rw[e1,e2] at e;cases e;refine j8 ?_ (a1s r hB (fun b z y=>n b z (let ⟨i,w,d,m,q⟩:=y;⟨i,w,d,zI _ m,q⟩)) e2 h2);cases w with
    | v c=>cases e1;exact u9 (A3 hB) _ _ h1
    | r i=>
     have h1:σ[i]? =some (some v):=h1;rw[dr] at e1;cases q:ρ[i]? with
     | none=>rw[q] at e1;cases e1
     | some o=>
      rw[q] at e1;cases o with
      | none=>cases e1
      | some w'=>
       cases w' with
       | v c=>
        cases e1;obtain⟨u,q1,q2⟩:=r.slot i _ q;rw[h1] at q1;cases q1;exact u9 (A3 hB) _ _ q2
       | _=>
        obtain⟨a,q1,q2⟩:=r.obj q e1;rw[h1] at q1;cases q1;exact a0y (A2 (A3 hB) rfl q2) fun z=>n a z ⟨i,_,d,zJ,q,e1,h1⟩
    | _=>cases e1
theorem Z4 {ws:List W}(r:Rep X P O L ρ σ H)(k:∀(j:Nat) (w:W) (d:D),ρ'[j]? =some (some w)->w.own=some d->ρ[j]? =some (some w)/\W.r j∉ws){b:Addr}(z:AvO O ρ' σ b):AvO O ρ σ b/\¬Handed ρ σ ws b:=by
 refine⟨z.imp id fun⟨j,w,d,e1,e2,e3⟩=>⟨j,w,d,(k j w d e1 e2).1,e2,e3⟩,fun⟨i,w,d,m,q1,q2,q3⟩=>?_⟩;rcases z with z|⟨j,w',d',e1,e2,e3⟩
 ·exact r.ambN z ⟨i,w,d,q1,q2,q3⟩
 ·obtain⟨a1,a2⟩:=k j w' d' e1 e2
  have:=r.inj i j w w' d d' b q1 q2 q3 a1 e2 e3
  subst this;exact a2 m
end
section
variable {X:Cx}{e:Expr}{es:List Expr}{pos p:Pos}{fa:FA}{x:Str}{k:Nat}
theorem n9 {g:List D->Option W}(F:Fn X.prog X.w X.K X.mg X.base x k g)(hr:Room k X.A)(ha:QA X (e::es) fa)(hg:Gl X x:=by rfl)(hdb:(x==("__debug__":Str))=false:=by decide)
  (he:starEach (e::es) X.env=(false,eval e X.env)::starEach es X.env:=by rfl) (hpl:(backTo pos (starEach es X.env)).any (·.1)=false:=by rfl):QX X (.Call (.Name x p) (e::es) [] pos) (fDef g fa):=by
 obtain⟨f,fd,ps,F,b,kp,hm⟩:=F.ex;refine⟨PE.weak (a6V F hr hg hm kp b .nil pass0 ha.to hdb he hpl) fun σ H Q h0=>tXe h0 fun P O L ρ w ρ' r e q=>?_⟩;unfold fDef at e;obtain⟨⟨ws,ρ1⟩,e1,e⟩:=obs e;dsimp only at e;cases e2:drs ρ1 ws with
 | none=>rw[e2] at e;cases e
 | some ds=>
  rw[e2] at e;simp only[bind_some] at e;cases e3:g ds with
  | none=>rw[e3] at e;cases e
  | some w1=>
   rw[e3] at e;simp only[bind_some] at e;refine⟨P,O,L,ρ,ws,ρ1,r,e1,fun vs H1 r1 l1=>?_⟩;refine⟨fun b=>AvO O ρ1 σ b/\¬Handed ρ1 σ ws b,ds,w1,fun b z=>r1.there z.1,by rw[xD];exact a1s r1 (fun b z=>z.1) (fun b z=>z.2) e2 l1,e3,fun v H2 s2 d2=>?_⟩
   split at e
   ·rename_i hl;cases e;refine q v H1 H2 r1 s2 ?_;cases w with
    | v d=>exact a32 (fun _ _ e _=>e) _ _ hl d2
    | o d=>obtain⟨a,ev,hn,ob⟩:=d2;exact⟨a,ev,hn,S9 (fun _ _ e _=>e) hl rfl ob⟩
    | _=>cases hl
   ·obtain⟨ρ2,e4,e⟩:=oms e;cases e;obtain⟨r2,k2⟩:=Q0 r1 e4;refine q v H1 H2 r2 s2 ?_;have sub:=fun b (z:AvO O ρ' σ b)=>Z4 r1 k2 z;cases w with
    | v d=>exact u9 (A3 sub) _ _ d2
    | o d=>obtain⟨a,ev,hn,ob⟩:=d2;exact⟨a,ev,hn,A2 (A3 fun b z=>z.imp (sub b) id) rfl ob⟩
    | r i=>exact absurd d2 (by simp[DenW])
    | l d=>exact d2.elim
theorem X4 {i:Nat}:∀{ws:List W},noR i ws=true->W.r i∉ws
 | [],_=>by simp
 | .r j::ws,h=>by
  rw[noR,jJ] at h;exact fun z=>(zX.mp z).elim (fun z=>by cases z;simp at h) (X4 h.2)
 | .v _::ws,h=>fun z=>(zX.mp z).elim (fun z=>by cases z) (X4 (ws:=ws) h)
 | .o _::ws,h=>fun z=>(zX.mp z).elim (fun z=>by cases z) (X4 (ws:=ws) h)
 | .l _::ws,h=>fun z=>(zX.mp z).elim (fun z=>by cases z) (X4 (ws:=ws) h)
theorem l7 {g:D->List D->Option (W×D)}(F:FnL X.prog X.w X.K X.mg X.base x k g)(hr:Room k X.A)(ha:QA X (e::es) fa)(hg:Gl X x:=by rfl)(hdb:(x==("__debug__":Str))=false:=by decide)
  (he:starEach (e::es) X.env=(false,eval e X.env)::starEach es X.env:=by rfl) (hpl:(backTo pos (starEach es X.env)).any (·.1)=false:=by rfl):QX X (.Call (.Name x p) (e::es) [] pos) (fDefL g fa):=by
 obtain⟨f,fd,ps,F,b,kp,hm⟩:=F.ex;refine⟨PE.weak (a6V F hr hg hm kp b .nil pass0 ha.to hdb he hpl) fun σ H Q h0=>tXe h0 fun P O L ρ w ρ' r e q=>?_⟩;unfold fDefL at e;obtain⟨⟨ws0,ρ1⟩,e1,e⟩:=obs e;dsimp only at e;split at e
 ·rename_i i ws;cases e0:ownAt ρ1 i with
  | none=>rw[e0] at e;cases e
  | some c=>
   rw[e0] at e;simp only[bind_some] at e;cases e2:drs ρ1 ws with
   | none=>rw[e2] at e;cases e
   | some ds=>
    rw[e2] at e;simp only[bind_some] at e;obtain⟨⟨w1,c'⟩,e3,e⟩:=obs e;dsimp only at e;split at e
    ·rename_i hc;refine⟨P,O,L,ρ,_,ρ1,r,e1,fun vs H1 r1 l1=>?_⟩;obtain⟨v0,us,rfl,h0,l1⟩:=l1;have h0:σ[i]? =some (some v0):=h0;obtain⟨w0,q0,ow⟩:=w6 e0;obtain⟨a,h1,ob⟩:=r1.obj q0 ow;rw[h0] at h1;cases h1;have ia:Ow ρ1 σ a:=⟨i,w0,c,q0,ow,h0⟩;have nh:¬Handed ρ1 σ ws a:=fun⟨j,w',d',m,q1,q2,q3⟩=>by
      have:=r1.inj i j w0 w' c d' a q0 ow h0 q1 q2 q3
      subst this;exact X4 hc.1 m
     have sub:∀b,((AvO O ρ1 σ b/\b≠a/\¬Handed ρ1 σ ws b)\/b=a)->AvO O ρ1 σ b:=fun b z=>z.elim (·.1) fun z=>by rw[z];exact .inr ia
     refine⟨fun b=>AvO O ρ1 σ b/\b≠a/\¬Handed ρ1 σ ws b,a,c,ds,us,w1,c',by rw[xD],fun b z=>r1.there z.1,fun z=>z.2.1 rfl,A2 (A3 sub) rfl ob,
      a1s r1 sub (fun b z=>z.elim (·.2.2) fun z=>by rw[z];exact nh) e2 l1,e3,fun v H2 k2 o2 d2=>?_⟩
     have main:∃Hx,Same Hx H2/\Rep X P O L (setOwn ρ1 i c') σ Hx/\∀A':Av,((∀b,A' b->((AvO O ρ1 σ b/\b≠a/\¬Handed ρ1 σ ws b)\/b=a))\/lfW w1=true)->DenW X.K A' σ Hx H2 w1 v:=by
      cases w1 with
      | v d=>
       refine⟨H2,Same.refl _,r1.mut e0 h0 k2 (S9 (fun _ _ e _=>e) hc.2 rfl o2),fun A' h=>?_⟩;rcases h with h|h
       ·exact u9 (A3 h) _ _ d2
       ·exact a32 (fun _ _ e _=>e) _ _ h d2
      | o d=>
       obtain⟨ar,ev,hn,obr⟩:=d2;obtain⟨u0,eu0,_⟩:=F0 ob;obtain⟨ur,eur,mur⟩:=F0 obr;have na:a≠ar:=fun z=>by rw[z,hn] at eu0;cases eu0
       refine⟨fun b=>if b=ar then none else H2 b,fun b o eb=>?_,r1.mut e0 h0 (fun b o eb nb=>?_) (S9 (fun b o eb nm=>?_) hc.2 (if_neg na) o2),fun A' h=>⟨ar,ev,if_pos rfl,?_⟩⟩
       ·dsimp only at eb;split at eb
        ·cases eb
        ·exact eb
       ·have:b≠ar:=fun z=>by rw[z,hn] at eb;cases eb
        show(if b=ar then none else H2 b)=some o;rw[if_neg this];exact k2 b o eb nb
       ·have:b≠ar:=fun z=>by rw[z,eur] at eb;cases eb;exact nm mur
        show(if b=ar then none else H2 b)=some o;rw[if_neg this];exact eb
       ·rcases h with h|h
        ·exact A2 (A3 fun b z=>z.imp (h b) id) rfl obr
        ·exact S9 (fun _ _ e _=>e) h rfl obr
      | r i=>exact absurd d2 (by simp[DenW])
      | l d=>exact d2.elim
     obtain⟨Hx,sx,rx,dx⟩:=main;split at e
     ·rename_i hl;cases e;exact q v Hx H2 rx sx (dx _ (.inr hl))
     ·obtain⟨ρ2,e4,e⟩:=oms e;cases e;obtain⟨r2,k3⟩:=Q0 rx e4;refine q v Hx H2 r2 sx (dx _ (.inl fun b z=>?_));obtain⟨z1,z2⟩:=Z4 rx k3 z
      by_cases hb:b=a
      ·exact .inr hb
      ·refine .inl ⟨z1.imp id fun z=>(X2 e0 b).mp z,hb,fun⟨j,w',d',m,q1,q2,q3⟩=>z2 ?_⟩;have hj:i≠j:=fun z=>by subst z;exact X4 hc.1 m
       obtain⟨w2,_,es,_⟩:=a0s (d:=c') e0;exact⟨j,w',d',m,by rw[es,zR hj];exact q1,q2,q3⟩
    ·cases e
 ·cases e
end
def start0 (n:Nat) (ds:List D):Ev:=ds.map (fun d=>some (.v d))++List.replicate (n-ds.length) none
def runD (np n:Nat) (G:FS):List D->Option W:=fun ds=>if ds.length=np then match G (start0 n ds) with
 | some (.rt w _)=>some w
 | some (.nx _)=>some (.v .non)
 | _=>none else none
def runL (np n:Nat) (G:FS):D->List D->Option (W×D):=fun c ds=>if ds.length+1=np then match G (some (.l c)::start0 (n-1) ds) with
 | some (.rt w ρ)=>(ownAt ρ 0).map fun c'=>(w,c')
 | some (.nx ρ)=>(ownAt ρ 0).map fun c'=>(.v .non,c')
 | _=>none else none
section
variable {P:Program}{w:World}{K:PySem.W.Frag}{mg:Str->Option Value}{base:Heap}
theorem B5 {n i:Nat}{ds:List D}{w:W}(e:(start0 n ds)[i]? =some (some w)):∃d,ds[i]? =some d/\w= .v d:=by
 unfold start0 at e
 by_cases hi:i<ds.length
 ·rw[qM (by simpa using hi),zV] at e
  cases q:ds[i]? with
  | none=>rw[q] at e;cases e
  | some d0=>rw[q] at e;cases e;exact⟨d0,rfl,rfl⟩
 ·rw[qR (by simpa using hi),yI] at e
  split at e<;>cases e
theorem a3h {X:Cx}{ds:List D}{vs:List V}{n:Nat}{N:List Str}{H:Hp}{A:Av}(hH:X.H₀=H)(hN:N.length=n)(hA:∀b,A b->∃o,H b=some o)(l:DenL X.K A H ds vs):Rep X [] A [] (start0 n ds) (start N vs) H where
 same:=fun b o e _=>by rw[<-hH];exact e
 amb:=fun b z=>by rw[hH];exact⟨hA b z,fun i=>by simp⟩
 len:=by unfold start0 L2.start;simp[c6 l,hN]
 slot:=fun i w e=>by
  obtain⟨d,q,rfl⟩:=B5 e;obtain⟨v,h1,h2⟩:=z6 l q;refine⟨v,?_,u9 (A3 fun b z=>?_) _ _ h2⟩
  ·unfold L2.start;rw[qM (by have:=(zG.mp h1).1;simpa using this),zV,h1];rfl
  ·rcases z with z|⟨j,w,c,e1,e2,e3⟩
   ·exact z
   ·obtain⟨d',q',rfl⟩:=B5 e1;cases e2
 inj:=fun i j w w' d d' b e1 e2=>by obtain⟨_,_,rfl⟩:=B5 e1;cases e2
 new:=fun i d b e=>by obtain⟨_,_,z⟩:=B5 e;cases z
 lnt:=fun i d e=>by obtain⟨_,_,z⟩:=B5 e;cases z
 lnd:=fun i b e=>by simp at e
 prot:=fun p hp=>by cases hp
 gvl:=fun b e=>by simp at e
theorem a6q {X:Cx}{c:D}{a:Addr}{ds:List D}{vs:List V}{n:Nat}{N:List Str}{H:Hp}{A:Av}(hH:X.H₀=H)(hN:N.length=n+1)(hA:∀b,A b->∃o,H b=some o)(hn:¬A a)(ob:Obj X.K (fun b=>A b\/b=a) H a c)(l:DenL X.K (fun b=>A b\/b=a) H ds vs):
  Rep X [] A [(some 0,a)] (some (.l c)::start0 n ds) (start N (.ref a::vs)) H:=by
 have es:start N (.ref a::vs)=some (.ref a)::(vs.map some++List.replicate (n-vs.length) none):=by unfold L2.start;simp[hN]
 have own:∀{i:Nat} {w:W} {d:D},(some (.l c)::start0 n ds)[i]? =some (some w)->w.own=some d->i=0:=fun{i w d} e1 e2=>by
  cases i with
  | zero=>rfl
  | succ i=>rw[jH] at e1;obtain⟨_,_,rfl⟩:=B5 e1;cases e2
 have av:∀b,AvO A (some (.l c)::start0 n ds) (start N (.ref a::vs)) b->A b\/b=a:=fun b z=>z.imp id fun⟨i,w,d,e1,e2,e3⟩=>by
  have:=own e1 e2
  subst this;rw[es] at e3;cases e3;rfl
 refine⟨fun b o e _=>by rw[<-hH];exact e,fun b z=>⟨by rw[hH];exact hA b z,fun i m=>?_⟩,by rw[es];unfold start0;simp[c6 l],fun i w e=>?_,fun i j w w' d d' b e1 e2 _ e3 e4 _=>(own e1 e2).trans (own e3 e4).symm,fun i d b e=>?_,fun i d e=>?_,fun i b e=>?_,(fun p hp=>by cases hp),fun b _=>⟨0,a,zN.mpr rfl⟩⟩
 ·rw[zN] at m;cases m;exact hn z
 ·cases i with
  | zero=>cases e;exact⟨.ref a,by rw[es];rfl,a,rfl,A2 (A3 av) rfl ob⟩
  | succ i=>
   rw[jH] at e;obtain⟨d,q,rfl⟩:=B5 e;obtain⟨v,h1,h2⟩:=z6 l q;refine⟨v,?_,u9 (A3 av) _ _ h2⟩;rw[es,jH,qM (by have:=(zG.mp h1).1;simpa using this),zV,h1];rfl
 ·cases i with
  | zero=>cases e
  | succ i=>rw[jH] at e;obtain⟨_,_,z⟩:=B5 e;cases z
 ·have:=own e rfl
  subst this;exact⟨a,by rw[es];rfl,by simp⟩
 ·rw[zN] at e;cases e;exact⟨c,rfl,by rw[es];rfl⟩
theorem A8 {x:Str}{st:Stmt}{f:Addr}{fd:FuncData}{N ps:List Str}{k np n:Nat}{G:FS}(F:Fun K x x st f fd)(S:FnScope N ps (defScope st))(B:Binds K fd ps [])(hm:mg x=some (.ref f))(hp:ps.length=np)(hn:N.length=n)
  (body:∀(cdv:Value) (A:Around) (outer:List Env) (s:Shared) (H:Hp) (E:XK),Room k (A.deeper (envOfC x (defScope st) s.heap.objs.size f cdv))->
   QSs (cxOf CX0 P w K mg base N x (defScope st) f cdv A outer s H E).nox (defBody st) G):Fn P w K mg base x (k+1) (runD np n G):=by
 refine⟨f,fd,ps,F.ok S (fun vs H Q E h0=>?_) (fun cdv A outer s H vs Q E hr h0=>⟨_,(body cdv A outer s H E hr).to,?_⟩),B,F.kp,hm⟩
 ·obtain⟨A,ds,d,hA,l,e,q⟩:=h0;unfold runD at e;split at e
  ·rename_i hl;rw[<-c6 l,hl,hp]
  ·cases e
 ·obtain⟨A',ds,d,hA,l,e,q⟩:=h0;unfold runD at e;split at e
  ·rename_i hl;cases e1:G (start0 n ds) with
   | none=>rw[e1] at e;cases e
   | some r=>
    rw[e1] at e;refine⟨[],A',[],_,r,a3h rfl hn hA l,e1,?_⟩;have hz:∀{w:W} {v:V} {H':Hp},DenW K (A0 A' []) [] H H' w v->DenW K A' [] H H' w v:=fun{w v H'} h=>by
     have e0:A0 A' []=A':=funext fun b=>propext ⟨fun z=>z.elim id fun⟨i,z⟩=>by simp at z,.inl⟩
     rw[e0] at h;exact h
    cases r with
    | rt w ρ'=>cases e;exact fun v H' s' _ d1=>q v H' (fun b o eb=>s' b o eb fun i=>by simp) (hz d1)
    | nx ρ'=>cases e;exact fun σ' H' rp'=>q .non H' (fun b o eb=>rp'.same b o eb fun i=>by simp) T3
    | bk ρ'=>cases e
    | ct ρ'=>cases e
  ·cases e
theorem a0d {x:Str}{st:Stmt}{f:Addr}{fd:FuncData}{N ps:List Str}{k np n:Nat}{G:FS}(F:Fun K x x st f fd)(S:FnScope N ps (defScope st))(B:Binds K fd ps [])(hm:mg x=some (.ref f))(hp:ps.length=np)(hn:N.length=n+1)
  (body:∀(cdv:Value) (A:Around) (outer:List Env) (s:Shared) (H:Hp) (E:XK),Room k (A.deeper (envOfC x (defScope st) s.heap.objs.size f cdv))->
   QSs (cxOf CX0 P w K mg base N x (defScope st) f cdv A outer s H E).nox (defBody st) G):FnL P w K mg base x (k+1) (runL np (n+1) G):=by
 refine⟨f,fd,ps,F.ok S (fun vs H Q E h0=>?_) (fun cdv A outer s H vs Q E hr h0=>⟨_,(body cdv A outer s H E hr).to,?_⟩),B,F.kp,hm⟩
 ·obtain⟨A,a,c,ds,us,w,c',e0,hA,hna,ob,l,e,q⟩:=h0;unfold runL at e;split at e
  ·rename_i hl;rw[e0,qJ,<-c6 l,hl,hp]
  ·cases e
 ·obtain⟨A',a,c,ds,us,w,c',e0,hA,hna,ob,l,e,q⟩:=h0;subst e0;unfold runL at e;split at e
  ·rename_i hl;rw[Nat.add_sub_cancel] at e;cases e1:G (some (.l c)::start0 n ds) with
   | none=>rw[e1] at e;cases e
   | some r=>
    rw[e1] at e;refine⟨[],A',[(some 0,a)],_,r,a6q rfl hn hA hna ob l,e1,?_⟩;have ea:A0 A' [(some 0,a)]=fun b=>A' b\/b=a:=funext fun b=>propext (or_congr Iff.rfl ⟨fun⟨i,z⟩=>by rw[zN] at z;cases z;rfl,fun z=>⟨0,by rw[z];exact zN.mpr rfl⟩⟩)
    have nl:∀{b:Addr},b≠a->∀i,(i,b)∉[(some 0,a)]:=fun n i z=>by rw[zN] at z;cases z;exact n rfl
    cases r with
    | rt w0 ρ'=>
     refine fun v H' s' ln d1=>?_;obtain⟨c0,h1,h2⟩:=ln 0 a (zN.mpr rfl);simp only[h1,jF] at e;cases e;rw[ea] at h2 d1;exact q v H' (fun b o eb n=>s' b o eb (nl n)) h2 d1
    | nx ρ'=>
     refine fun σ' H' rp'=>?_;obtain⟨c0,h1,h2⟩:=rp'.lents 0 a (zN.mpr rfl);simp only[h1,jF] at e;cases e;rw[ea] at h2;exact q .non H' (fun b o eb n=>rp'.same b o eb (nl n)) h2 T3
    | bk ρ'=>cases e
    | ct ρ'=>cases e
  ·cases e
end
@[elab_as_elim] theorem us1 {α:Type} {C:List α->Prop} {us:List α} (h:us.length=1) (k:∀a,C [a]):C us:=by
 match us,h with
 | [a],_=>exact k a
@[elab_as_elim] theorem us2 {α:Type} {C:List α->Prop} {us:List α} (h:us.length=2) (k:∀a b,C [a,b]):C us:=by
 match us,h with
 | [a,b],_=>exact k a b
@[elab_as_elim] theorem us3 {α:Type} {C:List α->Prop} {us:List α} (h:us.length=3) (k:∀a b c,C [a,b,c]):C us:=by
 match us,h with
 | [a,b,c],_=>exact k a b c
@[elab_as_elim] theorem us5 {α:Type} {C:List α->Prop} {us:List α} (h:us.length=5) (k:∀a b c d e,C [a,b,c,d,e]):C us:=by
 match us,h with
 | [a,b,c,d,e],_=>exact k a b c d e
section
variable {X:Cx}{a b e:Expr}{es:List Expr}{pos:Pos}{f g h:FX}{t u:FT}
theorem a3Y {K:PySem.W.Frag}{A:Av}{H:Hp}{i:Bool}{v:V}(h:DenR K A H (.bl i) v):v= .bl i:=by
 have h:Den K A H (.bl i) v:=h;exact a14.mp h
theorem a2M {K:PySem.W.Frag}{A:Av}{H:Hp}{i:Str}{v:V}(h:DenR K A H (.str i) v):v= .str i:=by
 have h:Den K A H (.str i) v:=h;exact a1V.mp h
theorem a2J {K:PySem.W.Frag}{A:Av}{H:Hp}{v:V}(h:DenR K A H .non v):v= .non:=by
 have h:Den K A H .non v:=h;exact a7l.mp h
def tyD:D->String
 | .non=>"NoneType"
 | .bl _=>"bool"
 | .int _=>"int"
 | .str _=>"str"
 | .tup _=>"tuple"
 | .dT _ _=>"dict"
 | .dK _ _=>"dict"
 | _=>"list"
def isX:D->Bool
 | .exn _=>true
 | _=>false
def isiB (T:String) (d:D):Bool:=tyD d==T||(tyD d == "bool" && T == "int")
def Kit (K:PySem.W.Frag) (T:String):Prop:=∀d:D,PySem.W.kitOne K (.type (tyD d)) (.type T)=some (isiB T d)
theorem Q2 {K:PySem.W.Frag}{T:String}(h:T="int"\/T="bool"\/T="str"\/T="tuple"\/T="list"):Kit K T:=by
 rcases h with h|h|h|h|h<;>subst h<;>intro d<;>cases d<;>rfl
theorem a87 {T:String}(hk:Kit X.K T):CallR X (.builtin "isinstance") (fun xs H Q=>∃x A d,xs=[x,.ty T]/\isX d=false/\DenR X.K A H d x/\Q (.bl (isiB T d)) H):=by
 intro pins s σ H xs us Q I r h;obtain⟨x,A,d,rfl,nx,hd,q⟩:=h;obtain⟨u,w,rfl,ru,rw'⟩:=vals2 r;cases(show w=Value.type T from rw');have e:=hk d;have fin:∀tk,EP X pins σ Q (.bool (isiB T d)) {s with toks:=tk}:=fun tk=>⟨.bl _,H,I.tok _,rfl,q⟩
 cases d with
 | non=>have hd:=a2J hd;subst hd;cases(show u=Value.none from ru);exact xE PySem.W.kitx_none I.kIn True.intro e (fun z=>nomatch z) fin
 | bl y=>have hd:=a3Y hd;subst hd;cases(show u=Value.bool y from ru);exact xE PySem.W.kitx_bool I.kIn True.intro e (fun z=>nomatch z) fin
 | int i=>have hd:=l5 hd;subst hd;obtain⟨t,z⟩:=(show ∃t,u=Value.int i t from ru);cases z;exact xE PySem.W.kitx_int I.kIn True.intro e (fun z=>nomatch z) fin
 | str y=>have hd:=a2M hd;subst hd;obtain⟨t,z⟩:=(show ∃t,u=Value.str y t from ru);cases z;exact xE PySem.W.kitx_str I.kIn True.intro e (fun z=>nomatch z) fin
 | tup ys=>
  have hd:Den X.K A H (.tup ys) x:=hd;rw[Den] at hd;obtain⟨a,vs,rfl,hq,_⟩:=hd;cases(show u=Value.ref a from ru);obtain⟨its,_,p,_⟩:=I.tuple hq;obtain⟨o,h1,h2,_⟩:=p;exact xE PySem.W.kitx_tuple I.kIn ⟨o,h1,h2⟩ e (fun z=>nomatch z) fin
 | lst ys=>
  obtain⟨a,vs,rfl,hq,_⟩:=hd;cases(show u=Value.ref a from ru);obtain⟨its,_,p,_⟩:=I.list hq;obtain⟨o,n,h1,h2,_⟩:=p;exact xE PySem.W.kitx_list I.kIn ⟨o,h1,h2⟩ e (fun z=>nomatch z) fin
 | dK ks ys=>
  obtain⟨a,vs,rfl,hq,_⟩:=hd;cases(show u=Value.ref a from ru);obtain⟨_,_,vs,_,p⟩:=(show ObjOk X.prog X.w H s.heap a (.dK _) from I.hok a _ hq);obtain⟨o,es,h1,h2,_⟩:=p;exact xE PySem.W.kitx_dict I.kIn ⟨o,h1,h2.1⟩ e (fun z=>nomatch z) fin
 | dT ks ys=>
  obtain⟨a,vs,rfl,hq,_⟩:=hd;cases(show u=Value.ref a from ru);obtain⟨_,_,xs,_,o,es,h1,h2,_⟩:=(show ObjOk X.prog X.w H s.heap a (.dT _) from I.hok a _ hq);exact xE PySem.W.kitx_dict I.kIn ⟨o,h1,h2.1⟩ e (fun z=>nomatch z) fin
 | exn C=>cases nx
def oIsi (T:String) (d:D):Option W:=if isX d=true then none else some (.v (.bl (isiB T d)))
theorem Q4 {T:String}{x:Str}{p p2:Pos}(hk:Kit X.K T)(hm:X.mg "isinstance"=none)(hmT:X.mg x=none)(ha:QX X e f)(hT:bootBuiltins x=some (.type T):=by rfl)(hb:bootBuiltins "isinstance"=some (.builtin "isinstance"):=by rfl)(hg:Gl X "isinstance":=by rfl)(hgT:Gl X x:=by rfl)(hn:x≠"__name__":=by decide)(hdb:(x==("__debug__":Str))=false:=by decide)
  (he:starEach [e,.Name x p2] X.env=(false,eval e X.env)::starEach [.Name x p2] X.env:=by rfl) (hpl:(backTo pos (starEach [.Name x p2] X.env)).any (·.1)=false:=by rfl) (hs:starEach [.Name x p2] X.env=(false,eval (.Name x p2) X.env)::starEach [] X.env:=by rfl):QX X (.Call (.Name "isinstance" p) [e,.Name x p2] [] pos) (fUn (oIsi T) f):=
 ⟨PE.weak (a19 (a87 hk) hg hm hb (K2 ha.to (K2 (b1V (v:=.ty T) hgT hmT hT rfl hn hdb) a2t hs) he) (by decide) (by decide) he hpl) fun σ H Q h=>
  a6X (r:=fun v H Q=>∃x A d,[v,V.ty T]=[x,.ty T]/\isX d=false/\DenR X.K A H d x/\Q (.bl (isiB T d)) H) (fun A x w v H Q _ e hx q=>by
   unfold oIsi at e;split at e
   ·cases e
   ·rename_i nx;cases e;exact⟨v,A,x,rfl,by simpa using nx,hx,q _ H (Same.refl H) C6⟩) σ H Q h⟩
def isD:D->D->Option Bool
 | .non,.non=>some true
 | d,.non=>some false
 | .bl a,.bl b=>some (a==b)
 | _,.bl _=>some false
 | _,_=>none
theorem is_of {M:Model}{A:Around}{E:Value->Shared->Prop}{s:Shared}{x y:Value}{k:Bool}{Q:Value->Shared->Prop}(h:isSame x y=pure k)(q:Q (.bool k) s):wpAny M A (compareOp .Is x y) Q E s:=by
 show wpAny M A (isSame x y >>=fun b=>pure (Value.bool b)) Q E s;rw[h];exact zB q
theorem a9m {M:Model}{A:Around}{E:Value->Shared->Prop}{s:Shared}{x y:Value}{k:Bool}{Q:Value->Shared->Prop}(h:isSame x y=pure k)(q:Q (.bool (!k)) s):wpAny M A (compareOp .IsNot x y) Q E s:=by
 show wpAny M A (isSame x y >>=fun b=>pure (Value.bool (!b))) Q E s;rw[h];exact zB q
theorem b0J {K:PySem.W.Frag}{A:Av}{H:Hp}{x:D}{v:V}{vv:Value}(hx:DenR K A H x v)(rx:RelV v vv):(x= .non/\vv= .none)\/(∃b,x= .bl b/\vv= .bool b)\/(∃i t,x= .int i/\vv= .int i t)\/(∃y t,x= .str y/\vv= .str y t)\/((∀b,x≠.bl b)/\x≠.non/\∃a,v= .ref a/\vv= .ref a):=by
 cases x with
 | non=>have h:=a2J hx;subst h;exact .inl ⟨rfl,rx⟩
 | bl b=>have h:=a3Y hx;subst h;exact .inr (.inl ⟨b,rfl,rx⟩)
 | int i=>have h:=l5 hx;subst h;obtain⟨t,e⟩:=(show ∃t,vv=Value.int i t from rx);exact .inr (.inr (.inl ⟨i,t,rfl,e⟩))
 | str i=>have h:=a2M hx;subst h;obtain⟨t,e⟩:=(show ∃t,vv=Value.str i t from rx);exact .inr (.inr (.inr (.inl ⟨i,t,rfl,e⟩)))
 | tup xs=>
  have hx:Den K A H (.tup xs) v:=hx;rw[Den] at hx;obtain⟨a,vs,rfl,_⟩:=hx;exact .inr (.inr (.inr (.inr ⟨nofun,nofun,a,rfl,rx⟩)))
 | lst xs=>obtain⟨a,vs,rfl,_⟩:=hx;exact .inr (.inr (.inr (.inr ⟨nofun,nofun,a,rfl,rx⟩)))
 | dT ks xs=>obtain⟨a,vs,rfl,_⟩:=hx;exact .inr (.inr (.inr (.inr ⟨nofun,nofun,a,rfl,rx⟩)))
 | dK ks xs=>obtain⟨a,vs,rfl,_⟩:=hx;exact .inr (.inr (.inr (.inr ⟨nofun,nofun,a,rfl,rx⟩)))
 | exn C=>
  have hx:Den K A H (.exn C) v:=hx;rw[Den] at hx;obtain⟨a,rfl,_⟩:=hx;exact .inr (.inr (.inr (.inr ⟨nofun,nofun,a,rfl,rx⟩)))
theorem a6Z {K:PySem.W.Frag}{A:Av}{H:Hp}{x y:D}{v u:V}{vv uu:Value}{k:Bool}(e:isD x y=some k)(hx:DenR K A H x v)(hy:DenR K A H y u)(rx:RelV v vv)(ry:RelV u uu):isSame vv uu=pure k:=by
 cases y with
 | non=>
  have hy:=a2J hy;subst hy;cases(show uu=Value.none from ry);rw[PySem.isSame_none];rcases b0J hx rx with ⟨rfl,rfl⟩|⟨b,rfl,rfl⟩|⟨i,t,rfl,rfl⟩|⟨i,t,rfl,rfl⟩|⟨n1,n2,a,rfl,rfl⟩
  ·cases e;rfl
  ·cases e;rfl
  ·cases e;rfl
  ·cases e;rfl
  ·cases x<;>simp only[isD] at e<;>first|(cases e;rfl)|exact absurd rfl n2
 | bl q=>
  have hy:=a3Y hy;subst hy;cases(show uu=Value.bool q from ry);rcases b0J hx rx with ⟨rfl,rfl⟩|⟨b,rfl,rfl⟩|⟨i,t,rfl,rfl⟩|⟨i,t,rfl,rfl⟩|⟨n1,n2,a,rfl,rfl⟩
  ·cases e;rfl
  ·cases e;cases b<;>cases q<;>rfl
  ·cases e;rfl
  ·cases e;rfl
  ·cases x<;>simp only[isD] at e<;>first|(cases e;rfl)|exact absurd rfl (n1 _)
 | _=>cases x<;>simp only[isD] at e<;>cases e
def rD2 (K:PySem.W.Frag) (t:D->D->Option Bool) (neg:Bool):R2:=fun v u H Q=>∃A x y k,t x y=some k/\DenR K A H x v/\DenR K A H y u/\Q (.bl (if neg then !k else k)) H
def oD2 (t:D->D->Option Bool) (neg:Bool) (x y:D):Option W:=(t x y).map fun k=>.v (.bl (if neg then !k else k))
theorem kD2 {t:D->D->Option Bool}{neg:Bool}:Pr2 X (oD2 t neg) (rD2 X.K t neg):=by
 intro A x y w v u H Q _ e hx hy q;unfold oD2 at e;cases e1:t x y with
 | none=>rw[e1] at e;cases e
 | some k=>rw[e1] at e;cases e;exact⟨A,x,y,k,e1,hx,hy,q _ H (Same.refl H) C6⟩
theorem b3S:OpR X (compareOp .Is) (rD2 X.K isD false):=by
 intro pins s σ H x y v u Q I rx ry ⟨A,dx,dy,k,e,hx,hy,q⟩;exact is_of (a6Z e hx hy rx ry) ⟨.bl k,H,I,rfl,q⟩
theorem a8O:OpR X (compareOp .IsNot) (rD2 X.K isD true):=by
 intro pins s σ H x y v u Q I rx ry ⟨A,dx,dy,k,e,hx,hy,q⟩;exact a9m (a6Z e hx hy rx ry) ⟨.bl (!k),H,I,rfl,q⟩
theorem a9e (ha:QX X a f)(hb:QX X b g):QT X (.Compare a [.Is] [b] pos) (fTest (fBin (oD2 isD false) f g)):=Q7 b3S kD2 ha hb
theorem a4N (ha:QX X a f)(hb:QX X b g):QT X (.Compare a [.IsNot] [b] pos) (fTest (fBin (oD2 isD true) f g)):=Q7 a8O kD2 ha hb
def flatE:D->D->Option Bool
 | .non,.non=>some true
 | .non,.int _=>some false
 | .int _,.non=>some false
 | .bl a,.bl b=>some (a==b)
 | .bl a,.int b=>some ((if a then 1 else 0)==b)
 | .int a,.bl b=>some (a==(if b then 1 else 0))
 | .int a,.int b=>some (a==b)
 | .str a,.str b=>some (a==b)
 | _,_=>none
def deqL (eq:D->D->Option Bool):List D->List D->Option Bool
 | [],[]=>some true
 | [],_::_=>some false
 | _::_,[]=>some false
 | x::xs,y::ys=>(eq x y).bind fun p=>(deqL eq xs ys).map fun q=>p&&q
def deq:Nat->D->D->Option Bool
 | 0,x,y=>flatE x y
 | n+1,.tup xs,.tup ys=>deqL (deq n) xs ys
 | n+1,.lst xs,.lst ys=>deqL (deq n) xs ys
 | _+1,x,y=>flatE x y
theorem a7F {K:PySem.W.Frag}{A:Av}{H:Hp}{x y:D}{v u:V}{k:Bool}(e:flatE x y=some k)(hx:DenR K A H x v)(hy:DenR K A H y u):Den K A H x v/\Den K A H y u:=by
 cases x<;>cases y<;>simp only[flatE] at e<;>cases e<;>exact⟨hx,hy⟩
theorem a3f {K:PySem.W.Frag}{O:Av}{H:Hp}{A:Around}{s:Shared}{x y:D}{v u:V}{vv uu:Value}{k:Bool}(e:flatE x y=some k)(hx:DenR K O H x v)(hy:DenR K O H y u)(rx:RelV v vv)(ry:RelV u uu):SeqAt.EqAt A s vv uu k/\SeqAt.RcAt A s vv uu k/\SeqAt.RcNeAt A s vv uu (!k):=by
 obtain⟨hx,hy⟩:=a7F e hx hy;cases x<;>cases y<;>simp only[flatE] at e<;>cases e<;>rw[Den] at hx<;>rw[Den] at hy<;>subst hx<;>subst hy
 ·cases(show vv=Value.none from rx);cases(show uu=Value.none from ry);exact⟨.same _,.none_none,.none_none⟩
 ·cases(show vv=Value.none from rx);obtain⟨t,z⟩:=(show ∃t,uu=Value.int _ t from ry);cases z;exact⟨.none_int _ _,.none_int _ _,.none_int _ _⟩
 ·cases(show vv=Value.bool _ from rx);cases(show uu=Value.bool _ from ry);exact⟨.bool_bool _ _,.bool_bool _ _,.bool_bool _ _⟩
 ·cases(show vv=Value.bool _ from rx);obtain⟨t,z⟩:=(show ∃t,uu=Value.int _ t from ry);cases z;exact⟨.bool_int _ _ _,.bool_int _ _ _,.bool_int _ _ _⟩
 ·cases(show uu=Value.none from ry);obtain⟨t,z⟩:=(show ∃t,vv=Value.int _ t from rx);cases z;exact⟨.int_none _ _,.int_none _ _,.int_none _ _⟩
 ·cases(show uu=Value.bool _ from ry);obtain⟨t,z⟩:=(show ∃t,vv=Value.int _ t from rx);cases z;exact⟨.int_bool _ _ _,.int_bool _ _ _,.int_bool _ _ _⟩
 ·obtain⟨t,z⟩:=(show ∃t,vv=Value.int _ t from rx);cases z;obtain⟨t,z⟩:=(show ∃t,uu=Value.int _ t from ry);cases z;exact⟨.int_int _ _ _ _,.int_int _ _ _ _,.int_int _ _ _ _⟩
 ·obtain⟨t,z⟩:=(show ∃t,vv=Value.str _ t from rx);cases z;obtain⟨t,z⟩:=(show ∃t,uu=Value.str _ t from ry);cases z;exact⟨.str_str _ _ _ _,.str_str _ _ _ _,.str_str _ _ _ _⟩
theorem a3E {K:PySem.W.Frag}{O:Av}{H:Hp}{x y:D}{v:V}{k:Bool}(e:flatE x y=some k)(hx:DenR K O H x v)(hy:DenR K O H y v):k=true:=by
 obtain⟨hx,hy⟩:=a7F e hx hy;cases x<;>cases y<;>simp only[flatE] at e<;>cases e<;>rw[Den] at hx<;>rw[Den] at hy
 all_goals first
  | rfl
  | (rw[hx] at hy;cases hy;simp)
  | (rw[hx] at hy;cases hy)
theorem a4e {K:PySem.W.Frag}{O:Av}{H:Hp}{A:Around}{s:Shared}{eq:D->D->Option Bool}(hq:∀x y v u vv uu k,eq x y=some k->Den K O H x v->Den K O H y u->RelV v vv->RelV u uu->SeqAt.EqAt A s vv uu k):
  ∀{xs ys:List D} {vs us:List V} {its jts:List Value} {k:Bool},deqL eq xs ys=some k->DenL K O H xs vs->DenL K O H ys us->Vals vs its->Vals us jts->
   ∃e:Nat->Bool,(∀j (h1:j<its.toArray.size) (h2:j<jts.toArray.size),SeqAt.EqAt A s its.toArray[j] jts.toArray[j] (e j))/\k=((List.range (min its.toArray.size jts.toArray.size)).all e&&its.toArray.size==jts.toArray.size)
 | [],[],vs,us,its,jts,k,e,hx,hy,rx,ry=>by
  rw[DenL] at hx hy;subst hx;subst hy;cases rx;cases ry;cases e;exact⟨fun _=>true,fun j h1 h2=>absurd h1 (by simp),rfl⟩
 | [],y::ys,vs,us,its,jts,k,e,hx,hy,rx,ry=>by
  rw[DenL] at hx;rw[DenL] at hy;subst hx;obtain⟨u,r,rfl,_,_⟩:=hy;cases rx;cases ry;cases e;exact⟨fun _=>true,fun j h1 h2=>absurd h1 (by simp),by simp⟩
 | x::xs,[],vs,us,its,jts,k,e,hx,hy,rx,ry=>by
  rw[DenL] at hx;rw[DenL] at hy;subst hy;obtain⟨u,r,rfl,_,_⟩:=hx;cases rx;cases ry;cases e;exact⟨fun _=>true,fun j h1 h2=>absurd h2 (by simp),by simp⟩
 | x::xs,y::ys,vs,us,its,jts,k,e,hx,hy,rx,ry=>by
  rw[DenL] at hx hy;obtain⟨v,r,rfl,dx,lx⟩:=hx;obtain⟨u,q,rfl,dy,ly⟩:=hy;cases rx with
  | cons r1 rs1=>
   cases ry with
   | cons r2 rs2=>
    rw[deqL] at e;cases e1:eq x y with
    | none=>rw[e1] at e;cases e
    | some p=>
     cases e2:deqL eq xs ys with
     | none=>rw[e1,e2] at e;cases e
     | some q2=>
      rw[e1,e2] at e;cases e;obtain⟨w,h1,h2⟩:=a4e hq e2 lx ly rs1 rs2;refine⟨fun j=>if j=0 then p else w (j-1),fun j g1 g2=>?_,?_⟩
      ·cases j with
       | zero=>simpa using hq x y v u _ _ p e1 dx dy r1 r2
       | succ j=>
        have z:=h1 j (by simpa using g1) (by simpa using g2)
        simp only[List.getElem_toArray] at z ⊢;simpa using z
      ·rw[h2];simp only[zO,qJ];rw[show min (_+1) (_+1)=min _ _+1 from Nat.succ_min_succ _ _,List.range_succ_eq_map,all_cons,List.all_map];simp[Function.comp_def,Bool.and_assoc]
theorem a07 {K:PySem.W.Frag}{O:Av}{H:Hp}{eq:D->D->Option Bool}(hq:∀x y v k,eq x y=some k->Den K O H x v->Den K O H y v->k=true):
  ∀{xs ys:List D} {vs:List V} {k:Bool},deqL eq xs ys=some k->DenL K O H xs vs->DenL K O H ys vs->k=true
 | [],[],vs,k,e,hx,hy=>by cases e;rfl
 | [],y::ys,vs,k,e,hx,hy=>by have:=c6 hx;have:=c6 hy;simp at *;walk_at "o"
 | x::xs,[],vs,k,e,hx,hy=>by have:=c6 hx;have:=c6 hy;simp at *;walk_at "o"
 | x::xs,y::ys,vs,k,e,hx,hy=>by
  rw[DenL] at hx hy;obtain⟨v,r,rfl,dx,lx⟩:=hx;obtain⟨u,q,e0,dy,ly⟩:=hy;cases e0;rw[deqL] at e;cases e1:eq x y with
  | none=>rw[e1] at e;cases e
  | some p=>
   cases e2:deqL eq xs ys with
   | none=>rw[e1,e2] at e;cases e
   | some q2=>
    rw[e1,e2] at e;cases e;rw[hq x y v p e1 dx dy,a07 hq e2 lx ly];rfl
theorem a3x {n:Nat}{x y:D}{k:Bool}(e:deq (n+1) x y=some k):flatE x y=some k\/(∃xs ys,x= .tup xs/\y= .tup ys/\deqL (deq n) xs ys=some k)\/∃xs ys,x= .lst xs/\y= .lst ys/\deqL (deq n) xs ys=some k:=by
 cases x<;>cases y<;>first
  | exact .inl e
  | exact .inr (.inl ⟨_,_,rfl,rfl,e⟩)
  | exact .inr (.inr ⟨_,_,rfl,rfl,e⟩)
theorem C4 {K:PySem.W.Frag}{O:Av}{H:Hp}{xs:List D}{v:V}(h:DenR K O H (.tup xs) v):∃a vs,v= .ref a/\SqT K H a vs/\DenL K O H xs vs:=by
 have h:Den K O H (.tup xs) v:=h;rw[Den] at h;exact h
theorem a49 {O:Av}{pins:List (Addr×PySem.Obj)}{σ:L2.St}{H:Hp}{s:Shared}(I:Inv X pins σ H s):∀(n:Nat) (x y:D) (v:V) (k:Bool),deq n x y=some k->DenR X.K O H x v->DenR X.K O H y v->k=true
 | 0,x,y,v,k,e,hx,hy=>a3E e hx hy
 | n+1,x,y,v,k,e,hx,hy=>by
  have hs:∀x y v k,deq n x y=some k->Den X.K O H x v->Den X.K O H y v->k=true:=fun x y v k e hx hy=>a49 I n x y v k e (F2 hx) (F2 hy);rcases a3x e with e|⟨xs,ys,rfl,rfl,e⟩|⟨xs,ys,rfl,rfl,e⟩
  ·exact a3E e hx hy
  ·obtain⟨a,vs,rfl,q1,l1⟩:=C4 hx;obtain⟨b,us,z,q2,l2⟩:=C4 hy;cases z;rw[I.tuple_inj q2 q1] at l2;exact a07 hs e l1 l2
  ·obtain⟨a,vs,rfl,q1,l1⟩:=hx;obtain⟨b,us,z,q2,l2⟩:=hy;cases z;rw[I.list_inj q2 q1] at l2;exact a07 hs e l1 l2
theorem a4g {O:Av}{pins:List (Addr×PySem.Obj)}{σ:L2.St}{H:Hp}{s:Shared}(I:Inv X pins σ H s):∀(n:Nat) (A:Around),A.units+n+1<cLine->∀(x y:D) (v u:V) (vv uu:Value) (k:Bool),deq n x y=some k->DenR X.K O H x v->DenR X.K O H y u->RelV v vv->RelV u uu->
  SeqAt.EqAt A s vv uu k/\SeqAt.RcAt A s vv uu k/\SeqAt.RcNeAt A s vv uu (!k)
 | 0,A,hA,x,y,v,u,vv,uu,k,e,hx,hy,rx,ry=>a3f e hx hy rx ry
 | n+1,A,hA,x,y,v,u,vv,uu,k,e,hx,hy,rx,ry=>by
  have hin:∀x y v u vv uu k,deq n x y=some k->Den X.K O H x v->Den X.K O H y u->RelV v vv->RelV u uu->SeqAt.EqAt A.in1 s vv uu k:=fun x y v u vv uu k e hx hy rx ry=>(a4g I n A.in1 (by show A.units+1+n+1<_;walk_at "o") x y v u vv uu k e (F2 hx) (F2 hy) rx ry).1
  have hu:A.units<cLine:=by walk_at "o"
  have done:∀(p q:Addr),v= .ref p->u= .ref q->SeqAt.RcAt A s (.ref p) (.ref q) k->SeqAt.RcNeAt A s (.ref p) (.ref q) (!k)->SeqAt.EqAt A s vv uu k/\SeqAt.RcAt A s vv uu k/\SeqAt.RcNeAt A s vv uu (!k):=fun p q ev eu rc rn=>by
   subst ev;subst eu;cases(show vv=Value.ref p from rx);cases(show uu=Value.ref q from ry);refine⟨?_,rc,rn⟩
   by_cases pq:p=q
   ·subst pq;rw[a49 I (n+1) x y _ k e hx hy];exact .same _
   ·exact .of_refs pq rc
  rcases a3x e with e|⟨xs,ys,rfl,rfl,e⟩|⟨xs,ys,rfl,rfl,e⟩
  ·exact a3f e hx hy rx ry
  ·obtain⟨p,vs,ev,q1,l1⟩:=C4 hx;obtain⟨q,us,eu,q2,l2⟩:=C4 hy;obtain⟨its,r1,t1,_⟩:=I.tuple q1;obtain⟨jts,r2,t2,_⟩:=I.tuple q2;obtain⟨w,h1,h2⟩:=a4e hin e l1 l2 r1 r2;refine done p q ev eu ?_ ?_
   ·rw[h2];exact SeqAt.RcAt.tuples t1 t2 hu h1
   ·rw[h2];exact SeqAt.RcNeAt.tuples t1 t2 hu h1
  ·obtain⟨p,vs,ev,q1,l1⟩:=id hx;obtain⟨q,us,eu,q2,l2⟩:=id hy;obtain⟨its,r1,t1,_⟩:=I.list q1;obtain⟨jts,r2,t2,_⟩:=I.list q2;obtain⟨w,h1,h2⟩:=a4e hin e l1 l2 r1 r2
   by_cases sz:its.toArray.size=jts.toArray.size
   ·have r1:=SeqAt.RcAt.lists t1.isList t2.isList sz hu h1;have r2:=SeqAt.RcNeAt.lists t1.isList t2.isList sz hu h1;rw[sz,Nat.min_self,show(jts.toArray.size==jts.toArray.size)=true by simp,Bool.and_true] at h2
    rw[sz,<-h2] at r1 r2;exact done p q ev eu r1 r2
   ·have r1:=SeqAt.RcAt.lists_lengths (A:=A) t1.isList t2.isList (by simpa using sz) hu
    have r2:=SeqAt.RcNeAt.lists_lengths (A:=A) t1.isList t2.isList (by simpa using sz) hu
    rw[show(its.toArray.size==jts.toArray.size)=false by simpa using sz,Bool.and_false] at h2
    subst h2;exact done p q ev eu r1 r2
theorem b1r {k:Nat}(hr:Room k X.A):OpR X (compareOp .Eq) (rD2 X.K (deq 20) false):=by
 intro pins s σ H x y v u Q I rx ry ⟨A,dx,dy,k,e,hx,hy,q⟩
 have:=(a4g I 20 X.A (by have:=hr.units;walk_at "o") dx dy x y v u k e hx hy rx ry).2.1
 exact this X.prog X.w X.xe _ ⟨.bl k,H,I,rfl,q⟩
theorem b3J {k:Nat}(hr:Room k X.A):OpR X (compareOp .NotEq) (rD2 X.K (deq 20) true):=by
 intro pins s σ H x y v u Q I rx ry ⟨A,dx,dy,k,e,hx,hy,q⟩
 have:=(a4g I 20 X.A (by have:=hr.units;walk_at "o") dx dy x y v u k e hx hy rx ry).2.2
 exact this X.prog X.w X.xe _ ⟨.bl (!k),H,I,rfl,q⟩
theorem J9 {k:Nat}(hr:Room k X.A)(ha:QX X a f)(hb:QX X b g):QX X (.Compare a [.Eq] [b] pos) (fBin (oD2 (deq 20) false) f g):=a37 (b1r hr) kD2 ha hb
theorem N4 {k:Nat}(hr:Room k X.A)(ha:QX X a f)(hb:QX X b g):QT X (.Compare a [.Eq] [b] pos) (fTest (fBin (oD2 (deq 20) false) f g)):=Q7 (b1r hr) kD2 ha hb
theorem a7v {k:Nat}(hr:Room k X.A)(ha:QX X a f)(hb:QX X b g):QT X (.Compare a [.NotEq] [b] pos) (fTest (fBin (oD2 (deq 20) true) f g)):=Q7 (b3J hr) kD2 ha hb
end
section
variable {prog:Program}{w:World}{A:Around}{R:Result->Shared->Prop}{s:Shared}
abbrev Fa:Value->Shared->Prop:=fun _ _=>False
theorem a8Q {elt tg iter:Expr}{ifs:List Expr}{scope:Scope}{pos:Pos}{it acc:Value}{env:Env}(I:Nat->Shared->Prop)
  (turn:∀n s,I n s->wpAny (model prog w) A (pyNext it) (fun r s1=>match r with
   | none=>R (.ok .next) s1
   | some v=>wpAny (model prog w) A (letOwnedTupleGo tg it v) (fun _ s2=>wpAny (model prog w) A (assign tg env v) (fun _ s3=>
     wpAny (model prog w) A (forIn ifs true fun c r=>if r=true then do let ok <-isTrue c env (eval c env);pure (ForInStep.yield ok) else pure (ForInStep.yield r)) (fun ok s4=>
      if ok=true then wpAny (model prog w) A (eval elt env) (fun x s5=>wpAny (model prog w) A (call (.builtin "list.append") [acc,x]) (fun _ s6=>∃m,m<n/\I m s6) Fa s5) Fa s4
      else ∃m,m<n/\I m s4) Fa s3) Fa s2) Fa s1) Fa s)
  (n:Nat) (h:I n s):codeAny (model prog w) A (.compLoop (.ListComp elt [⟨tg,iter,ifs,0⟩] scope pos) 0 it acc env) R s:=by
 refine codeAny_loop rfl I (fun n s hI=>?_) n h;show wpAny _ A ((compTurn (.ListComp elt [⟨tg,iter,ifs,0⟩] scope pos) 0 it acc env).onRaise (fun x=>do noteFrame x env;theTreesLotGoes x)) _ _ s
 refine wpAny_noted ?_;rw[compTurn_list];refine zA (jO (zA (zF (turn n s hI) (fun r s1 h1=>?_) fun _ _ z=>z.elim)));cases r with
 | none=>exact zB h1
 | some v=>
  refine zA (zF h1 (fun _ s2 h2=>zA (zF h2 (fun _ s3 h3=>zA (zF h3 (fun ok s4 h4=>?_) fun _ _ z=>z.elim)) fun _ _ z=>z.elim)) fun _ _ z=>z.elim);cases ok with
  | true=>
   rw[if_pos rfl] at h4 ⊢;exact zA (zA (zF h4 (fun x s5 h5=>zA (zF h5 (fun _ s6 h6=>zB (zB ⟨rfl,h6⟩)) fun _ _ z=>z.elim)) fun _ _ z=>z.elim))
  | false=>
   rw[if_neg zP] at h4 ⊢;exact zA (zB (zB ⟨rfl,h4⟩))
end
def blk (X:Cx) (scope:Scope) (cl:List (Str×Addr)) (s2:Shared) (H2:Hp) (fp:List Addr) (C:Addr) (N:List Str):Cx where
 prog:=X.prog
 w:=X.w
 K:=X.K
 mg:=X.mg
 base:=X.base
 A:=X.A
 N:=N
 s₀:=s2
 H₀:=H2
 env:=compEnvC scope cl C X.env
 outer:=X.stack
 stack:=X.stack
 ex:=fp
 fn:=fun _=>false
 calm:=X.calm
 pn:=[]
 xe:=fun _ _=>False
abbrev accN:Str:=" acc"
inductive Cap (X:Cx) (sc:Scope) (cl:List (Str×Addr)):List Str->List (Option Nat)->Prop where
 | nil:Cap X sc cl [] []
 | own {n:Str} {N:List Str} {js:List (Option Nat)} (t:Cap X sc cl N js):Cap X sc cl (n::N) (none::js)
 | cap {n:Str} {N:List Str} {j:Nat} {js:List (Option Nat)} (hj:X.N[j]? =some n) (hk:X.env.scope.names.lookup n=some .cell) (hl:sc.names.lookup n=some .cell) (hc:cl.lookup n=X.env.cells.lookup n) (t:Cap X sc cl N js):Cap X sc cl (n::N) (some j::js)
theorem Cap.len {X:Cx}{sc:Scope}{cl:List (Str×Addr)}{N:List Str}{js:List (Option Nat)}(h:Cap X sc cl N js):js.length=N.length:=by
 induction h with
 | nil=>rfl
 | own t ih=>simp[ih]
 | cap _ _ _ _ t ih=>simp[ih]
theorem Cap.get {X:Cx}{sc:Scope}{cl:List (Str×Addr)}{N:List Str}{js:List (Option Nat)}(h:Cap X sc cl N js):∀{i j:Nat} {n:Str},N[i]? =some n->js[i]? =some (some j)->X.N[j]? =some n/\X.env.scope.names.lookup n=some .cell/\sc.names.lookup n=some .cell/\cl.lookup n=X.env.cells.lookup n:=by
 induction h with
 | nil=>intro i j n e1 _;simp at e1
 | own t ih=>
  intro i j n e1 e2;cases i with
  | zero=>simp at e2
  | succ i=>exact ih (by simpa using e1) (by simpa using e2)
 | cap hj hk hl hc t ih=>
  intro i j n e1 e2;cases i with
  | zero=>simp at e1 e2;subst e1;subst e2;exact⟨hj,hk,hl,hc⟩
  | succ i=>exact ih (by simpa using e1) (by simpa using e2)
def capS (js:List (Option Nat)) (σ:L2.St):L2.St:=js.map fun o=>o.bind fun j=>(σ[j]?).join
structure Blk (X:Cx) (scope:Scope) (cl:List (Str×Addr)) (N:List Str) (js:List (Option Nat)):Prop where
 clos:closureFor scope X.env=pure cl
 kind:scope.kind= .function
 cell:∀y∈scope.names,y.2≠.cell
 nms:∀y∈scope.names,y.2= .local->scope.names.lookup y.1=some .local
 cap:Cap X (relabel scope X.env) cl N js
 sub:∀y c,cl.lookup y=some c->X.env.cells.lookup y=some c
 has:∀y,((relabel scope X.env).names.lookup y=some .cell\/(relabel scope X.env).names.lookup y=some .free)->∃c,cl.lookup y=some c
 acc:∀k,(relabel scope X.env).names.lookup accN≠some k
section
variable {X:Cx}{pins:List (Addr×PySem.Obj)}{σ:L2.St}{H2:Hp}{s2 s4:Shared}{scope:Scope}{cl:List (Str×Addr)}{N:List Str}{js:List (Option Nat)}{fp:List Addr}{Dd C:Addr}{m:Str->Option Value}
theorem b3W (I:Inv X pins σ H2 s2)(b:Blk X scope cl N js)(f2:∀y∈fp,FpOk X pins H2 y)(fl:∀y∈fp,y<s2.heap.objs.size)(hC:s2.heap.objs.size<=C):(blk X scope cl s2 H2 fp C (N++[accN])).Ok where
 mod:=I.ok.mod
 kind:=b.kind
 glob:=I.ok.glob
 blt:=I.ok.blt
 above:=hC
 inj:=fun x y c e1 e2=>I.ok.inj x y c (b.sub x c e1) (b.sub y c e2)
 has:=fun x h=>b.has x h
 cab:=fun x c h=>nomatch h
 hd:=I.ok.hd
 frames:=I.ok.frames
 stk:=.inl rfl
 exf:=fun y hy=>⟨zT (zK (fl y hy) hC),fun x c e=>(f2 y hy).2.2.2.2.1 x c (b.sub x c e)⟩
 bs:=I.bs
 bsz:=qC I.ok.bsz I.sz
 noex:=fun y o e hy=>by
  rcases(f2 y hy).2.2.2.1 with z|z
  ·exact I.ok.noex y o e z
  ·exact absurd (zK (zW e) (qC I.ok.bsz z)) (jD _)
 exfs:=fun y hy z=>(zX.mp (I.stkSub y z)).elim (f2 y hy).2.1 (f2 y hy).2.2.1
 funs:=I.stack
 frf:=I.stkFree
theorem a7S {o0:HO}(I:Inv X pins σ H2 s2)(b:Blk X scope cl N js)(f2:∀y∈fp,FpOk X pins H2 y)(fl:∀y∈fp,y<s2.heap.objs.size)(hC:s2.heap.objs.size<=C)(hD:s2.heap.objs.size<=Dd)(ne:Dd≠C)
  (ho:s4.os=s2.os) (hg:AllBare s4.gens) (kp:∀y o,s2.heap.get? y=some o->s4.heap.get? y=some o) (hn:s4.heap.Ns C m) (hk:HOk X.prog X.w (upd H2 Dd o0) s4.heap):
  Inv (blk X scope cl s2 H2 fp C (N++[accN])) [] (capS js σ++[some (.ref Dd)]) (upd H2 Dd o0) s4:=by
 have nD:∀y o,s2.heap.get? y=some o->y≠Dd:=fun y o e=>zT (zK (zW e) hD);have nH:∀y u,H2 y=some u->y≠Dd:=fun y u e=>zT (zK (I.hok.lt e) hD);have cD:∀x c,X.env.cells.lookup x=some c->c≠Dd:=fun x c e=>by
  obtain⟨v,o,e1,_⟩:=I.cell x c e;exact nD c o e1
 refine⟨b3W I b f2 fl hC,ho,hg,⟨fun y o e _ _ _=>kp y o e,fun y o e _ _ _=>⟨o.slots,kp y o e⟩,fun y o e n _=>?_,fun y o e _=>⟨o,kp y o e⟩,fun y xs e=>?_,fun y o u e=>?_,fun y ps e=>?_⟩,⟨m,hn,fun i x v e1 e2 e3=>?_⟩,fun x c e=>?_,?_,fun x c e=>?_,fun p hp=>absurd (show p∈([]:List (Addr×PySem.Obj)) from hp) (by simp),hk,?_⟩
 ·rw[g8 (nD y o e)];exact n
 ·rw[g8 (nH _ _ e)];exact e
 ·rw[g8 (nH _ _ e)];exact e
 ·have e':H2 y=some (.tbl ps):=e;exact⟨#[],by rw[g8 (nH _ _ e'),e'];simp⟩
 ·have hl:js.length=N.length:=b.cap.len
  by_cases hi:i<N.length
  ·have e1':N[i]? =some x:=by
    have z:(N++[accN])[i]? =some x:=e1;rw[qM hi] at z;exact z
   rw[qM (by unfold capS;simp;walk_at "o")] at e2
   unfold capS at e2;rw[zV] at e2;cases ej:js[i]? with
   | none=>rw[ej] at e2;cases e2
   | some o=>
    rw[ej] at e2;cases o with
    | none=>cases e2
    | some j=>
     obtain⟨c1,c2,c3,c4⟩:=b.cap.get e1' ej;simp only[jF,bind_some] at e2;have e2':σ[j]? =some (some v):=by
      cases q:σ[j]? with
      | none=>rw[q] at e2;cases e2
      | some o=>rw[q] at e2;simp at e2;rw[e2]
     obtain⟨m2,_,hl2⟩:=I.loc;obtain⟨u,r,lk⟩:=hl2 j x v c1 e2' (.inr (.inl c2));refine⟨u,r,.inr ⟨.inl c3,?_⟩⟩;rcases lk with ⟨k,_⟩|⟨_,c,e,z⟩
     ·have k':X.env.scope.names.lookup x=some .local:=k;rw[c2] at k';cases k'
     ·exact⟨c,c4.trans e,z.keeps kp⟩
  ·have hx:x=accN:=by
    have z:(N++[accN])[i]? =some x:=e1;rw[qR (by walk_at "o")] at z
    cases q:i-N.length with
    | zero=>rw[q] at z;simp at z;exact z.symm
    | succ k=>rw[q] at z;simp at z
   subst hx;rcases e3 with z|z|z
   ·exact absurd z (b.acc _)
   ·exact absurd z (b.acc _)
   ·exact absurd z (b.acc _)
 ·obtain⟨v,z⟩:=I.cell x c (b.sub x c e);exact⟨v,z.keeps kp⟩
 ·show upd H2 Dd o0 C=none;rw[g8 (qT ne)];exact I.hok.fresh hC
 ·rw[g8 (cD x c (b.sub x c e))];exact I.freeC x c (b.sub x c e)
 ·show(capS js σ++[some (V.ref Dd)]).length=(N++[accN]).length;unfold capS;simp[b.cap.len]
end
def AllC (X:Cx):List (Str×Addr)->Prop
 | []=>True
 | p::r=>X.env.cells.lookup p.1=some p.2/\AllC X r
theorem AllC.sub {X:Cx}:∀{cl:List (Str×Addr)},AllC X cl->∀y c,cl.lookup y=some c->X.env.cells.lookup y=some c
 | [],_,y,c,e=>by simp at e
 | (n,c0)::r,h,y,c,e=>by
  rw[List.lookup_cons] at e;cases q:y==n with
  | true=>
   rw[q] at e;cases e
   have:y=n:=by simpa using q
   rw[this];exact h.1
  | false=>rw[q] at e;exact AllC.sub h.2 y c e
theorem a2q {α:Type}:∀{l:List (Str×α)} {y:Str} {k:α},l.lookup y=some k->(y,k)∈l
 | [],y,k,e=>by simp at e
 | (n,a)::r,y,k,e=>by
  rw[List.lookup_cons] at e;cases q:y==n with
  | true=>
   rw[q] at e;cases e
   have:y=n:=by simpa using q
   rw[this];exact zJ
  | false=>rw[q] at e;exact zI _ (a2q e)
section
variable {X:Cx}{scope:Scope}{cl:List (Str×Addr)}{N:List Str}{js:List (Option Nat)}
theorem A1 (cap:Cap X (relabel scope X.env) cl N js)(clos:closureFor scope X.env=pure cl)(sub:AllC X cl)(has:(relabel scope X.env).names.all (fun p=>(p.2 != .cell&&p.2 != .free)||(cl.lookup p.1).isSome)=true)(kind:scope.kind= .function:=by rfl)(cell:scope.names.all (fun y=>y.2 != .cell)=true:=by decide +kernel)
  (nms:scope.names.all (fun y=>y.2 != .local||scope.names.lookup y.1==some .local)=true:=by decide +kernel) (acc:(relabel scope X.env).names.lookup accN=none:=by rfl):Blk X scope cl N js where
 clos:=clos
 kind:=kind
 cell:=fun y hy=>by have:=xQ.mp cell y hy;simpa using this
 nms:=fun y hy hl=>by have:=xQ.mp nms y hy;rw[hl] at this;simpa using this
 cap:=cap
 sub:=sub.sub
 has:=fun y h=>by
  have key:∀k,(relabel scope X.env).names.lookup y=some k->k= .cell\/k= .free->∃c,cl.lookup y=some c:=fun k e hk=>by
   have:=xQ.mp has (y,k) (a2q e)
   rcases hk with rfl|rfl<;>simpa [isSome_iff_exists] using this
  rcases h with h|h
  ·exact key _ h (.inl rfl)
  ·exact key _ h (.inr rfl)
 acc:=fun k e=>by rw[acc] at e;cases e
end
def capW (k:Bool):W->Option W
 | .v d=>some (.v d)
 | .o d=>some (if k then .l d else .v d)
 | .l d=>some (if k then .l d else .v d)
 | .r _=>none
def capE (lj:Option Nat) (js:List (Option Nat)) (ρ:Ev):Ev:=js.map fun o=>o.bind fun j=>((ρ[j]?).join).bind (capW (lj==some j))
def Capd (ρ:Ev) (σ:L2.St) (js:List (Option Nat)) (b:Addr):Prop:=∃(j:Nat) (w:W) (d:D),some j∈js/\ρ[j]? =some (some w)/\w.own=some d/\σ[j]? =some (some (V.ref b))
def lentL (li:Option (Nat×Nat)) (σ:L2.St):List (Option Nat×Addr):=match li with
 | some (i,j)=>match σ[j]? with
  | some (some (.ref a))=>[(some i,a)]
  | _=>[]
 | none=>[]
structure LiOk (li:Option (Nat×Nat)) (js:List (Option Nat)) (ρ:Ev):Prop where
 own:∀i j,li=some (i,j)->∃c,ownAt ρ j=some c
 at':∀i j,li=some (i,j)->js[i]? =some (some j)
 one:∀i j k,li=some (i,j)->js[k]? =some (some j)->k=i
section
variable {X:Cx}{P:List (D×V)}{O:Av}{L:List (Option Nat×Addr)}{ρ:Ev}{σ:L2.St}{H2:Hp}{s2:Shared}{scope:Scope}{cl:List (Str×Addr)}{N:List Str}{js:List (Option Nat)}{fp:List Addr}{Dd C:Addr}{li:Option (Nat×Nat)}
theorem a0Q {lj:Option Nat}{i:Nat}{w:W}(e:(capE lj js ρ)[i]? =some (some w)):∃j w0,js[i]? =some (some j)/\ρ[j]? =some (some w0)/\capW (lj==some j) w0=some w:=by
 unfold capE at e;rw[zV] at e;cases ej:js[i]? with
 | none=>rw[ej] at e;cases e
 | some o=>
  rw[ej] at e;cases o with
  | none=>cases e
  | some j=>
   simp only[jF,bind_some] at e;cases q:ρ[j]? with
   | none=>rw[q] at e;cases e
   | some o=>
    rw[q] at e;cases o with
    | none=>cases e
    | some w0=>exact⟨j,w0,rfl,q,qV e⟩
theorem a0W {i j:Nat}{v:V}(ej:js[i]? =some (some j))(e:σ[j]? =some (some v)):(capS js σ)[i]? =some (some v):=by
 unfold capS;rw[zV,ej];simp only[jF,bind_some];rw[e];rfl
theorem a2y {b:Addr}:(none,b)∉lentL li σ:=by
 unfold lentL
 split
 ·split
  ·simp
  ·simp
 ·simp
theorem N5 {i:Nat}{b:Addr}:(some i,b)∈lentL li σ↔∃j,li=some (i,j)/\σ[j]? =some (some (.ref b)):=by
 unfold lentL;cases li with
 | none=>simp
 | some p=>
  obtain⟨i',j'⟩:=p;dsimp only;constructor
  ·intro h;split at h
   ·rename_i a q;rw[zN] at h;cases h;exact⟨j',rfl,q⟩
   ·cases h
  ·rintro⟨j,e,q⟩;cases e;rw[q];exact zN.mpr rfl
theorem O7 {d0:D}(r:Rep X P O L ρ σ H2)(hl:LiOk li js ρ){i:Nat}{w:W}{d:D}{v:V}(e1:(capE (li.map (·.2)) js ρ++[some (.l d0)])[i]? =some (some w))(e2:w.own=some d)(e3:(capS js σ++[some (.ref Dd)])[i]? =some (some v)):
  (i=js.length/\w= .l d0/\v= .ref Dd)\/∃j a w0,li=some (i,j)/\i<js.length/\w= .l d/\js[i]? =some (some j)/\ρ[j]? =some (some w0)/\w0.own=some d/\σ[j]? =some (some (.ref a))/\v= .ref a:=by
 have hcl:(capE (li.map (·.2)) js ρ).length=js.length:=by unfold capE;simp
 have hsl:(capS js σ).length=js.length:=by unfold capS;simp
 by_cases hi:i<js.length
 ·rw[qM (by walk_at "o")] at e1 e3
  obtain⟨j,w0,ej,q,ew⟩:=a0Q e1;have own0:w0.own≠none/\li.map (·.2)=some j/\w= .l d/\w0.own=some d:=by
   cases w0 with
   | v c=>cases ew;cases e2
   | r c=>cases ew
   | o c=>
    simp only[capW] at ew;split at ew
    ·rename_i hk;cases ew;cases e2;exact⟨nofun,by simpa using hk,rfl,rfl⟩
    ·cases ew;cases e2
   | l c=>
    simp only[capW] at ew;split at ew
    ·rename_i hk;cases ew;cases e2;exact⟨nofun,by simpa using hk,rfl,rfl⟩
    ·cases ew;cases e2
  obtain⟨_,hlj,rfl,ow⟩:=own0;obtain⟨a,h1,h2⟩:=r.obj q ow;rw[a0W ej h1] at e3;cases e3;cases li with
  | none=>cases hlj
  | some p=>
   obtain⟨i',j'⟩:=p;cases hlj
   have:=hl.one i' _ i rfl ej
   subst this;exact .inr ⟨_,a,w0,rfl,hi,rfl,ej,q,ow,h1,rfl⟩
 ·have hi':i=js.length:=by
   have:=(zG.mp e1).1
   rw[zM,hcl] at this;simp at this;walk_at "o"
  subst hi';rw[qR (by walk_at "o"),hcl,xF] at e1
  rw[qR (by walk_at "o"),hsl,xF] at e3
  simp only[yJ,Option.some.injEq] at e1 e3;exact .inl ⟨rfl,e1.symm,e3.symm⟩
theorem a7o {d0:D}{o0:HO}(hob:∀A H,H Dd=some o0->Obj X.K A H Dd d0)(r:Rep X P O L ρ σ H2)(hl:LiOk li js ρ)(hn:H2 Dd=none):
  Rep (blk X scope cl s2 H2 fp C (N++[accN])) P (fun b=>AvO O ρ σ b/\¬Capd ρ σ js b) ((some js.length,Dd)::lentL li σ) (capE (li.map (·.2)) js ρ++[some (.l d0)]) (capS js σ++[some (.ref Dd)]) (upd H2 Dd o0):=by
 have hcl:(capE (li.map (·.2)) js ρ).length=js.length:=by unfold capE;simp
 have hsl:(capS js σ).length=js.length:=by unfold capS;simp
 have acc1:(capE (li.map (·.2)) js ρ++[some (.l d0)])[js.length]? =some (some (.l d0)):=by rw[qR (by walk_at "o"),hcl,xF];rfl
 have acc2:(capS js σ++[some (V.ref Dd)])[js.length]? =some (some (.ref Dd)):=by rw[qR (by walk_at "o"),hsl,xF];rfl
 have lnt2:∀{i j:Nat} {a:Addr},li=some (i,j)->σ[j]? =some (some (.ref a))->∃w0 d,ρ[j]? =some (some w0)/\w0.own=some d/\(capE (li.map (·.2)) js ρ++[some (.l d0)])[i]? =some (some (.l d))/\(capS js σ++[some (V.ref Dd)])[i]? =some (some (.ref a)):=fun{i j a} e1 e2=>by
  obtain⟨c,ec⟩:=hl.own i j e1;obtain⟨w0,q,ow⟩:=w6 ec;have ej:=hl.at' i j e1;have hi:i<js.length:=(zG.mp ej).1;refine⟨w0,c,q,ow,?_,by rw[qM (by walk_at "o")];exact a0W ej e2⟩
  rw[qM (by walk_at "o")]
  unfold capE;rw[zV,ej];simp only[jF,bind_some,q,Option.join_some,e1,beq_self_eq_true];cases w0 with
  | o x=>cases ow;rfl
  | l x=>cases ow;rfl
  | _=>cases ow
 have av:∀b,AvO (fun b=>AvO O ρ σ b/\¬Capd ρ σ js b) (capE (li.map (·.2)) js ρ++[some (.l d0)]) (capS js σ++[some (V.ref Dd)]) b->AvO O ρ σ b\/H2 b=none:=fun b z=>by
  rcases z with z|⟨i,w,d,e1,e2,e3⟩
  ·exact .inl z.1
  ·rcases O7 r hl e1 e2 e3 with ⟨_,_,e⟩|⟨j,a,w0,_,_,_,_,q,ow,qs,e⟩
   ·cases e;exact .inr hn
   ·cases e;exact .inl (.inr ⟨j,w0,d,q,ow,qs⟩)
 have g:Go (AvO O ρ σ) (AvO (fun b=>AvO O ρ σ b/\¬Capd ρ σ js b) (capE (li.map (·.2)) js ρ++[some (.l d0)]) (capS js σ++[some (V.ref Dd)])) (fun _=>False) H2 (upd H2 Dd o0):=⟨fun b o e _=>j7 hn _ b o e,fun _ z=>z.elim,av⟩;refine⟨fun b o e _=>j7 hn _ b o e,fun b z=>⟨r.there z.1,fun i m=>?_⟩,by simp[hcl,hsl],fun i w e=>?_,fun i i' w w' d d' b e1 e2 e3 e4 e5 e6=>?_,fun i d b e=>?_,fun i d e=>?_,fun i b e=>?_,fun p hp=>u9 g _ _ (r.prot p hp),fun b m=>⟨js.length,Dd,zJ⟩⟩
 ·rcases zX.mp m with m|m
  ·cases m;exact r.fresh hn z.1
  ·cases i with
   | none=>exact a2y m
   | some i=>
    obtain⟨j,e1,e2⟩:=N5.mp m;obtain⟨w0,d,q,ow,_⟩:=lnt2 e1 e2;exact z.2 ⟨j,w0,d,qX (hl.at' i j e1),q,ow,e2⟩
 ·by_cases hi:i<js.length
  ·have e':=e;rw[qM (by walk_at "o")] at e'
   obtain⟨j,w0,ej,q,ew⟩:=a0Q e';obtain⟨v,h1,h2⟩:=r.slot j w0 q;refine⟨v,by rw[qM (by walk_at "o")];exact a0W ej h1,?_⟩
   cases w0 with
   | v c=>cases ew;exact u9 g _ _ h2
   | r c=>cases ew
   | o c=>
    simp only[capW] at ew;obtain⟨a,rfl,ob⟩:=h2;have hk:upd H2 Dd o0 a=H2 a:=g8 fun z=>by obtain⟨u,eu,_⟩:=F0 ob;rw[z,hn] at eu;cases eu
    split at ew
    ·cases ew;exact⟨a,rfl,A2 g hk ob⟩
    ·rename_i nk;cases ew;refine a0y (A2 g hk ob) fun z=>?_;rcases z with z|⟨i2,w2,d2,e1,e2,e3⟩
     ·exact z.2 ⟨j,_,c,qX ej,q,rfl,h1⟩
     ·rcases O7 r hl e1 e2 e3 with ⟨_,_,e⟩|⟨j2,a2,w0,l2,_,_,ej2,q2,ow2,qs2,e⟩
      ·cases e;obtain⟨u,eu,_⟩:=F0 ob;rw[hn] at eu;cases eu
      ·cases e
       have:=r.inj j j2 _ w0 c d2 a q rfl h1 q2 ow2 qs2
       subst this;rw[l2] at nk;simp at nk
   | l c=>
    simp only[capW] at ew;obtain⟨a,rfl,ob⟩:=h2;have hk:upd H2 Dd o0 a=H2 a:=g8 fun z=>by obtain⟨u,eu,_⟩:=F0 ob;rw[z,hn] at eu;cases eu
    split at ew
    ·cases ew;exact⟨a,rfl,A2 g hk ob⟩
    ·rename_i nk;cases ew;refine a0y (A2 g hk ob) fun z=>?_;rcases z with z|⟨i2,w2,d2,e1,e2,e3⟩
     ·exact z.2 ⟨j,_,c,qX ej,q,rfl,h1⟩
     ·rcases O7 r hl e1 e2 e3 with ⟨_,_,e⟩|⟨j2,a2,w0,l2,_,_,ej2,q2,ow2,qs2,e⟩
      ·cases e;obtain⟨u,eu,_⟩:=F0 ob;rw[hn] at eu;cases eu
      ·cases e
       have:=r.inj j j2 _ w0 c d2 a q rfl h1 q2 ow2 qs2
       subst this;rw[l2] at nk;simp at nk
  ·have hi':i=js.length:=by
    have:=(zG.mp e).1
    rw[zM,hcl] at this;simp at this;walk_at "o"
   subst hi';rw[acc1] at e;cases e;exact⟨.ref Dd,acc2,Dd,rfl,hob _ _ p9⟩
 ·rcases O7 r hl e1 e2 e3 with ⟨rfl,_,e⟩|⟨j,a,w0,l1,_,_,_,q,ow,qs,e⟩
  ·cases e;rcases O7 r hl e4 e5 e6 with ⟨rfl,_,_⟩|⟨j,a,w0,l1,_,_,_,q,ow,qs,e⟩
   ·rfl
   ·cases e;obtain⟨u,eu,_⟩:=r.owMu ⟨j,w0,d',q,ow,qs⟩;rw[hn] at eu;cases eu
  ·cases e;rcases O7 r hl e4 e5 e6 with ⟨rfl,_,e⟩|⟨j',a',w0',l1',_,_,_,q',ow',qs',e⟩
   ·cases e;obtain⟨u,eu,_⟩:=r.owMu ⟨j,w0,d,q,ow,qs⟩;rw[hn] at eu;cases eu
   ·rw[l1] at l1';cases l1';rfl
 ·by_cases hi:i<js.length
  ·rw[qM (by walk_at "o")] at e
   obtain⟨j,w0,ej,q,ew⟩:=a0Q e;cases w0<;>simp only[capW] at ew<;>first|cases ew|(split at ew<;>cases ew)
  ·rw[qR (by walk_at "o")] at e
   cases q:i-(capE (li.map (·.2)) js ρ).length with
   | zero=>rw[q] at e;cases e
   | succ n=>rw[q] at e;simp at e
 ·by_cases hi:i<js.length
  ·have e':=e;rw[qM (by walk_at "o")] at e'
   obtain⟨j,w0,ej,q,ew⟩:=a0Q e';obtain⟨v,h1,h2⟩:=r.slot j w0 q;have e3:(capS js σ++[some (V.ref Dd)])[i]? =some (some v):=by rw[qM (by walk_at "o")];exact a0W ej h1
   rcases O7 r hl e rfl e3 with ⟨rfl,_⟩|⟨j,a,w0,l1,_,_,_,q,ow,qs,rfl⟩
   ·walk_at "o"
   ·exact⟨a,e3,zI _ (N5.mpr ⟨j,l1,qs⟩)⟩
  ·have hi':i=js.length:=by
    have:=(zG.mp e).1
    rw[zM,hcl] at this;simp at this;walk_at "o"
   subst hi';exact⟨Dd,acc2,zJ⟩
 ·rcases zX.mp e with e|e
  ·cases e;exact⟨_,acc1,acc2⟩
  ·obtain⟨j,e1,e2⟩:=N5.mp e;obtain⟨w0,d,_,_,q1,q2⟩:=lnt2 e1 e2;exact⟨d,q1,q2⟩
end
structure Tst (Y:Cx) (ifs:List Expr) (t:FT):Prop where
 to:∀(pins:List (Addr×PySem.Obj)) (s:Shared) (σ:L2.St) (H:Hp) (P:List (D×V)) (O:Av) (L:List (Option Nat×Addr)) (ρ ρ':Ev) (k:Bool) (Q:Bool->Hp->Prop),Inv Y pins σ H s->Rep Y P O L ρ σ H->t ρ=some (k,ρ')->(∀H',Rep Y P O L ρ' σ H'->Q k H')->
  wpAny (model Y.prog Y.w) Y.A (forIn ifs true fun c r=>if r=true then do let ok <-isTrue c Y.env (eval c Y.env);pure (ForInStep.yield ok) else pure (ForInStep.yield r)) (TP Y pins σ Q) Fa s
theorem B6 {Y:Cx}:Tst Y [] (fun ρ=>some (true,ρ)):=⟨fun pins s σ H P O L ρ ρ' k Q I r e q=>by cases e;exact wpAny_tests_nil ⟨H,I,q H r⟩⟩
theorem a1S {Y:Cx}{c:Expr}{t:FT}(hx:Y.xe=Fa)(h:QT Y c t):Tst Y [c] t:=⟨fun pins s σ H P O L ρ ρ' k Q I r e q=>by
 have z:=h.to pins s σ H Q I ⟨P,O,L,ρ,k,ρ',r,e,q⟩;rw[hx] at z
 exact wpAny_tests_one z⟩
def WksB (li:Option (Nat×Nat)) (K:PySem.W.Frag) (P:List (D×V)) (O:Av) (ρ:Ev) (σ:L2.St) (H:Hp) (xs:List D) (J:It):Prop:=∀(Y:Cx) (O':Av) (L:List (Option Nat×Addr)) (ρ':Ev) (σ':L2.St) (H':Hp),Y.K=K->Y.H₀=H->Rep Y P O' L ρ' σ' H'->(∀b,O' b->AvO O ρ σ b)->(li=none->∀i b,(i,b)∈L->H b=none)->
 (∀(i:Nat) (x:D),xs[i]? =some x->J.go i H'/\∀v H'',J.yld i H' v H''->Same H' H''/\Den K (AvO O' ρ' σ') H'' x v)/\J.stop xs.length H'
def tIB (X:Cx) (li:Option (Nat×Nat)) (fi:FI):TI:=fun σ H R=>∃P O L ρ xs ρ',Rep X P O L ρ σ H/\fi ρ=some (xs,ρ')/\∀J H1 P',Rep X P' O L ρ' σ H1->Holds P' P->WksB li X.K P' O ρ' σ H1 xs J->R J H1
theorem tIBe {X:Cx}{li:Option (Nat×Nat)}{fi:FI}{σ:L2.St}{H:Hp}{R:It->Hp->Prop}{C:Prop}(h:tIB X li fi σ H R)(k:∀P O L ρ xs ρ',Rep X P O L ρ σ H->fi ρ=some (xs,ρ')->(∀J H1 P',Rep X P' O L ρ' σ H1->Holds P' P->WksB li X.K P' O ρ' σ H1 xs J->R J H1)->C):C:=by
 obtain⟨P,O,L,ρ,w,ρ',r,e,q⟩:=h;exact k P O L ρ w ρ' r e q
structure QIB (X:Cx) (li:Option (Nat×Nat)) (tg iter:Expr) (fi:FI):Prop where
 to:PI X tg iter (tIB X li fi)
theorem Wks.b {li:Option (Nat×Nat)}{K:PySem.W.Frag}{P:List (D×V)}{O:Av}{ρ:Ev}{σ:L2.St}{H:Hp}{xs:List D}{J:It}(w:Wks K P xs J):WksB li K P O ρ σ H xs J:=fun Y O' L ρ' σ' H' hY _ r _ _=>w Y O' L ρ' σ' H' hY r
theorem G8 {X:Cx}{li:Option (Nat×Nat)}{tg iter:Expr}{fi:FI}(h:QI X tg iter fi):QIB X li tg iter fi:=⟨PI.weak h.to fun σ H R h0=>tIBe h0 fun P O L ρ xs ρ' r e q=>⟨P,O,L,ρ,xs,ρ',r,e,fun J H1 P' r1 hh w=>q J H1 P' r1 hh w.b⟩⟩
def fiName (i:Nat):FI:=fun ρ=>match ρ[i]? with
 | some (some (.v d))=>(items d).map fun xs=>(xs,ρ)
 | some (some (.r _))=>none
 | some (some w)=>match w.own with
  | some (.lst xs)=>some (xs,ρ)
  | _=>none
 | _=>none
theorem b4H {Y:Cx}{P:List (D×V)}{O O':Av}{L:List (Option Nat×Addr)}{ρ ρ':Ev}{σ σ':L2.St}{H H':Hp}(hH:Y.H₀=H)(r:Rep Y P O' L ρ' σ' H')(ho:∀b,O' b->AvO O ρ σ b)(hn:∀i b,(i,b)∈L->H b=none):Go (AvO O ρ σ) (AvO O' ρ' σ') (fun _=>False) H H' where
 k:=fun b o e _=>r.same b o (by rw[hH];exact e) fun i m=>by rw[hn i b m] at e;cases e
 m:=fun _ z=>z.elim
 n:=fun b z=>by
  rcases z with z|⟨i,w,d,e1,e2,e3⟩
  ·exact .inl (ho b z)
  ·cases w with
   | o c=>
    have z:=r.new i c b e1 e3;unfold hz at z;split at z
    ·rename_i m;exact .inr (hn none b m)
    ·exact .inr (by rw[<-hH];exact z)
   | l c=>obtain⟨b',q1,q2⟩:=r.lnt i c e1;rw[e3] at q1;cases q1;exact .inr (hn (some i) b q2)
   | _=>cases e2
theorem J7 {X:Cx}{tg:Expr}{pos:Pos}(i:Nat){x:Str}(hN:X.N[i]? =some x:=by rfl)(hv:Vis X.env.scope x:=by first|exact Or.inl rfl|exact Or.inr (Or.inl rfl)|exact Or.inr (Or.inr rfl))(hd:(x==("__debug__":Str))=false:=by decide)(hcd:(x==("__classdict__":Str))=false:=by decide):QIB X none tg (.Name x pos) (fiName i):=⟨PI.weak (b1s (a4v hN hv hd hcd)) fun σ H R h0=>tIBe h0 fun P O L ρ xs ρ' r e q=>by
 unfold fiName at e;split at e
 ·rename_i d0 e0;obtain⟨v,h1,h2⟩:=r.slot i _ e0;have h2:Den X.K (AvO O ρ σ) H d0 v:=h2;obtain⟨ys,e3,e⟩:=oms e;cases e;have r3:=r.more (p:=(d0,v)) h2;have hh:Holds ((d0,v)::P) P:=fun p hp=>zI _ hp;refine⟨v,h1,?_⟩;cases d0 with
  | tup zs=>
   cases e3;have z:=h2;rw[Den] at z;obtain⟨a,vs,rfl,hq,l⟩:=z;refine .inr ⟨a,rfl,⟨vs,hq⟩,q _ H _ r3 hh (Wks.b fun Y O' L' ρ' σ' Hh hY rr=>?_)⟩;have z:=rr.head;rw[hY] at z;rw[Den] at z;obtain⟨a',vs,ea,hq,l⟩:=z;cases ea;refine⟨fun i x ex=>?_,vs,hq,by rw[<-c6 l];exact zE _⟩
   obtain⟨v0,hv,dv⟩:=z6 l ex;exact⟨⟨vs,v0,hq,hv⟩,fun w H' ⟨y1,y2⟩=>by subst y1;have:=y2 vs hq;rw[hv] at this;cases this;exact⟨Same.refl _,dv⟩⟩
  | lst zs=>
   cases e3;obtain⟨a,vs,rfl,hq,l⟩:=F2 h2;refine .inl ⟨a,rfl,⟨vs,hq⟩,q _ H _ r3 hh (Wks.b fun Y O' L' ρ' σ' Hh hY rr=>?_)⟩;have z:=rr.head;rw[hY] at z;obtain⟨a',vs,ea,hq,l⟩:=F2 z;cases ea;refine⟨fun i x ex=>?_,vs,hq,by rw[<-c6 l];exact zE _⟩
   obtain⟨v0,hv,dv⟩:=z6 l ex;exact⟨⟨vs,v0,hq,hv⟩,fun w H' ⟨y1,y2⟩=>by subst y1;have:=y2 vs hq;rw[hv] at this;cases this;exact⟨Same.refl _,dv⟩⟩
  | _=>cases e3
 ·cases e
 ·rename_i w0 _ _ e0;cases ew:w0.own with
  | none=>rw[ew] at e;cases e
  | some c=>
   rw[ew] at e;cases c with
   | lst zs=>
    cases e;obtain⟨a,h1,h2⟩:=r.obj e0 ew;refine⟨.ref a,h1,?_⟩;obtain⟨vs,h4,lz⟩:=h2;refine .inl ⟨a,rfl,⟨vs,.inl (.inl h4)⟩,q _ H P r (fun p hp=>hp) fun Y O' L' ρ2 σ2 Hh hY hH rr ho hn=>?_⟩;have g:=b4H hH rr ho (hn rfl);have l2:=w4 g _ _ lz;have h5:Hh a=some (.lst vs):=g.k a _ h4 id;have hq:SqL X.K Hh a vs:=.inl (.inl h5);refine⟨fun i x ex=>?_,vs,hq,by rw[<-c6 lz];exact zE _⟩
    obtain⟨v0,hv,dv⟩:=z6 l2 ex;exact⟨⟨vs,v0,hq,hv⟩,fun w H' ⟨y1,y2⟩=>by subst y1;have:=y2 vs hq;rw[hv] at this;cases this;exact⟨Same.refl _,dv⟩⟩
   | _=>cases e
 ·cases e⟩
def appTo (k:Nat) (p:W×Ev):Option Ev:=(takeAll p.2 [p.1.fz]).bind fun q=>match q.1,ownAt q.2 k with
 | [d],some (.lst zs)=>if zs.length<lim then some (setOwn q.2 k (.lst (zs++[d]))) else none
 | _,_=>none
def turnC (k:Nat) (gf:FG) (t:FT) (fe:FX):D->Ev->Option Ev:=fun x ρ=>(gf x ρ).bind fun ρ1=>(t ρ1).bind fun p=>if p.1=true then(fe p.2).bind (appTo k) else some p.2
def loopC (st:D->Ev->Option Ev):List D->Ev->Option Ev
 | [],ρ=>some ρ
 | x::xs,ρ=>(st x ρ).bind (loopC st xs)
section
variable {X:Cx}{pins:List (Addr×PySem.Obj)}{σ:L2.St}{H2:Hp}{s2:Shared}{scope:Scope}{cl:List (Str×Addr)}{N:List Str}{js:List (Option Nat)}{fp:List Addr}{it:Addr}{tn:Nat->Heap->Prop}{J:It}{elt tg iter:Expr}{ifs:List Expr}{pos:Pos}{P:List (D×V)}{O:Av}{L:List (Option Nat×Addr)}{ρ ρe:Ev}{xs:List D}{gf:FG}{t:FT}{fe:FX}{Qq:Value->Shared->Prop}{use:Option (Value->Sem Unit)}{li:Option (Nat×Nat)}
def turnG (gf:FG) (t:FT) (stp:Ev->Option Ev):D->Ev->Option Ev:=fun x ρ=>(gf x ρ).bind fun ρ1=>(t ρ1).bind fun p=>if p.1=true then stp p.2 else some p.2
theorem a3n {new:Sem Value}{ce:Expr}{ob0:PySem.Obj}{o0:HO}{d0:D}{stp:Ev->Option Ev}{el:Env->Addr->Shared->(Shared->Prop)->Prop}
  (hnew:∀{Q:Value->Shared->Prop},Q (.ref s2.heap.objs.size) {s2 with heap:=s2.heap.push ob0}->wpAny (model X.prog X.w) X.A new Q X.xe s2) (hob:∀A H a,H a=some o0->Obj X.K A H a d0) (hok:HOk X.prog X.w (upd H2 s2.heap.objs.size o0) (s2.heap.push ob0))
  (hloop:∀{Dd:Addr} {env:Env} {R:Result->Shared->Prop} {s:Shared} (I:Nat->Shared->Prop),(∀n s,I n s->wpAny (model X.prog X.w) X.A (pyNext (.ref it)) (fun r s1=>match r with
   | none=>R (.ok .next) s1
   | some v=>wpAny (model X.prog X.w) X.A (letOwnedTupleGo tg (.ref it) v) (fun _ s2=>wpAny (model X.prog X.w) X.A (assign tg env v) (fun _ s3=>
     wpAny (model X.prog X.w) X.A (forIn ifs true fun c r=>if r=true then do let ok <-isTrue c env (eval c env);pure (ForInStep.yield ok) else pure (ForInStep.yield r)) (fun ok s4=>
      if ok=true then el env Dd s4 (fun s6=>∃m,m<n/\I m s6) else ∃m,m<n/\I m s4) Fa s3) Fa s2) Fa s1) Fa s)->∀n,I n s->codeAny (model X.prog X.w) X.A (.compLoop ce 0 (.ref it) (.ref Dd) env) R s)
  (hstart:∀{acc:Value} {env:Env} {R:Result->Shared->Prop} {s:Shared},codeAny (model X.prog X.w) X.A (.compLoop ce 0 (.ref it) acc env) R s->wpAny (model X.prog X.w) X.A (pyIter (.ref it)) (fun it' s'=>codeAny (model X.prog X.w) X.A (.compLoop ce 0 it' acc env) R s') (notedBy (model X.prog X.w) X.A env fun x s'=>R (.error x) s') s->codeAny (model X.prog X.w) X.A (.compStart ce 0 (.ref it) acc env) R s)
  (hE:∀{C Dd:Addr} {qs:List (Addr×PySem.Obj)} {σ6:L2.St} {H7:Hp} {s7:Shared} {O':Av} {L':List (Option Nat×Addr)} {ρ2 ρt:Ev} {K:Shared->Prop},(some js.length,Dd)∈L'->Inv (blk X scope cl s2 H2 fp C (N++[accN])) qs σ6 H7 s7->Rep (blk X scope cl s2 H2 fp C (N++[accN])) P O' L' ρ2 σ6 H7->stp ρ2=some ρt->(∀{s8 H8},Inv (blk X scope cl s2 H2 fp C (N++[accN])) qs σ6 H8 s8->Rep (blk X scope cl s2 H2 fp C (N++[accN])) P O' L' ρt σ6 H8->K s8)->el (compEnvC scope cl C X.env) Dd s7 K)
  (hcalm:X.calm=true) (I2:Inv X pins σ H2 s2) (T:Turn X.prog X.w X.K tg J fp it tn) (st2:tn 0 s2.heap) (f2:∀y∈fp,FpOk X pins H2 y) (b:Blk X scope cl N js) (r:Rep X P O L ρ σ H2) (hl:LiOk li js ρ) (wk:WksB li X.K P O ρ σ H2 xs J)
  (hg:∀C,QG (blk X scope cl s2 H2 fp C (N++[accN])) tg gf) (ht:∀C,Tst (blk X scope cl s2 H2 fp C (N++[accN])) ifs t)
  (e:loopC (turnG gf t stp) xs (capE (li.map (·.2)) js ρ++[some (.l d0)])=some ρe)
  (fin:∀(Dd C:Addr) (σe:L2.St) (He:Hp) (s1:Shared),H2 Dd=none->s2.heap.objs.size<=C->Inv (blk X scope cl s2 H2 fp C (N++[accN])) [] σe He s1->Rep (blk X scope cl s2 H2 fp C (N++[accN])) P (fun b=>AvO O ρ σ b/\¬Capd ρ σ js b) ((some js.length,Dd)::lentL li σ) ρe σe He->
   compPost (model X.prog X.w) X.A X.xe use Qq (.ref Dd) C (.ok .next) s1):
  wpAny (model X.prog X.w) X.A new (fun acc s3=>wpAny (model X.prog X.w) X.A (newFunctionEnv scope X.env.globals cl [] X.env.qual none .none (some X.env)) (fun cenv s4=>
   codeAny (model X.prog X.w) X.A (.compStart ce 0 (.ref it) acc {cenv with scope:=relabel scope X.env}) (compPost (model X.prog X.w) X.A X.xe use Qq acc cenv.locals) s4) X.xe s3) X.xe s2:=by
 have fl:∀y∈fp,y<s2.heap.objs.size:=fun y hy=>by obtain⟨o,eo,_⟩:=T.obj _ _ st2 y hy;exact zW eo
 refine hnew (wpAny_newFunctionEnv b.cell (by intro y hy;simp at hy) (fun h' hns hsb=>?_) b.kind)
 dsimp only at hns hsb ⊢;generalize hH:s2.heap.push ob0=H3 at hok hns hsb ⊢;have hC:H3.objs.size=s2.heap.objs.size+1:=by rw[<-hH,yC]
 have ne:s2.heap.objs.size≠H3.objs.size:=by rw[hC];exact zT (Nat.lt_succ_self _)
 have leC:s2.heap.objs.size<=H3.objs.size:=by rw[hC];exact Nat.le_succ _
 have kp3:∀y o,s2.heap.get? y=some o->H3.get? y=some o:=fun y o e=>hH▸zD _ e;have kp4:∀y o,H3.get? y=some o->h'.get? y=some o:=fun y o e=>hsb.extBut y o (zT (zW e)) (zD _ e);have hDn:H2 s2.heap.objs.size=none:=I2.hok.fresh (zE _);have I4:=a7S (s4:={s2 with heap:=h',toks:=s2.toks+([]:List (Str×Value)).length}) (Dd:=s2.heap.objs.size) (C:=H3.objs.size) I2 b f2 fl leC (zE _) ne rfl I2.bare (fun y o e=>kp4 y o (kp3 y o e)) hns (hok.kept kp4)
 have R4:=a7o (d0:=d0) (o0:=o0) (fun A H=>hob A H _) (scope:=scope) (cl:=cl) (N:=N) (s2:=s2) (fp:=fp) (C:=H3.objs.size) (Dd:=s2.heap.objs.size) r hl hDn;have hfree:∀{H':Hp},(∀y∈fp,H' y=none)->∀y∈fp,FpOk (blk X scope cl s2 H2 fp H3.objs.size (N++[accN])) [] H' y:=fun hn y hy=>
  ⟨hn y hy,zT (zK (fl y hy) leC),fun z=>(zX.mp (I2.stkSub y z)).elim (f2 y hy).2.1 (f2 y hy).2.2.1,.inl hy,fun x c ec=>(f2 y hy).2.2.2.2.1 x c (b.sub x c ec),fun p hp=>absurd (show p∈([]:List (Addr×PySem.Obj)) from hp) (by simp)⟩
 obtain⟨gg,pg,kg⟩:=(hg H3.objs.size).to;have loop:∀s5:Shared,s5={s2 with heap:=h',toks:=s2.toks+([]:List (Str×Value)).length}->
   codeAny (model X.prog X.w) X.A (.compLoop ce 0 (.ref it) (.ref s2.heap.objs.size) (compEnvC scope cl H3.objs.size X.env))
    (compPost (model X.prog X.w) X.A X.xe use Qq (.ref s2.heap.objs.size) H3.objs.size) s5:=by
  rintro s5 rfl
  let Y:=blk X scope cl s2 H2 fp H3.objs.size (N++[accN])
  let O':Av:=fun b=>AvO O ρ σ b/\¬Capd ρ σ js b
  let L':=(some js.length,s2.heap.objs.size)::lentL li σ
  refine hloop (fun n s=>∃i σ' H' ρ',n=xs.length-i/\i<=xs.length/\Inv Y [] σ' H' s/\tn i s.heap/\(∀y∈fp,H' y=none)/\Rep Y P O' L' ρ' σ' H'/\loopC (turnG gf t stp) (xs.drop i) ρ'=some ρe) ?_ xs.length
   ⟨0,_,_,_,by simp,jN _,I4,T.keep 0 _ _ st2 fun y hy o eo=>kp4 y o (kp3 y o eo),fun y hy=>by rw[g8 (zT (fl y hy))];exact(f2 y hy).1,R4,by simpa using e⟩
  rintro n s ⟨i,σ',H',ρ',rfl,hi,I,st,fr,rp,el⟩;obtain⟨wi,ws⟩:=wk Y O' L' ρ' σ' H' rfl rfl rp (fun b z=>z.1) (fun z i b m=>by subst z;exact(zX.mp m).elim (fun m=>by cases m;exact hDn) (fun m=>by cases m))
  by_cases hlt:i<xs.length
  ·obtain⟨go,yl⟩:=wi i xs[i] (by simp[hlt])
   refine zF (T.item Y rfl rfl rfl hcalm i [] s σ' H' Fa I (hfree fr) st go) (fun r s1 ⟨u,hr,h1⟩=>?_) fun _ _ z=>z;subst hr;refine zF h1 (fun _ s3 ⟨x,H5,I5,r5,y5,st5,fr5⟩=>?_) fun _ _ z=>z;obtain⟨sm5,dx⟩:=yl x H5 y5
   replace rp:=rp.grow sm5
   rw[xZ hlt,loopC] at el;cases e1:turnG gf t stp xs[i] ρ' with
   | none=>rw[e1] at el;cases el
   | some ρt=>
    rw[e1] at el;simp only[bind_some] at el;unfold turnG at e1;cases e2:gf xs[i] ρ' with
    | none=>rw[e2] at e1;cases e1
    | some ρ1=>
     rw[e2] at e1;simp only[bind_some] at e1;obtain⟨⟨k,ρ2⟩,e3,e1⟩:=obs e1;dsimp only at e1;have I5':=I5.pinned (hfree fr5) (T.obj _ _ st5);have gq:=kg P O' L' xs[i] x ρ' ρ1 σ' H5 (fun σ2 Hh=>Rep Y P O' L' ρ1 σ2 Hh) rp dx e2 (fun σ2 H2' rp2=>rp2);refine zF (pg _ s3 σ' H5 x u _ I5' r5 gq) (fun _ s6 ⟨σ6,H6,I6,rp6⟩=>?_) fun _ _ z=>z;have back:∀{s7:Shared} {H7:Hp} {ρ7:Ev},Inv Y ([]++pinsAt fp s3.heap) σ6 H7 s7->Rep Y P O' L' ρ7 σ6 H7->loopC (turnG gf t stp) (xs.drop (i+1)) ρ7=some ρe->
       ∃m,m<xs.length-i/\∃i σ' H' ρ',m=xs.length-i/\i<=xs.length/\Inv Y [] σ' H' s7/\tn i s7.heap/\(∀y∈fp,H' y=none)/\Rep Y P O' L' ρ' σ' H'/\loopC (turnG gf t stp) (xs.drop i) ρ'=some ρe:=fun{s7 H7 ρ7} I7 rp7 e7=>by
      refine⟨xs.length-(i+1),by walk_at "o",i+1,σ6,H7,ρ7,rfl,hlt,I7.unpinned,T.keep _ _ _ st5 fun y hy o eo=>(I7.pin (y,o) (qA _ (qA _ (B0 hy eo)))).1,fun y hy=>?_,rp7,e7⟩
      obtain⟨o,eo,_⟩:=T.obj _ _ st5 y hy;exact(I7.pin (y,o) (qA _ (qA _ (B0 hy eo)))).2.1
     refine zF ((ht H3.objs.size).to _ s6 σ6 H6 P O' L' ρ1 ρ2 k (fun k' Hh=>k'=k/\Rep Y P O' L' ρ2 σ6 Hh) I6 rp6 e3 (fun H' rr=>⟨rfl,rr⟩)) (fun ok s7 ⟨H7,I7,hk,rp7⟩=>?_) fun _ _ z=>z;subst hk;cases ok with
     | false=>
      rw[if_neg zP] at e1 ⊢;cases e1;exact back I7 rp7 el
     | true=>
      rw[if_pos rfl] at e1 ⊢;exact hE zJ I7 rp7 e1 fun I8 rp8=>back I8 rp8 el
  ·have hie:i=xs.length:=by walk_at "o"
   subst hie;refine zF (T.done Y rfl rfl rfl hcalm _ [] s σ' H' Fa I (hfree fr) st ws) (fun r s1 ⟨hr,I1⟩=>?_) fun _ _ z=>z;subst hr;rw[List.drop_eq_nil_of_le (zE _),loopC] at el;cases el;exact fin _ _ σ' H' s1 hDn leC I1 rp
 exact hstart (loop _ rfl) (T.self _ 0 _ _ _ (T.keep 0 _ _ st2 fun y hy o eo=>kp4 y o (kp3 y o eo)) (loop _ rfl))
theorem a9o (hcalm:X.calm=true)(I2:Inv X pins σ H2 s2)(T:Turn X.prog X.w X.K tg J fp it tn)(st2:tn 0 s2.heap)(f2:∀y∈fp,FpOk X pins H2 y)(b:Blk X scope cl N js)(r:Rep X P O L ρ σ H2)(hl:LiOk li js ρ)(wk:WksB li X.K P O ρ σ H2 xs J)
  (hg:∀C,QG (blk X scope cl s2 H2 fp C (N++[accN])) tg gf) (ht:∀C,Tst (blk X scope cl s2 H2 fp C (N++[accN])) ifs t) (he:∀C,QX (blk X scope cl s2 H2 fp C (N++[accN])) elt fe)
  (e:loopC (turnC js.length gf t fe) xs (capE (li.map (·.2)) js ρ++[some (.l (.lst []))])=some ρe)
  (fin:∀(Dd C:Addr) (σe:L2.St) (He:Hp) (s1:Shared),H2 Dd=none->s2.heap.objs.size<=C->Inv (blk X scope cl s2 H2 fp C (N++[accN])) [] σe He s1->Rep (blk X scope cl s2 H2 fp C (N++[accN])) P (fun b=>AvO O ρ σ b/\¬Capd ρ σ js b) ((some js.length,Dd)::lentL li σ) ρe σe He->
   compPost (model X.prog X.w) X.A X.xe use Qq (.ref Dd) C (.ok .next) s1):
  wpAny (model X.prog X.w) X.A (newList []) (fun acc s3=>wpAny (model X.prog X.w) X.A (newFunctionEnv scope X.env.globals cl [] X.env.qual none .none (some X.env)) (fun cenv s4=>
   codeAny (model X.prog X.w) X.A (.compStart (.ListComp elt [⟨tg,iter,ifs,0⟩] scope pos) 0 (.ref it) acc {cenv with scope:=relabel scope X.env}) (compPost (model X.prog X.w) X.A X.xe use Qq acc cenv.locals) s4) X.xe s3) X.xe s2:=
 a3n (new:=newList []) (ob0:={cls:=.type "list",dict:=none,data:=.seq ([]:List Value).toArray}) (o0:=.lst []) (d0:=.lst []) (stp:=fun ρ=>(fe ρ).bind (appTo js.length)) (el:=fun env a s K=>wpAny (model X.prog X.w) X.A (eval elt env) (fun x s5=>wpAny (model X.prog X.w) X.A (call (.builtin "list.append") [.ref a,x]) (fun _ s6=>K s6) Fa s5) Fa s)
  (fun h=>qD h) (fun _ _ _ e=>⟨[],e,k5⟩) (I2.hok.laid (fun y o e=>zD _ e) (zE _) ⟨jN _,[],0,.nil,zS _ rfl⟩) (fun I t n h=>a8Q I t n h) codeAny_compStart_list
  (fun{C Dd qs σ6 H7 s7 O' L' ρ2 ρt K} hL I7 rp7 e1 back=>by
   obtain⟨⟨w,ρ3⟩,e4,e1⟩:=obs e1;simp only[appTo] at e1;obtain⟨⟨ds,ρ4⟩,e5,e1⟩:=obs e1;dsimp only at e1;split at e1
   ·rename_i d zs e6;split at e1
    ·rename_i hl;cases e1;refine zF ((he C).to _ s7 σ6 H7 (fun v H8=>Rep (blk X scope cl s2 H2 fp C (N++[accN])) P O' L' ρ4 σ6 H8/\Den X.K (AvO O' ρ4 σ6) H8 d v) I7 ⟨P,O',L',ρ2,w,ρ3,rp7,e4,fun v H8 H8' r8 s8 d8=>?_⟩) (fun u8 s8 ⟨v8,H8,I8,r8,rp8,d8⟩=>?_) fun _ _ z=>z
     ·obtain⟨r9,l9,_⟩:=n8 (vs:=[v]) (r8.grow s8) e5 ⟨v,[],rfl,d8.fz r8 s8,rfl⟩;obtain⟨v',ev,h'⟩:=denL1 l9;cases ev;exact⟨r9,h'⟩
     ·obtain⟨d0,q1,q2⟩:=rp8.lnd js.length Dd hL;have e6':=e6;unfold ownAt at e6';rw[q1] at e6';cases e6';obtain⟨a,h1,vs,h4,lz⟩:=rp8.obj q1 rfl;rw[q2] at h1;cases h1;have h9:=a1g _ s8 σ6 H8 (.ref Dd) [v8] (.ref Dd) [u8] (fun v H9=>H9=upd H8 Dd (.lst (vs++[v8]))) I8 rfl (.cons r8 .nil) ⟨_,vs,v8,rfl,rfl,h4,by rw[<-c6 lz];exact zK hl t7,rfl⟩
      refine zF h9 (fun _ s9 ⟨v9,H9,I9,_,e9⟩=>?_) fun _ _ z=>z;subst e9;have g0:Go (AvO O' ρ4 σ6) (AvO O' ρ4 σ6) (fun b=>b=Dd) H8 (upd H8 Dd (.lst (vs++[v8]))):=⟨fun b o eb nb=>by rw[g8 nb];exact eb,fun b z=>by rw[z];exact⟨.inr ⟨js.length,_,_,q1,rfl,q2⟩,_,h4,trivial⟩,fun b z=>.inl z⟩
      exact back I9 (rp8.mut (d:=.lst (zs++[d])) e6 q2 (fun b o eb nb=>by rw[g8 nb];exact eb) ⟨_,p9,w4 g0 _ _ (t5 lz (j8 d8 k5))⟩)
    ·cases e1
   ·cases e1) hcalm I2 T st2 f2 b r hl wk hg ht e fin
theorem a2H {C:Addr}{σe:L2.St}{He:Hp}{s1:Shared}{h9:Heap}(I2:Inv X pins σ H2 s2)(f2:∀y∈fp,FpOk X pins H2 y)(leC:s2.heap.objs.size<=C)(I1:Inv (blk X scope cl s2 H2 fp C (N++[accN])) [] σe He s1)(hs9:∀y,y≠C->h9.get? y=s1.heap.get? y):
  Inv X pins σ He {s1 with heap:=h9}:=by
 have neC:∀y,He y≠none->y≠C:=fun y z w=>z (by rw[w];exact I1.free)
 have inS:∀y o,s2.heap.get? y=some o->y≠C:=fun y o e0=>zT (zK (zW e0) leC);have B:=I1.base
 have un:Un (frs X.stack) fp H2 He s2.heap h9:=⟨fun y o e0 n hb hx=>(hs9 y (inS y o e0)).trans (B.keep y o e0 n hb hx),fun y o e0 n hb hx=>by
   obtain⟨sl',z⟩:=B.slot y o e0 n hb hx;exact⟨sl',(hs9 y (inS y o e0)).trans z⟩,B.free,fun y o e0 hx=>by
   obtain⟨o',z⟩:=B.there y o e0 hx
   exact⟨o',(hs9 y (inS y o e0)).trans z⟩,B.tups,B.frzs,B.tbls⟩
 have hok:HOk X.prog X.w He h9:=fun y u0 q0=>(I1.hok y u0 q0).stay (fun c v hc z=>(hs9 c (neC c (by
   rcases hc with w|w
   ·rw[w,q0];exact fun z=>nomatch z
   ·rw[w];exact fun z=>nomatch z))).trans z) (fun _ z=>z) fun _ _ z=>z
 exact I2.call' (s':={s1 with heap:=h9}) (ch:=fp) I1.os un hok I1.bare (fun y hy=>⟨(f2 y hy).2.2.2.1,(f2 y hy).2.1,(f2 y hy).2.2.2.2.1,(f2 y hy).2.2.2.2.2⟩)
end
def capR (js:List (Option Nat)):List W:=js.filterMap fun o=>o.map W.r
def backG (li:Option (Nat×Nat)) (js:List (Option Nat)) (ρe ρ1:Ev) (d:D):Option (W×Ev):=match li with
 | none=>if lfC d=true then some (.o d,ρ1) else(frzL (capR js) ρ1).map fun ρ2=>(.o d,ρ2)
 | some (i,j)=>if lfC d=true then(ownAt ρe i).bind fun c=>if lfC c=true then some (.o d,setOwn ρ1 j c) else none else none
def liJ (li:Option (Nat×Nat)) (js:List (Option Nat)):Bool:=match li with
 | none=>true
 | some (i,j)=>js[i]? == some (some j)&&(List.range js.length).all fun k=>js[k]? != some (some j)||k==i
def liB (li:Option (Nat×Nat)) (ρ:Ev):Bool:=match li with
 | none=>true
 | some (_,j)=>(ownAt ρ j).isSome
def fComp (fi:FI) (li:Option (Nat×Nat)) (js:List (Option Nat)) (gf:FG) (t:FT) (fe:FX):FX:=fun ρ=>(fi ρ).bind fun p=>if liB li p.2=true then
  (loopC (turnC js.length gf t fe) p.1 (capE (li.map (·.2)) js p.2++[some (.l (.lst []))])).bind fun ρe=>match ownAt ρe js.length with
   | some (.lst ys)=>backG li js ρe p.2 (.lst ys)
   | _=>none
 else none
section
variable {X:Cx}{pins:List (Addr×PySem.Obj)}{σ σe:L2.St}{H2 He:Hp}{s2:Shared}{scope:Scope}{cl:List (Str×Addr)}{N:List Str}{js:List (Option Nat)}{fp:List Addr}{Dd C:Addr}{elt tg iter:Expr}{ifs:List Expr}{pos:Pos}{P:List (D×V)}{O:Av}{L:List (Option Nat×Addr)}{ρ ρ2 ρe:Ev}{w:W}{ys:List D}{fi:FI}{gf:FG}{t:FT}{fe:FX}{li:Option (Nat×Nat)}
theorem b2p (h:liJ li js=true)(hb:liB li ρ=true):LiOk li js ρ:=by
 cases li with
 | none=>exact⟨nofun,nofun,nofun⟩
 | some p=>
  obtain⟨i,j⟩:=p;simp only[liJ,jJ,beq_iff_eq,xQ,jS,Bool.or_eq_true,bne_iff_ne] at h;simp only[liB,isSome_iff_exists] at hb;refine⟨fun i' j' e=>by cases e;exact hb,fun i' j' e=>by cases e;exact h.1,fun i' j' k e ek=>?_⟩
  cases e;rcases h.2 k (zG.mp ek).1 with z|z
  ·exact absurd ek z
  ·exact z
theorem b1c {j:Nat}:W.r j∈capR js↔some j∈js:=by
 unfold capR;rw[mem_filterMap];constructor
 ·rintro⟨o,h1,h2⟩;cases o with
  | none=>cases h2
  | some k=>cases h2;exact h1
 ·exact fun h=>⟨some j,h,rfl⟩
theorem a4i (r:Rep X P O L ρ σ H2)(hl:LiOk li js ρ)(hn:H2 Dd=none)(rp:Rep (blk X scope cl s2 H2 fp C (N++[accN])) P (fun b=>AvO O ρ σ b/\¬Capd ρ σ js b) ((some js.length,Dd)::lentL li σ) ρe σe He)
  {d0:D} (ey:ownAt ρe js.length=some d0) (e:backG li js ρe ρ d0=some (w,ρ2)):∃Hx,Rep X P O L ρ2 σ Hx/\Same Hx He/\DenW X.K (AvO O ρ2 σ) σ Hx He w (.ref Dd):=by
 obtain⟨c0,q0,ob⟩:=rp.lents js.length Dd zJ;rw[ey] at q0;cases q0;cases li with
 | none=>
  have sm:Same H2 He:=fun b o eb=>rp.same b o eb fun i m=>by
   rcases zX.mp m with m|m
   ·cases m;rw[hn] at eb;cases eb
   ·cases m
  unfold backG at e;simp only at e;split at e
  ·rename_i hf;cases e;exact⟨H2,r,sm,Dd,rfl,hn,S9 (d:=d0) (fun _ _ e _=>e) hf rfl ob⟩
  ·obtain⟨ρ3,e4,e⟩:=oms e;cases e;obtain⟨r2,k2⟩:=Q0 r e4;refine⟨H2,r2,sm,Dd,rfl,hn,A2 (A3 fun b z=>?_) rfl ob⟩;rcases z with z|z
   ·obtain⟨z1,z2⟩:=Z4 r k2 z;exact .inl ⟨z1,fun⟨j,w,d,m,q⟩=>z2 ⟨j,w,d,b1c.mpr m,q⟩⟩
   ·exact .inr ⟨js.length,by rw[z];exact zJ⟩
 | some p=>
  obtain⟨i,j⟩:=p;unfold backG at e;simp only at e;split at e
  ·rename_i hf;cases e5:ownAt ρe i with
   | none=>rw[e5] at e;cases e
   | some c=>
    rw[e5] at e;simp only[bind_some] at e;split at e
    ·rename_i hc;cases e;obtain⟨c1,ec1⟩:=hl.own i j rfl;obtain⟨w0,q1,ow⟩:=w6 ec1;obtain⟨a,h1,oba⟩:=r.obj q1 ow;obtain⟨u0,eu0,_⟩:=F0 oba;have na:a≠Dd:=fun z=>by rw[z,hn] at eu0;cases eu0
     have mem:(some i,a)∈lentL (some (i,j)) σ:=N5.mpr ⟨j,rfl,h1⟩;obtain⟨c2,ec2,ob2⟩:=rp.lents i a (zI _ mem);rw[e5] at ec2;cases ec2;obtain⟨ur,eur,mur⟩:=F0 ob;have keep:∀b o,H2 b=some o->b≠a->He b=some o:=fun b o eb nb=>rp.same b o eb fun k m=>by
      rcases zX.mp m with m|m
      ·cases m;rw[hn] at eb;cases eb
      ·cases k with
       | none=>exact a2y m
       | some k=>
        obtain⟨j',e1,e2⟩:=N5.mp m;cases e1;rw[h1] at e2;cases e2;exact nb rfl
     refine⟨fun b=>if b=Dd then none else He b,r.mut ec1 h1 (fun b o eb nb=>?_) (S9 (fun b o eb nm=>?_) hc (if_neg na) ob2),fun b o eb=>?_,Dd,rfl,if_pos rfl,S9 (d:=d0) (fun _ _ e _=>e) hf rfl ob⟩
     ·have:b≠Dd:=fun z=>by rw[z,hn] at eb;cases eb
      show(if b=Dd then none else He b)=some o;rw[if_neg this];exact keep b o eb nb
     ·have:b≠Dd:=fun z=>by rw[z,eur] at eb;cases eb;exact nm mur
      show(if b=Dd then none else He b)=some o;rw[if_neg this];exact eb
     ·dsimp only at eb;split at eb
      ·cases eb
      ·exact eb
    ·cases e
  ·cases e
theorem a4R {Q:VK}{Qq:Value->Shared->Prop}{use:Option (Value->Sem Unit)}{H:Hp}{s:Shared}{newPos:Pos}(hc:X.calm=true)(b:Blk X scope cl N js)(hj:liJ li js=true)(hi:QIB X li tg iter fi)
  (hg:∀s2 H2 fp C,QG (blk X scope cl s2 H2 fp C (N++[accN])) tg gf) (ht:∀s2 H2 fp C,Tst (blk X scope cl s2 H2 fp C (N++[accN])) ifs t) (he:∀s2 H2 fp C,QX (blk X scope cl s2 H2 fp C (N++[accN])) elt fe) (hs:∀x,foldedSetIterable iter X.env x=pure x)
  (I:Inv X pins σ H s) (h:tX X (fComp fi li js gf t fe) σ H Q)
  (fin:∀(C:Addr) (v:V) (He:Hp) (s1:Shared),Q v He->(∀h9:Heap,(∀y,y≠C->h9.get? y=s1.heap.get? y)->Inv X pins σ He {s1 with heap:=h9})->FpOk X pins He C->(∃m,s1.heap.Ns C m)->∀vv,RelV v vv->compPost (model X.prog X.w) X.A X.xe use Qq vv C (.ok .next) s1):
  wpAny (model X.prog X.w) X.A (comprehension (.ListComp elt [⟨tg,iter,ifs,0⟩] scope pos) scope X.env newPos (newList []) false (eval iter X.env) use) Qq X.xe s:=by
 obtain⟨P,O,L,ρ,w,ρ',r,e,q⟩:=h;unfold fComp at e;obtain⟨⟨xs,ρ1⟩,e1,e⟩:=obs e;dsimp only at e;split at e
 ·rename_i hb;cases e2:loopC (turnC js.length gf t fe) xs (capE (li.map (·.2)) js ρ1++[some (.l (.lst []))]) with
  | none=>rw[e2] at e;cases e
  | some ρe=>
   rw[e2] at e;simp only[bind_some] at e;split at e
   ·rename_i ys ey;have hl:=b2p hj hb;refine wpAny_comprehension_free rfl hs b.clos b.kind b.nms ?_;refine zF (hi.to pins s σ H _ I ⟨P,O,L,ρ,xs,ρ1,r,e1,fun J H1 P' r1 hh wk=>(⟨P',r1,hh,wk⟩:∃P',Rep X P' O L ρ1 σ H1/\Holds P' P/\WksB li X.K P' O ρ1 σ H1 xs J)⟩) (fun v s1 h1=>zF h1 (fun itv s2 h2=>?_) fun _ _ z=>z) fun _ _ z=>z;obtain⟨it,fp,tn,J,H2,rfl,I2,T,st2,f2,P',r1,hh,wk⟩:=h2;refine a9o hc I2 T st2 f2 b r1 hl wk (hg s2 H2 fp) (ht s2 H2 fp) (he s2 H2 fp) e2 fun Dd C σe He s3 hn leC I1 rp=>?_;obtain⟨Hx,rx,sx,dx⟩:=a4i r1 hl hn rp ey e;obtain⟨m,hm,_⟩:=id I1.loc;refine fin C (.ref Dd) He s3 (q _ Hx He (rx.holds hh) sx dx) (fun h9 k9=>a2H I2 f2 leC I1 k9) ?_ ⟨m,hm⟩ (.ref Dd) rfl;exact I2.fpOk leC I1.free
   ·cases e
 ·cases e
theorem z7 (hc:X.calm=true)(b:Blk X scope cl N js)(hi:QIB X li tg iter fi)(hg:∀s2 H2 fp C,QG (blk X scope cl s2 H2 fp C (N++[accN])) tg gf)(ht:∀s2 H2 fp C,Tst (blk X scope cl s2 H2 fp C (N++[accN])) ifs t)(he:∀s2 H2 fp C,QX (blk X scope cl s2 H2 fp C (N++[accN])) elt fe)
  (hj:liJ li js=true:=by rfl) (hs:∀x,foldedSetIterable iter X.env x=pure x:=by intro _;rfl):QX X (.ListComp elt [⟨tg,iter,ifs,0⟩] scope pos) (fComp fi li js gf t fe):=⟨fun pins s σ H Q I h=>by
 rw[eval_ListComp];refine a4R (use:=none) hc b hj hi hg ht he hs I h fun C v He s1 hq back fp ⟨m,hm⟩ vv rv=>?_
 exact⟨m,hm,fun h9 k9=>⟨v,He,back h9 fun y ny=>k9.2 y ny,rv,hq⟩⟩⟩
def UseOk (X:Cx) (pins:List (Addr×PySem.Obj)) (σ:L2.St) (Q:VK) (u:Value->Sem Unit) (Rr:Shared->Prop):Prop:=
 ∀(C:Addr) (m:Str->Option Value) (s':Shared) (H':Hp) (v:V) (vv:Value),FpOk X pins H' C->s'.heap.Ns C m->Inv X pins σ H' s'->RelV v vv->Q v H'->
  wpAny (model X.prog X.w) X.A (u vv) (fun _ s2=>∃m,s2.heap.Ns C m/\∀h',Heap.SameBut C s2.heap h'->Rr {s2 with heap:=h'}) X.xe s'
structure QXU (X:Cx) (e:Expr) (f:FX):Prop where
 to:∀(pins:List (Addr×PySem.Obj)) (s:Shared) (σ:L2.St) (H:Hp) (Q:VK) (u:Value->Sem Unit) (Rr:Shared->Prop),Inv X pins σ H s->tX X f σ H Q->UseOk X pins σ Q u Rr->
  wpAny (model X.prog X.w) X.A (evalThenUse e X.env u) (fun _ s'=>Rr s') X.xe s
theorem a95 {M:Model}{A:Around}{E:Value->Shared->Prop}{s:Shared}{env:Env}{elt:Expr}{g:Comprehension}{gs:List Comprehension}{scope:Scope}{pos:Pos}{u:Value->Sem Unit}{Rr:Shared->Prop}
  (h:wpAny M A (comprehension (.ListComp elt (g::gs) scope pos) scope env (firstIterPos (g::gs) pos) (newList []) (firstAsync (g::gs)) (firstIter (g::gs) env) (some u)) (fun _ s'=>Rr s') E s):
  wpAny M A (evalThenUse (.ListComp elt (g::gs) scope pos) env u) (fun _ s'=>Rr s') E s:=by
 show wpAny M A (do let _ <-comprehension (.ListComp elt (g::gs) scope pos) scope env (firstIterPos (g::gs) pos) (newList []) (firstAsync (g::gs)) (firstIter (g::gs) env) (some u)) _ _ s
 exact zA (zF h (fun _ s' hq=>zB hq) fun _ _ e=>e)
theorem b0U (hc:X.calm=true)(b:Blk X scope cl N js)(hi:QIB X li tg iter fi)(hg:∀s2 H2 fp C,QG (blk X scope cl s2 H2 fp C (N++[accN])) tg gf)(ht:∀s2 H2 fp C,Tst (blk X scope cl s2 H2 fp C (N++[accN])) ifs t)(he:∀s2 H2 fp C,QX (blk X scope cl s2 H2 fp C (N++[accN])) elt fe)
  (hj:liJ li js=true:=by rfl) (hs:∀x,foldedSetIterable iter X.env x=pure x:=by intro _;rfl):QXU X (.ListComp elt [⟨tg,iter,ifs,0⟩] scope pos) (fComp fi li js gf t fe):=⟨fun pins s σ H Q u Rr I h hU=>by
 refine a95 (a4R (use:=some u) hc b hj hi hg ht he hs I h fun C v He s1 hq back fp ⟨m,hm⟩ vv rv=>?_)
 exact hU C m s1 He v vv fp hm (back s1.heap fun y _=>rfl) rv hq⟩
end
theorem a06 {prog:Program}{w:World}{A:Around}(hh:A.handled=none){l I:Addr}{its:Array Value}(ne:l≠I):
  Walks prog w A I [I,l] [I] its.size (fun i v=>its[i]? =some v) (fun i h=>h.IsListIter I l i/\h.IsList l its) where
 sub:=fun b hb=>by rw[zN.mp hb];exact zJ
 frame:=fun i h h' ⟨⟨o,e,r⟩,⟨o2,e2,r2⟩⟩ k=>⟨⟨o,k I zJ o e,r⟩,⟨o2,k l (zI _ zJ) o2 e2,r2⟩⟩
 item:=fun i s Q E hi ⟨h1,h2⟩ q=>wpAny_pyNext_list_item h1 h2 (x:=its[i]) (by simp[hi]) fun h' hit hs=>q its[i] h' s.toks (by simp[hi]) ⟨hit,h2.extBut hs.extBut ne⟩ fun b o hb e=>hs.extBut b o (fun z=>hb (by rw[z];exact zN.mpr rfl)) e
 done:=fun s Q E ⟨h1,h2⟩ q=>wpAny_pyNext_list_end hh h1 h2 (by simp) fun h' hx=>q h' s.toks fun b o hb e=>hx b o (fun z=>hb (by rw[z];exact zN.mpr rfl)) e
 self:=fun i s Q E ⟨h1,_⟩ q=>wpAny_pyIter_listiter h1 q
theorem a5c {bs:List Bool}{its:List Value}(r:Vals (bs.map V.bl) its){i:Nat}{v:Value}(e:its.toArray[i]? =some v):v= .bool (bs.getD i false):=by
 rw[List.getElem?_toArray] at e
 induction bs generalizing its i with
 | nil=>cases r;simp at e
 | cons b bs ih=>
  cases r with
  | cons r1 r2=>
   cases i with
   | zero=>simp at e;subst e;exact r1
   | succ i=>exact ih r2 (by simpa using e)
theorem a8a (bs:List Bool)(n:Nat)(hn:n=bs.length):(List.range n).all (fun i=>bs.getD i false)=bs.all id:=by
 subst hn;apply Bool.eq_iff_iff.mpr;simp only[xQ,jS,id];constructor
 ·intro h x hx;obtain⟨i,hi,e⟩:=List.mem_iff_getElem.mp hx
  have:=h i hi
  rw[zQ,qB hi] at this;simpa [e] using this
 ·intro h i hi;rw[zQ,qB hi];exact h _ (getElem_mem hi)
theorem a71 (bs:List Bool)(n:Nat)(hn:n=bs.length):(List.range n).any (fun i=>bs.getD i false)=bs.any id:=by
 subst hn;apply Bool.eq_iff_iff.mpr;simp only[List.any_eq_true,jS,id];constructor
 ·rintro⟨i,hi,h⟩;rw[zQ,qB hi] at h;exact⟨_,getElem_mem hi,by simpa using h⟩
 ·rintro⟨x,hx,h⟩;obtain⟨i,hi,e⟩:=List.mem_iff_getElem.mp hx;refine⟨i,hi,?_⟩;rw[zQ,qB hi];simpa [e] using h
section
variable {X:Cx}
theorem N7 (hc:X.calm=true):CallR X (.builtin "all") (fun xs H Q=>∃(p:Addr) (bs:List Bool),xs=[.ref p]/\SqL X.K H p (bs.map V.bl)/\Q (.bl (bs.all id)) H):=by
 intro pins s σ H xs us Q I r h;obtain⟨p,bs,rfl,hq,q⟩:=h;obtain⟨u,rfl,ru⟩:=vals1 r;cases ru;obtain⟨its,rv,⟨o,m,h1,h2,_,h4⟩,hz⟩:=I.list hq;have hl:s.heap.IsList p its.toArray:=⟨o,h1,h2,m,h4⟩;have ne:p≠s.heap.objs.size:=zT (zW h1);refine call_all_walk (yU hl ⟨s.heap.objs.size,_,_,_,_,_,fun i=>bs.getD i false,rfl,a06 (show X.A.in1.handled=none from I.ok.hd hc) ne,⟨⟨_,zS _ rfl,rfl,rfl⟩,hl.push _⟩,fun i v s' Q' E' hv hq'=>?_,fun h' tk hk=>?_⟩)
 ·rw[a5c rv hv];exact xX hq'
 ·have I1:Inv X pins σ H {s with heap:=h',toks:=tk}:=I.kept (t':=tk) fun b ob e=>hk b ob (fun z=>absurd (zW e) (by rw[zN.mp z];exact jD _)) (zD _ e)
  refine⟨.bl _,H,I1,?_,q⟩;show Value.bool _=Value.bool _;rw[a8a bs _ (by rw[zO,<-rv.length,zC])]
theorem a73 (hc:X.calm=true):CallR X (.builtin "any") (fun xs H Q=>∃(p:Addr) (bs:List Bool),xs=[.ref p]/\SqL X.K H p (bs.map V.bl)/\Q (.bl (bs.any id)) H):=by
 intro pins s σ H xs us Q I r h;obtain⟨p,bs,rfl,hq,q⟩:=h;obtain⟨u,rfl,ru⟩:=vals1 r;cases ru;obtain⟨its,rv,⟨o,m,h1,h2,_,h4⟩,hz⟩:=I.list hq;have hl:s.heap.IsList p its.toArray:=⟨o,h1,h2,m,h4⟩;have ne:p≠s.heap.objs.size:=zT (zW h1);refine call_any_walk (yU hl ⟨s.heap.objs.size,_,_,_,_,_,fun i=>bs.getD i false,rfl,a06 (show X.A.in1.handled=none from I.ok.hd hc) ne,⟨⟨_,zS _ rfl,rfl,rfl⟩,hl.push _⟩,fun i v s' Q' E' hv hq'=>?_,fun h' tk hk=>?_⟩)
 ·rw[a5c rv hv];exact xX hq'
 ·have I1:Inv X pins σ H {s with heap:=h',toks:=tk}:=I.kept (t':=tk) fun b ob e=>hk b ob (fun z=>absurd (zW e) (by rw[zN.mp z];exact jD _)) (zD _ e)
  refine⟨.bl _,H,I1,?_,q⟩;show Value.bool _=Value.bool _;rw[a71 bs _ (by rw[zO,<-rv.length,zC])]
end
section
variable {X:Cx}{b c e:Expr}{p:Pos}{h:FX}{t u:FT}
theorem a5q (i:Int):∀ns:List Int,inV (.int i) (ns.map V.int)=decide (i∈ns)
 | []=>rfl
 | n::ns=>by
  have ih:=a5q i ns;unfold inV at ih ⊢;rw[zH,any_cons,ih];show((n==i)||_)=_
  by_cases h:n=i
  ·simp[h]
  ·have h':¬i=n:=fun z=>h z.symm;simp[h,h']
theorem a3v:∀ns:List Int,(ns.map V.int).all flatV=true
 | []=>rfl
 | n::ns=>by rw[zH,all_cons,a3v ns];rfl
theorem a1G:∀(ns:List Int),preSum (fun i=>ns.getD i 0) ns.length=ns.sum:=by
 have key:∀(ns:List Int) (k:Nat),k<=ns.length->preSum (fun i=>ns.getD i 0) k=(ns.take k).sum:=by
  intro ns k
  induction k with
  | zero=>intro _;simp[preSum]
  | succ k ih=>
   intro h;have h':k<ns.length:=by walk_at "o"
   rw[preSum,ih (by walk_at "o"),take_add_one,qB h',sum_append]
   simp[zQ,qB h']
 intro ns;rw[key ns ns.length (zE _),take_length]
theorem a7P {ns:List Int}{its:List Value}(r:Vals (ns.map V.int) its){i:Nat}{v:Value}(e:its.toArray[i]? =some v):∃t,v= .int (ns.getD i 0) t:=by
 rw[List.getElem?_toArray] at e
 induction ns generalizing its i with
 | nil=>cases r;simp at e
 | cons n ns ih=>
  cases r with
  | cons r1 r2=>
   cases i with
   | zero=>simp at e;subst e;exact r1
   | succ i=>exact ih r2 (by simpa using e)
theorem a8p (hc:X.calm=true):CallR X (.builtin "sum") (fun xs H Q=>∃(p:Addr) (ns:List Int),xs=[.ref p]/\SqL X.K H p (ns.map V.int)/\Q (.int ns.sum) H):=by
 intro pins s σ H xs us Q I r h;obtain⟨p,ns,rfl,hq,q⟩:=h;obtain⟨u,rfl,ru⟩:=vals1 r;cases ru;obtain⟨its,rv,⟨o,m,h1,h2,_,h4⟩,hz⟩:=I.list hq;have hl:s.heap.IsList p its.toArray:=⟨o,h1,h2,m,h4⟩;have lt:p<s.heap.objs.size:=zW h1;refine call_sum_walkG (yU hl ⟨s.heap.objs.size,_,_,_,_,_,fun i=>ns.getD i 0,rfl,a06 (show X.A.in1.handled=none from I.ok.hd hc) (zT lt),⟨⟨_,zS _ rfl,rfl,rfl⟩,hl.push _⟩,fun c hb=>?_,fun i v hv=>a7P rv hv,fun h' tk t' hk=>?_⟩)
 ·show c<(s.heap.push _).objs.size;rw[yC];rcases zX.mp hb with rfl|hb
  ·exact Nat.lt_succ_self _
  ·rw[zN.mp hb];exact Nat.lt_succ_of_lt lt
 ·have I1:Inv X pins σ H {s with heap:=h',toks:=tk}:=I.kept (t':=tk) fun b ob e=>hk b ob (fun z=>absurd (zW e) (by rw[zN.mp z];exact jD _)) (zD _ e)
  refine⟨.int ns.sum,H,I1,⟨t',?_⟩,q⟩;have len:its.toArray.size=ns.length:=by rw[zO,<-rv.length,zC]
  rw[len,a1G]
end
def sortI (ns:List Int):List Int:=ns.mergeSort fun a b=>decide (a<=b)
theorem D4 (ns:List Int):(sortI ns).Perm ns:=List.mergeSort_perm ns _
theorem F5 (ns:List Int):(sortI ns).Pairwise (·<=·):=by
 have z:=List.pairwise_mergeSort (le:=fun a b:Int=>decide (a<=b)) (fun a b c h1 h2=>by
  simp only[yV] at *;walk_at "o") (fun a b=>by
  simp only[Bool.or_eq_true,yV];walk_at "o") ns
 exact z.imp fun h=>by simpa using h
theorem Q1:∀{its:List Value} {ns:List Int},IntsAre its ns->Vals (ns.map V.int) its
 | _,_,.nil=>.nil
 | _,_,.cons a t r=>.cons ⟨t,rfl⟩ (Q1 r)
section
variable {X:Cx}{e:Expr}{p:Pos}
theorem a0w:CallR X (.builtin "sorted") (fun xs H Q=>∃(p:Addr) (ns:List Int),xs=[.ref p]/\SqL X.K H p (ns.map V.int)/\ns.length<64/\∀l,H l=none->Q (.ref l) (upd H l (.lst ((sortI ns).map V.int)))):=by
 intro pins s σ H xs us Q I r h;obtain⟨p,ns,rfl,hq,h64,q⟩:=h;obtain⟨u,rfl,ru⟩:=vals1 r;cases ru;refine yA kind_sorted plain_sorted entry_sorted (args_sorted1 _) ?_;unfold Builtin.«sorted»;refine zA (m:=checkCount "sorted" 1 1 _) (zB ?_);obtain⟨its,rv,⟨o,m,h1,h2,_,h4⟩,hz⟩:=I.list hq;have len:its.length=ns.length:=by rw[<-rv.length,zC]
 have hL:s.heap.IsList p its.toArray:=⟨o,h1,h2,m,h4⟩;have sz:its.length<=sizeLine:=by rw[len,jM];walk_at "o"
 refine zA (collect_list hL ?_ sz);refine zA (wpAny_newList ?_ sz);have I1:Inv X pins σ H {s with heap:=(s.heap.push (seqObj "list" #[] 0)).update s.heap.objs.size (PySem.Obj.mapSeq (· ++ its.toArray))}:=I.kept (t':=s.toks) fun b o e=>by
  rw[xN _ _ _ _ (zT (zW e))];exact zD _ e
 generalize hG:(s.heap.push (seqObj "list" #[] 0)).update s.heap.objs.size (PySem.Obj.mapSeq (· ++ its.toArray))=G at I1 ⊢;have ho:(G.push (seqObj "list" its.toArray 0)).get? G.objs.size=some (seqObj "list" its.toArray 0):=zS _ rfl;refine zA (qI ?_);refine qO PyProof.Rows.slot_list_sort ⟨_,ho,rfl⟩ PyProof.Rows.entry_list_sort (list_sort_tree (n:=0) (vs:=its) ho (J4 rv) (by walk_at "o") fun out ns' hI hp hP=>⟨.none,rfl,?_⟩) (PyProof.Rows.args_list_sort _)
 have es:ns'=sortI ns:=PySem.W.lks_uniq (hp.trans (D4 ns).symm) hP (F5 ns);subst es;have g1:=yP ho (fun _=> #[]);have g2:=yP (zD (seqObj "list" #[] 0) (zD (seqObj "tuple" its.toArray 0) g1)) (fun _=>out);have kept:∀b o,G.get? b=some o->(sortedHeap (G.push (seqObj "list" its.toArray 0)) G.objs.size its out).get? b=some o:=fun b o e=>by
  have ne:b≠G.objs.size:=zT (zW e);unfold sortedHeap;rw[xN _ _ _ _ ne];refine zD _ (zD _ ?_);rw[xN _ _ _ _ ne];exact zD _ e
 refine zB ⟨_,rfl,.ref G.objs.size,_,I1.laid (t':=s.toks) (o:=.lst ((sortI ns).map V.int)) kept (zE _) ?_,rfl,q _ (I1.hok.fresh (zE _))⟩;obtain⟨ep,g3⟩:∃ep,(sortedHeap (G.push (seqObj "list" its.toArray 0)) G.objs.size its out).get? G.objs.size=some (seqObj "list" out.toList.toArray ep):=⟨_,by rw[Array.toArray_toList];exact g2⟩
 exact⟨by rw[zC,(D4 ns).length_eq,jM];walk_at "o",out.toList,_,Q1 hI,g3⟩
end
section
variable {prog:Program}{w:World}{A:Around}{E:Value->Shared->Prop}{s:Shared}
theorem a5Z {t sl:Addr}{items:Array Value}{vl vu:Value}{lo hi:Option Int}{Q:Value->Shared->Prop}(ht:IsTup s.heap t items)(hs:s.heap.IsSliceOf sl vl vu .none)(pl:IsPart vl lo)(pu:IsPart vu hi)
  (hw:HT.sIx items.size 0 lo=0/\HT.sIx items.size items.size hi=items.size) (h:Q (.ref t) s):wpAny (model prog w) A (getItem (.ref t) (.ref sl)) Q E s:=by
 obtain⟨os,hos,hcs,hds⟩:=id hs;have hTs:s.TypeIs (.ref sl) "slice":=⟨os,hos,hcs⟩;unfold getItem
 try with_reducible refine qI ?_
 first|refine zA (zB ?_)|skip
 refine zA (yT ht.typeIs (by decide) ?_)
 refine zA (qE (name:=Str.ofString "__getitem__") ht.typeIs qN
  (qO qN ht.typeIs entry_tuple_getitem ?_ (args_tuple_getitem _ _)))
 show wpAny _ _ (Builtin.Tuple.tupleItemsOf (.ref t) >>=_) _ _ s;refine zA (tupleItemsOf_ ht ?_);refine zA (wpAny_typeOf hTs ?_);rw[if_pos (by decide)]
 refine zA (HT.sliceApplied_gen hs pl pu ?_);show wpAny _ _ (if(((HT.sIx items.size 0 lo:Nat):Int)==0&&(1:Int)==1&&(HT.sIx items.size items.size hi-HT.sIx items.size 0 lo)==items.size)=true then _ else _) _ _ s;rw[if_pos (by rw[hw.1,hw.2];simp)]
 unfold Builtin.Tuple.tupleIsExact;refine zA (zA (wpAny_typeOf ht.typeIs (zB ?_)));rw[if_pos (by decide)]
 first
  | exact zA (jT (zB ⟨_,rfl,zB h⟩))
  | exact zA (jT (zA (zB (zB ⟨_,rfl,zB h⟩))))
end
section
variable {X:Cx}{a b e:Expr}{es:List Expr}{pos p:Pos}{f g h:FX}{t u:FT}{fa:FA}{x:Str}
def rSlF (K:PySem.W.Frag):V->Option Int->Option Int->Hp->VK->Prop:=fun x lo hi H Q=>∃a xs,x= .ref a/\SqT K H a xs/\(HT.sIx xs.length 0 lo=0/\HT.sIx xs.length xs.length hi=xs.length)/\Q (.ref a) H
theorem b2a:SlR X (rSlF X.K):=by
 intro pins s σ H x v vl vu lo hi sl Q I rx hs pl pu h;obtain⟨a,xs,rfl,hx,hw,q⟩:=h;cases rx;obtain⟨its,r,ht,hz⟩:=I.tuple hx;have hlen:its.toArray.size=xs.length:=by rw[zO];exact r.length.symm
 refine⟨"tuple",_,PyProof.Rows.slot_tuple_getitem.lookup,ht.typeIs,?_⟩;exact a5Z ht hs pl pu (by rw[hlen];exact hw) ⟨.ref a,H,I,rfl,q⟩
theorem qx_b {id:String}{r:List V->Hp->VK->Prop}{k:List D->Option W}(hc:CallR X (.builtin id) r)(hk:PrA X k r)(hm:X.mg x=none)(ha:QA X (e::es) fa)(hv:bootBuiltins x=some (.builtin id):=by rfl)(hg:Gl X x:=by rfl)(hn:x≠"__name__":=by decide)(hdb:(x==("__debug__":Str))=false:=by decide)
  (he:starEach (e::es) X.env=(false,eval e X.env)::starEach es X.env:=by rfl) (hpl:(backTo pos (starEach es X.env)).any (·.1)=false:=by rfl):QX X (.Call (.Name x p) (e::es) [] pos) (fCall k fa):=a2h hc hk hv hm ha hg hn hdb he hpl
theorem qx_t {T:String}{r:List V->Hp->VK->Prop}{k:List D->Option W}(hc:CallR X (.type T) r)(hk:PrA X k r)(hm:X.mg x=none)(ha:QA X (e::es) fa)(hv:bootBuiltins x=some (.type T):=by rfl)(hg:Gl X x:=by rfl)(hn:x≠"__name__":=by decide)(hdb:(x==("__debug__":Str))=false:=by decide)
  (he:starEach (e::es) X.env=(false,eval e X.env)::starEach es X.env:=by rfl) (hpl:(backTo pos (starEach es X.env)).any (·.1)=false:=by rfl):QX X (.Call (.Name x p) (e::es) [] pos) (fCall k fa):=a5n hc hk hv hm ha hg hn hdb he hpl
def k1 (g:D->Option W):List D->Option W
 | [d]=>g d
 | _=>none
theorem pr1 {g:D->Option W}{r:List V->Hp->VK->Prop}(h:∀(A:Av) (d:D) (w:W) (v:V) (H:Hp) (Q:VK),g d=some w->DenR X.K A H d v->(∀z H',Same H H'->DenW X.K A [] H H' w z->Q z H')->r [v] H Q):PrA X (k1 g) r:=fun A ds w vs H Q _ e l q=>by
 unfold k1 at e;split at e
 ·obtain⟨v,rfl,h1⟩:=denRL1 l;exact h A _ w v H Q e h1 q
 ·cases e
def k2 (g:Int->Int->D):List D->Option W
 | [.int i,.int j]=>some (.v (g i j))
 | _=>none
theorem pr2 {g:Int->Int->Int}{r:List V->Hp->VK->Prop}(h:∀i j (H:Hp) (Q:VK),Q (.int (g i j)) H->r [.int i,.int j] H Q):PrA X (k2 fun i j=>.int (g i j)) r:=fun A ds w vs H Q _ e l q=>by
 unfold k2 at e;split at e
 ·rename_i i j;cases e;obtain⟨v,v',rfl,h1,h2⟩:=denRL2 l;rw[l5 h1,l5 h2];exact h i j H Q (q _ H (Same.refl H) D0)
 ·cases e
def gLen (d:D):Option W:=(items d).map fun xs=>.v (.int xs.length)
theorem M9:PrA X (k1 gLen) (fun xs H Q=>∃p ys,xs=[.ref p]/\(SqL X.K H p ys\/SqT X.K H p ys)/\Q (.int ys.length) H):=pr1 fun A d w v H Q e h q=>by
 unfold gLen at e;obtain⟨xs,e1,e⟩:=oms e;cases e;obtain⟨a,ws,rfl,hq,lw⟩:=G4 e1 h;exact⟨a,ws,rfl,hq,by rw[<-c6 lw];exact q _ H (Same.refl H) D0⟩
def gAbs:D->Option W
 | .int i=>some (.v (.int (if i<0 then -i else i)))
 | _=>none
theorem b4G:PrA X (k1 gAbs) (fun xs H Q=>∃i,xs=[.int i]/\Q (.int (if i<0 then -i else i)) H):=pr1 fun A d w v H Q e h q=>by
 cases d<;>simp only[gAbs] at e<;>cases e
 exact⟨_,by rw[l5 h],q _ H (Same.refl H) D0⟩
abbrev gMax:=k2 fun i j=>.int (if j>i then j else i)
abbrev gMin:=k2 fun i j=>.int (if j<i then j else i)
theorem a5H:PrA X gMax (fun xs H Q=>∃i j,xs=[.int i,.int j]/\Q (.int (if j>i then j else i)) H):=pr2 fun i j H Q q=>⟨i,j,rfl,q⟩
theorem a2l:PrA X gMin (fun xs H Q=>∃i j,xs=[.int i,.int j]/\Q (.int (if j<i then j else i)) H):=pr2 fun i j H Q q=>⟨i,j,rfl,q⟩
def gInt:D->Option W
 | .bl b=>some (.v (.int (if b then 1 else 0)))
 | _=>none
def gTuple (d:D):Option W:=(items d).map fun xs=>.v (.tup xs)
theorem U5:PrA X (k1 gTuple) (fun xs H Q=>∃p ys,xs=[.ref p]/\((SqL X.K H p ys/\∀l,H l=none->Q (.ref l) (upd H l (.tup ys)))\/(SqT X.K H p ys/\Q (.ref p) H))):=pr1 fun A d w v H Q e h q=>by
 cases d<;>simp only[gTuple,items,Option.map_none] at e<;>first|cases e|skip
 ·rename_i xs;obtain⟨a,vs,rfl,hq,l⟩:=C4 h;exact⟨a,vs,rfl,.inr ⟨hq,q _ H (Same.refl H) h⟩⟩
 ·rename_i xs;obtain⟨a,vs,rfl,hq,l⟩:=h;exact⟨a,vs,rfl,.inl ⟨hq,fun l' hl=>q _ _ (j7 hl _) (O5 hl l)⟩⟩
def gList (d:D):Option W:=(items d).map fun xs=>.o (.lst xs)
theorem b1P:PrA X (k1 gList) (fun xs H Q=>∃p ys,xs=[.ref p]/\(SqL X.K H p ys\/SqT X.K H p ys)/\∀l,H l=none->Q (.ref l) (upd H l (.lst ys))):=pr1 fun A d w v H Q e h q=>by
 unfold gList at e;obtain⟨xs,e1,e⟩:=oms e;cases e;obtain⟨a,ws,rfl,hq,lw⟩:=G4 e1 h;exact⟨a,ws,rfl,hq,fun l hl=>q _ _ (j7 hl _) (v7 hl lw)⟩
def intsOf:List D->Option (List Int)
 | []=>some []
 | .int i::ds=>(intsOf ds).map fun is=>i::is
 | _=>none
theorem u7:∀{ds:List D} {is:List Int},intsOf ds=some is->ds=is.map D.int
 | [],is,e=>by cases e;rfl
 | .int i::ds,is,e=>by
  rw[intsOf] at e;cases e1:intsOf ds with
  | none=>rw[e1] at e;cases e
  | some js=>rw[e1] at e;cases e;rw[zH,<-u7 e1]
 | .non::ds,is,e=>by cases e
 | .bl _::ds,is,e=>by cases e
 | .str _::ds,is,e=>by cases e
 | .tup _::ds,is,e=>by cases e
 | .lst _::ds,is,e=>by cases e
 | .dT _ _::ds,is,e=>by cases e
 | .dK _ _::ds,is,e=>by cases e
 | .exn _::ds,is,e=>by cases e
theorem m5:∀is:List Int,intsOf (is.map D.int)=some is
 | []=>rfl
 | i::is=>by rw[zH,intsOf,m5 is];rfl
theorem q9 {K:PySem.W.Frag}{A:Av}{H:Hp}:∀{is:List Int} {vs:List V},DenL K A H (is.map D.int) vs->vs=is.map V.int
 | [],vs,l=>by rw[xW,DenL] at l;exact l
 | i::is,vs,l=>by
  rw[zH,DenL] at l;obtain⟨v,r,rfl,h,l⟩:=l;rw[u5.mp h,q9 l];rfl
theorem F9 {K:PySem.W.Frag}{A:Av}{H:Hp}:∀ns:List Int,DenL K A H (ns.map D.int) (ns.map V.int)
 | []=>by rw[xW,xW];exact k5
 | n::ns=>by rw[zH,zH];exact j8 (by rw[Den]) (F9 ns)
def boolsOf:List D->Option (List Bool)
 | []=>some []
 | .bl i::ds=>(boolsOf ds).map fun is=>i::is
 | _=>none
theorem a16:∀{ds:List D} {is:List Bool},boolsOf ds=some is->ds=is.map D.bl
 | [],is,e=>by cases e;rfl
 | .bl i::ds,is,e=>by
  rw[boolsOf] at e;cases e1:boolsOf ds with
  | none=>rw[e1] at e;cases e
  | some js=>rw[e1] at e;cases e;rw[zH,<-a16 e1]
 | .non::ds,is,e=>by cases e
 | .int _::ds,is,e=>by cases e
 | .str _::ds,is,e=>by cases e
 | .tup _::ds,is,e=>by cases e
 | .lst _::ds,is,e=>by cases e
 | .dT _ _::ds,is,e=>by cases e
 | .dK _ _::ds,is,e=>by cases e
 | .exn _::ds,is,e=>by cases e
theorem a1L:∀is:List Bool,boolsOf (is.map D.bl)=some is
 | []=>rfl
 | i::is=>by rw[zH,boolsOf,a1L is];rfl
theorem Y1 {K:PySem.W.Frag}{A:Av}{H:Hp}:∀{is:List Bool} {vs:List V},DenL K A H (is.map D.bl) vs->vs=is.map V.bl
 | [],vs,l=>by rw[xW,DenL] at l;exact l
 | i::is,vs,l=>by
  rw[zH,DenL] at l;obtain⟨v,r,rfl,h,l⟩:=l;rw[a14.mp h,Y1 l];rfl
def gBools (r:List Bool->Bool):D->Option W
 | .lst xs=>(boolsOf xs).map fun bs=>.v (.bl (r bs))
 | _=>none
theorem N6 {r:List Bool->Bool}:PrA X (k1 (gBools r)) (fun xs H Q=>∃(p:Addr) (bs:List Bool),xs=[.ref p]/\SqL X.K H p (bs.map V.bl)/\Q (.bl (r bs)) H):=pr1 fun A d w v H Q e h q=>by
 cases d with
 | lst xs=>
  simp only[gBools] at e;obtain⟨bs,e1,e⟩:=oms e;cases e;obtain⟨a,vs,rfl,hq,l⟩:=h;rw[a16 e1] at l;rw[Y1 l] at hq;exact⟨a,bs,rfl,hq,q _ H (Same.refl H) C6⟩
 | _=>cases e
def gSortI:D->Option W
 | .lst xs=>(intsOf xs).bind fun ns=>if ns.length<64 then some (.o (.lst ((sortI ns).map D.int))) else none
 | _=>none
theorem b0Z:PrA X (k1 gSortI) (fun xs H Q=>∃(p:Addr) (ns:List Int),xs=[.ref p]/\SqL X.K H p (ns.map V.int)/\ns.length<64/\∀l,H l=none->Q (.ref l) (upd H l (.lst ((sortI ns).map V.int)))):=pr1 fun A d w v H Q e h q=>by
 cases d with
 | lst xs=>
  simp only[gSortI] at e;cases e1:intsOf xs with
  | none=>rw[e1] at e;cases e
  | some bs=>
   rw[e1] at e;simp only[bind_some] at e;split at e
   ·rename_i hl;cases e;obtain⟨a,vs,rfl,hq,l⟩:=h;rw[u7 e1] at l;rw[q9 l] at hq;exact⟨a,bs,rfl,hq,hl,fun l hl=>q _ _ (j7 hl _) (v7 hl (F9 _))⟩
   ·cases e
 | _=>cases e
def oLtT:D->D->Option W
 | .int i,.int j=>some (.v (.bl (decide (i<j))))
 | .tup xs,.tup ys=>(intsOf xs).bind fun ns=>(intsOf ys).map fun ms=>.v (.bl (HT.lexLt ns ms))
 | _,_=>none
theorem kLtT:Pr2 X oLtT (fun v u H Q=>rI0 (fun i j=>.bl (decide (i<j))) v u H Q\/rLtT X.K v u H Q):=by
 intro A x y w v u H Q _ e hx hy q;unfold oLtT at e;split at e
 ·cases e;exact .inl ⟨_,_,l5 hx,l5 hy,q _ H (Same.refl H) C6⟩
 ·rename_i xs ys;cases e1:intsOf xs with
  | none=>rw[e1] at e;cases e
  | some ns=>
   cases e2:intsOf ys with
   | none=>rw[e1,e2] at e;cases e
   | some ms=>
    rw[e1,e2] at e;cases e;obtain⟨a,vs,rfl,h1,l1⟩:=C4 hx;obtain⟨b,us,rfl,h2,l2⟩:=C4 hy;rw[u7 e1] at l1;rw[u7 e2] at l2;rw[q9 l1] at h1;rw[q9 l2] at h2;exact .inr ⟨a,b,ns,ms,rfl,rfl,h1,h2,q _ H (Same.refl H) C6⟩
 ·cases e
theorem b1b {k:Nat}(hr:Room k X.A)(ha:QX X a f)(hb:QX X b g):QX X (.Compare a [.Lt] [b] pos) (fBin oLtT f g):=a37 (b23.or (a9O (by have:=hr.units;walk_at "o"))) kLtT ha hb
theorem a5P {k:Nat}(hr:Room k X.A)(ha:QX X a f)(hb:QX X b g):QT X (.Compare a [.Lt] [b] pos) (fTest (fBin oLtT f g)):=Q7 (b23.or (a9O (by have:=hr.units;walk_at "o"))) kLtT ha hb
def oInI (neg:Bool) (x y:D):Option W:=match x with
 | .int i=>(items y).bind fun ys=>(intsOf ys).map fun ns=>.v (.bl (if neg then !decide (i∈ns) else decide (i∈ns)))
 | _=>none
theorem kInI {neg:Bool}:Pr2 X (oInI neg) (rIn X.K neg):=by
 intro A x y w v u H Q _ e hx hy q;cases x with
 | int i=>
  simp only[oInI] at e;cases e1:items y with
  | none=>rw[e1] at e;cases e
  | some ys=>
   rw[e1] at e;simp only[bind_some] at e;obtain⟨ns,e2,e⟩:=oms e;cases e;obtain⟨p,vs,rfl,hq,l⟩:=G4 e1 hy;rw[u7 e2] at l;rw[q9 l] at hq;rw[l5 hx];exact⟨p,ns.map V.int,rfl,hq,rfl,a3v ns,by rw[a5q];exact q _ H (Same.refl H) C6⟩
 | _=>cases e
def fChain (o o':D->D->Option W) (f g h:FX):FX:=fun ρ=>(f ρ).bind fun p=>(g p.2).bind fun q=>(dr q.2 p.1.fz).bind fun x=>(dr q.2 q.1.fz).bind fun y=>(o x y).bind fun d=>match d with
 | .v (.bl k)=>if k=true then(h q.2).bind fun z=>(dr z.2 q.1.fz).bind fun y=>(dr z.2 z.1.fz).bind fun z'=>(o' y z').map fun w=>(w,z.2) else some (.v (.bl false),q.2)
 | _=>none
abbrev FO:=Ev->Option (Option Int×Ev)
def tO (X:Cx) (f:FO):TO:=fun σ H Q=>∃P O L ρ o ρ',Rep X P O L ρ σ H/\f ρ=some (o,ρ')/\∀H',Rep X P O L ρ' σ H'->Q o H'
theorem tOe {X:Cx}{f:FO}{σ:L2.St}{H:Hp}{Q:Option Int->Hp->Prop}{C:Prop}(h:tO X f σ H Q)(k:∀P O L ρ o ρ',Rep X P O L ρ σ H->f ρ=some (o,ρ')->(∀H',Rep X P O L ρ' σ H'->Q o H')->C):C:=by
 obtain⟨P,O,L,ρ,w,ρ',r,e,q⟩:=h;exact k P O L ρ w ρ' r e q
structure QO (X:Cx) (e:Option Expr) (f:FO):Prop where
 to:PO X e (tO X f)
theorem PO.weak {X:Cx}{e:Option Expr}{t u:TO}(h:PO X e t)(w:∀σ H Q,u σ H Q->t σ H Q):PO X e u:=fun pins s σ H Q I q=>h pins s σ H Q I (w σ H Q q)
def fO0:FO:=fun ρ=>some (none,ρ)
def fO1 (f:FX):FO:=fun ρ=>(f ρ).bind fun p=>match p.1 with|.v (.int i)=>some (some i,p.2)|_=>none
theorem a0R:QO X none fO0:=⟨PO.weak b1v fun σ H Q h0=>tOe h0 fun P O L ρ o ρ' r e q=>by cases e;exact q H r⟩
theorem a0H (ha:QX X e f):QO X (some e) (fO1 f):=⟨PO.weak (b1E ha.to) fun σ H Q h0=>tOe h0 fun P O L ρ o ρ' r e q=>by
 unfold fO1 at e;obtain⟨⟨w,ρ1⟩,e1,e⟩:=obs e;dsimp only at e;split at e
 ·rename_i i;cases e;refine⟨P,O,L,ρ,_,_,r,e1,fun v H1 H' r1 s1 d1=>⟨i,?_,q H' (r1.grow s1)⟩⟩;have d1:Den X.K (AvO O ρ' σ) H' (.int i) v:=d1;exact u5.mp d1
 ·cases e⟩
def cutD (xs:List D) (lo hi:Option Int):List D:=(xs.drop (HT.sIx xs.length 0 lo)).take (HT.sIx xs.length xs.length hi-HT.sIx xs.length 0 lo)
theorem a42 {K:PySem.W.Frag}{A:Av}{H:Hp}{xs:List D}{vs:List V}(lo hi:Option Int)(l:DenL K A H xs vs):DenL K A H (cutD xs lo hi) (cutV vs lo hi):=by
 unfold cutD cutV;rw[c6 l];exact a3C _ (a3K _ l)
def slD (x:D) (lo hi:Option Int):Option W:=match x with
 | .tup xs=>some (.v (.tup (cutD xs lo hi)))
 | .lst xs=>some (.o (.lst (cutD xs lo hi)))
 | _=>none
def fSl (f:FX) (lo hi:FO):FX:=fun ρ=>(f ρ).bind fun p=>(lo p.2).bind fun l=>(hi l.2).bind fun u=>(dr u.2 p.1.fz).bind fun x=>(slD x l.1 u.1).map fun w=>(w,u.2)
theorem T7 {lo hi:Option Expr}{fl fu:FO}{p2:Pos}(ha:QX X a f)(hl:QO X lo fl)(hu:QO X hi fu):QX X (.Subscript a (.Slice lo hi none p2) pos) (fSl f fl fu):=⟨PE.weak (b0t ((b1J.or b4h).or b2a) ha.to hl.to hu.to) fun σ H Q h0=>tXe h0 fun P O L ρ w ρ' r e q=>by
 unfold fSl at e;obtain⟨⟨w1,ρ1⟩,e1,e⟩:=obs e;dsimp only at e;obtain⟨⟨l,ρ2⟩,e2,e⟩:=obs e;dsimp only at e;obtain⟨⟨u,ρ3⟩,e3,e⟩:=obs e;dsimp only at e;refine⟨P,O,L,ρ,w1,ρ1,r,e1,fun v H1 H1' r1 s1 d1=>?_⟩;obtain⟨P',r1',k1⟩:=hold (r1.grow s1) (d1.fz r1 s1);refine⟨P',O,L,ρ1,l,ρ2,r1',e2,fun H2 r2=>⟨P',O,L,ρ2,u,ρ3,r2,e3,fun H3 r3=>?_⟩⟩;obtain⟨r4,d4⟩:=k1 ρ3 H3 r3;cases e4:dr ρ3 w1.fz with
 | none=>rw[e4] at e;cases e
 | some x=>
  rw[e4] at e;simp only[bind_some] at e;have dx:=E8 r4 e4 d4;cases x with
  | tup xs=>
   cases e;obtain⟨a,vs,ev,hq,la⟩:=C4 dx
   by_cases hn:HT.sIx xs.length 0 l=0/\HT.sIx xs.length xs.length u=xs.length
   ·refine .inr ⟨a,vs,ev,hq,by rw[<-c6 la];exact hn,q _ H3 H3 r4 (Same.refl _) ?_⟩
    have ec:cutD xs l u=xs:=by
     unfold cutD;rw[hn.1,hn.2,List.drop_zero,Nat.sub_zero,take_length]
    rw[ec,<-ev];exact dx
   ·exact .inl (.inr ⟨a,vs,ev,hq,by rw[<-c6 la];exact hn,fun p hp=>q _ H3 _ r4 (j7 hp _) (O5 hp (a42 l u la))⟩)
  | lst xs=>
   cases e;obtain⟨a,vs,ev,hq,la⟩:=dx;exact .inl (.inl ⟨a,vs,ev,hq,fun p hp=>q _ H3 _ r4 (j7 hp _) (v7 hp (a42 l u la))⟩)
  | _=>cases e⟩
end
section
variable {X:Cx}{a b e o:Expr}{es:List Expr}{pos p apos:Pos}{f h:FX}{fa:FA}{x:Str}
theorem b2l (i:Nat){pos':Pos}(hN:X.N.Nodup)(ha:QXU X e f)(hi:X.N[i]? =some x:=by rfl)(hx:Loc X.env.scope x:=by first|exact Or.inl rfl|exact Or.inr rfl)(hs:swapsWith e (some (.Name x pos')) pos.line X.env=pure true:=by rfl)(hf:X.fn x=true\/X.env.scope.names.lookup x=some .local:=by first|exact .inl rfl|exact .inr rfl):
  QS X (.Assign [.Name x pos'] e pos) (fAsg i f):=⟨fun pins s σ H E I h0=>tSe h0 fun P O L ρ r rp e0 q=>by
 unfold fAsg at e0;obtain⟨⟨w,ρ1⟩,e1,e0⟩:=obs e0;dsimp only at e0;obtain⟨ρ2,e2,e0⟩:=oms e0;cases e0;rw[exec_Assign_Name_used _ _ _ _ hs];refine zA (jO (zA (zF (ha.to pins s σ H (fun v H'=>∃H1,Rep X P O L ρ1 σ H1/\Same H1 H'/\DenW X.K (AvO O ρ1 σ) σ H1 H' w v) (assign (.Name x pos') X.env) (fun s'=>SP X pins E .next s') I ⟨P,O,L,ρ,w,ρ1,rp,e1,fun v H1 H' r1 s1 d1=>⟨H1,r1,s1,d1⟩⟩ ?_) (fun _ s' h=>zB h) fun _ _ z=>z)));intro C m s' H' v vv fp hn I' rv ⟨H1,r1,sm,dv⟩;obtain⟨o,es,ep,ho,hd,hk⟩:=hn;obtain⟨f0,f1,f2,f3,f4,f5⟩:=fp;have I2:Inv X (pins++[(C,o)]) σ H' s':=I'.pins_of fun p hp=>(qG.mp hp).elim (fun z=>I'.pin p (qA _ z)) fun z=>by
  rw[zN.mp z];exact⟨ho,f0,f1,f2,fun w z=>by rw[hd] at z;cases z⟩
 refine zF (a7L hN hi hx hf (pins++[(C,o)]) s' σ H' v vv (fun σ2 H2=>σ2=σ.set i (some v)/\H2=H') I2 rv ⟨rfl,rfl⟩) (fun _ s2 ⟨σ2,H2,I3,e2',e3⟩=>?_) fun _ _ z=>z;subst e2' e3;have pc:=I3.pin (C,o) (qA _ (qA _ (zN.mpr rfl)));refine⟨m,⟨o,es,ep,pc.1,hd,hk⟩,fun h' hs'=>?_⟩
 exact⟨_,_,(I3.unpinned).turned (t':=s2.toks) (it:=C) (fun b o' hb eb=>(hs'.2 b hb).trans eb) f0 f1 f3 f4 f5,q _ _ (a7f r1 sm dv e2)⟩⟩
def isLst:Option D->Bool
 | some (.lst _)=>true
 | _=>false
def fMut (op:List D->List D->Option (W×List D)) (f:FX) (fa:FA):FX:=fun ρ=>(f ρ).bind fun p=>match p.1 with
 | .r i=>if isLst (ownAt p.2 i)=true then(fa p.2).bind fun q=>(takeAll q.2 q.1).bind fun z=>match ownAt z.2 i with
  | some (.lst xs)=>(op xs z.1).map fun y=>(y.1,setOwn z.2 i (.lst y.2))
  | _=>none
  else none
 | _=>none
def PrM (X:Cx) (op:List D->List D->Option (W×List D)) (r:V->List V->Hp->VK->Prop):Prop:=∀(A:Av) (a:Addr) (xs ds:List D) (w:W) (ys:List D) (us vs:List V) (H:Hp) (Q:VK),H a=some (.lst us)->DenL X.K A H xs us->DenL X.K A H ds vs->op xs ds=some (w,ys)->
 (∀z ws,DenL X.K A H ys ws->DenW X.K A [] H H w z->Q z (upd H a (.lst ws)))->(w= .v .non\/∃d,w= .v d)->r (.ref a) vs H Q
theorem a4Z {op:List D->List D->Option (W×List D)}{r:V->List V->Hp->VK->Prop}(hk:PrM X op r)(hw:∀xs ds w ys,op xs ds=some (w,ys)->∃d,w= .v d):∀σ H Q,tX X (fMut op f fa) σ H Q->tBM X.K "list" r (tX X f) (tA X fa) σ H Q:=fun σ H Q h0=>tXe h0 fun P O L ρ w ρ' rp e q=>by
 unfold fMut at e;obtain⟨⟨w1,ρ1⟩,e1,e⟩:=obs e;dsimp only at e;split at e
 ·rename_i i;split at e
  ·rename_i hl;refine⟨P,O,L,ρ,_,ρ1,rp,e1,fun v H1 H1' r1 s1 d1=>?_⟩;have d1:σ[i]? =some (some v):=d1;have r1':=r1.grow s1;refine⟨?_,?_⟩
   ·unfold isLst at hl;split at hl
    ·rename_i xs e2;obtain⟨w0,q0,ow⟩:=w6 e2;obtain⟨a,h1,vs,h2,_⟩:=r1'.obj q0 ow;rw[d1] at h1;cases h1;exact .inl ⟨rfl,vs,.inl (.inl h2)⟩
    ·cases hl
   ·obtain⟨⟨ws,ρ2⟩,e3,e⟩:=obs e;dsimp only at e;obtain⟨⟨ds,ρ3⟩,e4,e⟩:=obs e;dsimp only at e;split at e
    ·rename_i xs e5;obtain⟨⟨wy,ys⟩,e6,e⟩:=oms e;cases e;refine⟨P,O,L,ρ1,ws,ρ2,r1',e3,fun vs H2 r2 l2=>?_⟩;obtain⟨r3,l3,_⟩:=n8 r2 e4 l2;obtain⟨w0,q0,ow⟩:=w6 e5;obtain⟨a,h1,us,h2,l⟩:=r3.obj q0 ow;rw[d1] at h1;cases h1;refine hk _ a xs ds _ ys us vs H2 Q h2 l l3 e6 (fun z wz lz dz=>?_) (.inr (hw _ _ _ _ e6));have g0:Go (AvO O ρ3 σ) (AvO O ρ3 σ) (fun b=>b=a) H2 (upd H2 a (.lst wz)):=⟨fun b o eb nb=>by rw[g8 nb];exact eb,fun b z=>by rw[z];exact⟨.inr ⟨i,w0,_,q0,ow,d1⟩,_,h2,trivial⟩,fun b z=>.inl z⟩
     have r4:Rep X P O L (setOwn ρ3 i (.lst ys)) σ (upd H2 a (.lst wz)):=r3.mut (d:=.lst ys) e5 d1 (fun b o eb nb=>by rw[g8 nb];exact eb) ⟨wz,p9,w4 g0 _ _ lz⟩
     refine q z _ _ r4 (Same.refl _) ?_;obtain⟨d,rfl⟩:=hw _ _ _ _ e6;have av:∀b,AvO O (setOwn ρ3 i (.lst ys)) σ b->AvO O ρ3 σ b:=fun b z=>z.imp id fun z=>(X2 e5 b).mp z;exact u9 (A3 av) _ _ (u9 g0 _ _ dz)
    ·cases e
  ·cases e
 ·cases e
def mApp (xs ds:List D):Option (W×List D):=match ds with
 | [d]=>if xs.length<lim then some (.v .non,xs++[d]) else none
 | _=>none
theorem a7X:PrM X mApp rAppend:=fun A a xs ds w ys us vs H Q h l l' e q _=>by
 unfold mApp at e;split at e
 ·split at e
  ·rename_i d hl;cases e;obtain⟨v,rfl,hv⟩:=denL1 l';exact⟨a,us,v,rfl,rfl,h,by rw[<-c6 l];exact zK hl t7,q _ _ (t5 l (j8 hv k5)) T3⟩
  ·cases e
 ·cases e
theorem b4r:∀xs ds w ys,mApp xs ds=some (w,ys)->∃d,w= .v d:=fun xs ds w ys e=>by
 unfold mApp at e;split at e
 ·split at e
  ·cases e;exact⟨_,rfl⟩
  ·cases e
 ·cases e
theorem G1 (ho:QX X o f)(ha:QA X (e::es) fa)(hbase:attributeBase o "append" X.env (eval o X.env)=eval o X.env:=by rfl)
  (hfew:((backTo pos (starEach (e::es) X.env)).all (fun x=>!x.1)&&(backToKw pos (keywordEach [] X.env)).all (fun x=>x.1.isSome)&&decide ((e::es).length+([]:List Keyword).length+(if([]:List Keyword).isEmpty then 0 else 1)<30))=true:=by rfl)
  (hline:(apos.endLine==pos.line)=true:=by rfl) (hs:starEach (e::es) X.env=(false,eval e X.env)::starEach es X.env:=by rfl) (hpl:(backTo pos (starEach es X.env)).any (·.1)=false:=by rfl):QX X (.Call (.Attribute o "append" apos) (e::es) [] pos) (fMut mApp f fa):=
 ⟨PE.weak (a9g PySem.F.plainAttrs_list PySem.F.slot_list_append PySem.F.type_list_append a1g ho.to ha.to hbase hfew hline hs hpl) (a4Z a7X b4r)⟩
end
section
variable {P:Program}{w:World}{K:PySem.W.Frag}{mg:Str->Option Value}{base:Heap}
def spLaw (K:PySem.W.Frag):Sp:=fun vs H Q _=>∃(a:Addr) (ns:List Int),vs=[.ref a]/\((∃o,H a=some (.frz o (.lst (ns.map V.int))))\/SqL K (fun _=>none) a (ns.map V.int))/\ns.length<=63/\∀H',Q (.bl true) H'
theorem b4p {st:Stmt}{f:Addr}{fd:FuncData}{N ps:List Str}{k np n:Nat}{G:FS}(F:Fun K "law" "law" st f fd)(S:FnScope N ps (defScope st))(hp:ps.length=np)(hn:N.length=n)
  (body:∀(cdv:Value) (A:Around) (outer:List Env) (s:Shared) (H:Hp) (E:XK),Room k (A.deeper (envOfC "law" (defScope st) s.heap.objs.size f cdv))->
   QSs (cxOf CX0 P w K mg base N "law" (defScope st) f cdv A outer s H E).nox (defBody st) G)
  (h:∀ns:List Int,ns.length<=63->runD np n G [.lst (ns.map D.int)]=some (.v (.bl true))):FnOk P w K mg base CX0 (k+1) f fd ps (spLaw K):=by
 have den:∀(H:Hp) (a:Addr) (ns:List Int),((∃o,H a=some (.frz o (.lst (ns.map V.int))))\/SqL K (fun _=>none) a (ns.map V.int))->DenL K (fun _=>False) H [.lst (ns.map D.int)] [.ref a]:=fun H a ns hq=>by
  refine j8 ?_ k5;rw[Den];exact⟨a,_,rfl,.inr hq,F9 ns⟩
 refine F.ok S (fun vs H Q E ⟨a,ns,ev,hq,hl,q⟩=>?_) (fun cdv A outer s H vs Q E hr ⟨a,ns,ev,hq,hl,q⟩=>⟨_,(body cdv A outer s H E hr).to,?_⟩)
 ·have e:=h ns hl;unfold runD at e;split at e
  ·rename_i hl';rw[ev,hp,<-hl'];rfl
  ·cases e
 ·have e:=h ns hl;unfold runD at e;split at e
  ·rename_i hl';cases e1:G (start0 n [.lst (ns.map D.int)]) with
   | none=>rw[e1] at e;cases e
   | some r=>
    rw[e1] at e;refine⟨[],fun _=>False,[],_,r,a3h rfl hn (fun b z=>z.elim) (by rw[ev];exact den H a ns hq),e1,?_⟩
    cases r with
    | rt d' ρ'=>cases e;exact fun v H' s' _ d1=>by rw[a0p d1];exact q H'
    | nx ρ'=>cases e
    | bk ρ'=>cases e
    | ct ρ'=>cases e
  ·cases e
theorem walk {l:PySem.W.OpenLaw}{q:Program}{loose:List Str}{XP:(Str->Option Value)->Heap->Prop}{YP:World->Heap->Prop}{d:DefRec}{K:Params->PySem.W.Frag}(hn:l.most=some 63)(hdf:d.params.defaults=[])
  (hY:∀(w:World) (h:Heap),YP w h->(K w.params).In h)
  (F:∀(w:World) (mg:Str->Option Value) (fa:Addr) (h:Heap),(K w.params).In h->h.Ns mainGlobals mg->mg d.name=some (.ref fa)->
   ∃fd:FuncData,(∀(s:Shared) (u:Value),BindsTo s fd ⟨[u],[]⟩ [("script",u)])/\∀base:Heap,(K w.params).In base->base.Ns mainGlobals mg->FnOk l.prog w (K w.params) mg base CX0 60 fa fd ["script"] (spLaw (K w.params))):
  PySem.W.WalkO q loose XP YP l.row.toRowW d [] (fun f vs=>PySem.call f vs):=
 L2.b15 (n:=63) (k:=60) (x:="script") (CX:=fun _=>CX0) (sp:=fun w=>spLaw (K w.params)) hn (by decide) hdf ⟨rfl,by decide,by decide,rfl⟩ hY F (fun _ H a ns hl hO hS=>⟨a,ns,rfl,(by
  rcases hS with (hS|⟨o,hS⟩)|hS
  ·rcases hO a with z|⟨o,ys,z⟩
   ·rw[z] at hS;cases hS
   ·rw[z] at hS;cases hS
  ·exact .inl ⟨o,hS⟩
  ·exact .inr (.inr hS)),hl,fun _=>rfl⟩) fun _ _ _ _ _ z=>z
end
end Z
set_option maxHeartbeats 1000000
set_option exponentiation.threshold 100000
namespace Z
open PySem L2
theorem b2E {d:D}:lfW (.v d)=lf d:=rfl
theorem b2v {d:D}:lfW (.o d)=lfC d:=rfl
theorem a6I {xs:List D}:lfC (.lst xs)=lfL xs:=rfl
theorem b0D {ks:List (List Key)}{xs:List D}:lfC (.dT ks xs)=lfL xs:=rfl
theorem lfC_dK {ks:List Key}{xs:List D}:lfC (.dK ks xs)=lfL xs:=rfl
def freeO:Option W->Bool
 | some (.l _)=>false
 | _=>true
theorem a2k:freeO none=true:=rfl
theorem a6N {d:D}:freeO (some (.v d))=true:=rfl
theorem a7a {d:D}:freeO (some (.o d))=true:=rfl
theorem freeO_l {d:D}:freeO (some (.l d))=false:=rfl
theorem free_nil {n:Nat}:freeSlot [] n=true:=rfl
theorem b0V {x:Option W}{ρ:Ev}:freeSlot (x::ρ) 0=freeO x:=by
 unfold freeSlot freeO;rw[yJ];cases x with
 | none=>rfl
 | some w=>cases w<;>rfl
theorem a9R {x:Option W}{ρ:Ev}{n:Nat}:freeSlot (x::ρ) (n+1)=freeSlot ρ n:=by
 unfold freeSlot;rw[jH]
theorem a3A {xs:List D}:isLst (some (.lst xs))=true:=rfl
theorem liB_none {ρ:Ev}:liB none ρ=true:=rfl
theorem liB_some {i j:Nat}{ρ:Ev}:liB (some (i,j)) ρ=(ownAt ρ j).isSome:=rfl
theorem own_nil {n:Nat}:ownAt [] n=none:=rfl
theorem b2y {w:W}{ρ:Ev}:ownAt (some w::ρ) 0=w.own:=rfl
theorem own_n {ρ:Ev}:ownAt (none::ρ) 0=none:=rfl
theorem b2X {x:Option W}{ρ:Ev}{n:Nat}:ownAt (x::ρ) (n+1)=ownAt ρ n:=by
 unfold ownAt;rw[jH]
theorem b0y {c d:D}{ρ:Ev}:setOwn (some (.l c)::ρ) 0 d=some (.l d)::ρ:=rfl
theorem b0c {c d:D}{ρ:Ev}:setOwn (some (.o c)::ρ) 0 d=some (.o d)::ρ:=rfl
theorem a94 {x:Option W}{ρ:Ev}{n:Nat}{d:D}:setOwn (x::ρ) (n+1) d=x::setOwn ρ n d:=by
 unfold setOwn;rw[jH]
 split<;>rename_i h<;>simp[h]
theorem frz_nil {n:Nat}:frzAt [] n=none:=rfl
theorem b3n {d:D}{ρ:Ev}:frzAt (some (.o d)::ρ) 0=some (some (.v d)::ρ):=rfl
theorem frz_v {d:D}{ρ:Ev}:frzAt (some (.v d)::ρ) 0=some (some (.v d)::ρ):=rfl
theorem b3c {x:Option W}{ρ:Ev}{n:Nat}:frzAt (x::ρ) (n+1)=(frzAt ρ n).map fun ρ'=>x::ρ':=by
 unfold frzAt;rw[jH]
 split<;>rename_i h<;>simp[h]
abbrev acc (zs:List D):Ev:=[some (.l (.lst zs))]
theorem a51 {B:Ev}{zs:List D}{k:Nat}(h:B.length=k):ownAt (B++acc zs) k=some (.lst zs):=by
 unfold ownAt;rw[qR (by walk_at "o"),h,xF];rfl
theorem b1N {B:Ev}{zs ys:List D}{k:Nat}(h:B.length=k):setOwn (B++acc zs) k (.lst ys)=B++acc ys:=by
 unfold setOwn;have e:(B++acc zs)[k]? =some (some (.l (.lst zs))):=by rw[qR (by walk_at "o"),h,xF];rfl
 rw[e];simp only;rw[List.set_append_right _ _ (by walk_at "o"),h,xF];rfl
theorem app_v {B:Ev}{zs:List D}{k:Nat}{w:W}{d:D}(h:B.length=k)(hw:w= .v d\/w= .o d)(hl:zs.length<lim):appTo k (w,B++acc zs)=some (B++acc (zs++[d])):=by
 unfold appTo;have e:w.fz= .v d:=by rcases hw with rfl|rfl<;>rfl
 simp only[e,takeAll,jF,bind_some];rw[a51 h];simp only[if_pos hl,b1N h]
theorem X6 {k:Nat}{gf:FG}{t:FT}{fe:FX}(I:Ev->Prop)(p:D->Bool)(h:D->D)(hI:∀B,I B->B.length=k):∀(xs:List D),(∀x∈xs,∀B zs,I B->∃B' w,I B'/\gf x (B++acc zs)=some (B'++acc zs)/\t (B'++acc zs)=some (p x,B'++acc zs)/\(p x=true->fe (B'++acc zs)=some (w,B'++acc zs)/\(w= .v (h x)\/w= .o (h x))))->
  ∀(B:Ev) (zs:List D),zs.length+xs.length<=lim->I B->∃B',I B'/\loopC (turnC k gf t fe) xs (B++acc zs)=some (B'++acc (zs++(xs.filter p).map h))
 | [],st,B,zs,hl,i=>⟨B,i,by simp[loopC]⟩
 | x::xs,st,B,zs,hl,i=>by
  obtain⟨B1,w,i1,e1,e2,e3⟩:=st x zJ B zs i;rw[qJ] at hl;cases hp:p x with
  | true=>
   obtain⟨e4,hw⟩:=e3 hp;obtain⟨B2,i2,e5⟩:=X6 I p h hI xs (fun y hy=>st y (zI _ hy)) B1 (zs++[h x]) (by rw[zM,jK];walk_at "o") i1
   refine⟨B2,i2,?_⟩;rw[loopC,turnC,e1];have ea:=app_v (zs:=zs) (hI B1 i1) hw (by walk_at "o")
   simp only[bind_some,e2,hp,jC,e4,ea];rw[e5,yK hp,zH,jQ];rfl
  | false=>
   obtain⟨B2,i2,e5⟩:=X6 I p h hI xs (fun y hy=>st y (zI _ hy)) B1 zs (by walk_at "o") i1
   refine⟨B2,i2,?_⟩;rw[loopC,turnC,e1];simp only[bind_some,e2,hp,jI,jW];rw[e5,List.filter_cons_of_neg (by rw[hp];exact zP)]
theorem t8 {fi:FI}{js:List (Option Nat)}{gf:FG}{t:FT}{fe:FX}{ρ ρ1:Ev}{xs:List D}(I:Ev->Prop)(p:D->Bool)(h:D->D)(ei:fi ρ=some (xs,ρ1))(hI:∀B,I B->B.length=js.length)(h0:I (capE none js ρ1))(hl:xs.length<=lim)(hf:lfL ((xs.filter p).map h)=true)
  (st:∀x∈xs,∀B zs,I B->∃B' w,I B'/\gf x (B++acc zs)=some (B'++acc zs)/\t (B'++acc zs)=some (p x,B'++acc zs)/\(p x=true->fe (B'++acc zs)=some (w,B'++acc zs)/\(w= .v (h x)\/w= .o (h x)))):
  fComp fi none js gf t fe ρ=some (.o (.lst ((xs.filter p).map h)),ρ1):=by
 obtain⟨B',i',e⟩:=X6 I p h hI xs st (capE none js ρ1) [] (by rw[xY];walk_at "o") h0
 unfold fComp;rw[ei];simp only[bind_some,liB,jC,Option.map_none];rw[show capE none js ρ1++[some (.l (.lst []))]=capE none js ρ1++acc [] from rfl,e];simp only[bind_some,nil_append,a51 (hI B' i'),backG,lfC,hf,jC]
theorem q8 {α:Type}(xs:List α):xs.filter (fun _=>true)=xs:=by induction xs with
 | nil=>rfl
 | cons x xs ih=>rw[yK rfl,ih]
theorem b0v (m n:Nat)(h:0<n):Nat.gcd m n=Nat.gcd n (m%n):=by
 rw[Nat.gcd_comm m n,Nat.gcd_rec n m,Nat.gcd_comm]
abbrev gcC (j:Nat):FT:=fTest (fBin oGt (fVar j) (fC (.int 0)))
abbrev gcB (i j:Nat):FS:=fPar i j (fCons (fVar j) (fCons (fMod (fVar i) (fVar j)) fNil))
theorem set2 {ρ:Ev}{i j:Nat}(hij:i≠j)(a b c d:Option W):(((ρ.set i a).set j b).set i c).set j d=(ρ.set i c).set j d:=by
 apply xT;intro l;simp only[List.getElem?_set,qS]
 by_cases h1:j=l<;>by_cases h2:i=l<;>simp[h1,h2]
theorem a3t {i j:Nat}(hij:i≠j):∀(k m n:Nat) (ρ:Ev),n<=k->ρ[i]? =some (some (.v (.int (m:Nat))))->ρ[j]? =some (some (.v (.int (n:Nat))))->whileF (gcC j) (gcB i j) (k+1) ρ=some (.nx ((ρ.set i (some (.v (.int (Nat.gcd m n:Nat))))).set j (some (.v (.int 0)))))
 | k,m,n,ρ,hk,h1,h2=>by
  have tst:gcC j ρ=some (decide ((0:Int)<(n:Int)),ρ):=by
   simp only[gcC,fTest,fBin,fVar,h2,fC,bind_some,W.fz,dr,oI0,jF]
  rw[whileF,tst]
  by_cases hn:0<n
  ·have bd:gcB i j ρ=some (.nx ((ρ.set i (some (.v (.int (n:Nat))))).set j (some (.v (.int ((m%n:Nat):Int)))))):=by
    have f1:freeSlot ρ i=true:=by simp only[freeSlot,h1]
    have f2:freeSlot (ρ.set i (some (.v (.int (n:Nat))))) j=true:=by simp only[freeSlot,zR hij,h2]
    have p:(0:Int)<(n:Nat):=by walk_at "o"
    simp only[gcB,fPar,fCons,fNil,fVar,h1,h2,fBin,bind_some,W.fz,dr,oI,p,jC,jF,takeAll,f1,f2,and_self];rfl
   have d:decide ((0:Int)<(n:Int))=true:=by simp;walk_at "o"
   simp only[bind_some,d,jC,bd];cases k with
   | zero=>walk_at "o"
   | succ k=>
    have hlt:m%n<n:=Nat.mod_lt m hn;have li:i<ρ.length:=(zG.mp h1).1;have lj:j<ρ.length:=(zG.mp h2).1;rw[a3t hij k n (m%n) _ (by walk_at "o") (by rw[zR (qT hij)];exact z5 li) (z5 (by simpa using lj)),set2 hij,<-b0v m n hn]
  ·have hn0:n=0:=by walk_at "o"
   subst hn0;have d:decide ((0:Int)<((0:Nat):Int))=false:=by decide
   simp only[bind_some,d,jI,jW,Nat.gcd_zero_right];congr 2;apply xT;intro l
   by_cases lj:l=j
   ·subst lj;rw[z5 (by have:=(zG.mp h2).1;simpa using this)];exact h2
   ·rw[zR (qT lj)]
    by_cases li:l=i
    ·subst li;rw[z5 (zG.mp h1).1];exact h1
    ·rw[zR (qT li)]
theorem a85 {i j:Nat}(hij:i≠j){a b:Int}{ρ:Ev}(ha:0<=a)(hb:0<=b)(h1:ρ[i]? =some (some (.v (.int a))))(h2:ρ[j]? =some (some (.v (.int b)))):whileV (gcC j) (gcB i j) ρ=some (.nx ((ρ.set i (some (.v (.int (Int.gcd a b:Nat))))).set j (some (.v (.int 0))))):=by
 obtain⟨m,rfl⟩:=Int.eq_ofNat_of_zero_le ha;obtain⟨n,rfl⟩:=Int.eq_ofNat_of_zero_le hb;exact a3N (a3t hij n m n ρ (zE _) h1 h2)
def ratD (q:Rat):D:=.tup [.int q.num,.int q.den]
def Sz (n:Nat) (q:Rat):Prop:=q.num.natAbs<2^n/\q.den<2^n
theorem Sz.mono {m n:Nat}{q:Rat}(h:Sz m q)(hm:m<=n):Sz n q:=⟨zK h.1 (yB (by decide) hm),zK h.2 (yB (by decide) hm)⟩
theorem a4x {t b:Int}(hb:0<b):(Rat.divInt t b).num=t/(Int.gcd t b:Nat)/\((Rat.divInt t b).den:Int)=b/(Int.gcd t b:Nat):=by
 obtain⟨n,rfl⟩:=Int.eq_ofNat_of_zero_le (Int.le_of_lt hb);have hn:n≠0:=by walk_at "o"
 rw[Rat.divInt_ofNat,<-Rat.normalize_eq_mkRat hn,Rat.normalize_eq];exact⟨rfl,by simp[Int.gcd]⟩
section
variable {ρ ρ1 ρ2:Ev}{op:D->D->Option W}{o:D->Option W}{f g h:FX}{t u:FT}{fa:FA}{F G:FS}{i j:Nat}{d e x y:D}{w z:W}{ws:List W}{ds xs ys:List D}{r:R}{k b:Bool}
def varO (i:Nat) (ρ:Ev):Option (Option W)->Option (W×Ev)
 | some (some (.v d))=>some (.v d,ρ)
 | some (some (.r _))=>none
 | some (some _)=>some (.r i,ρ)
 | _=>none
theorem b3e:fVar i ρ=varO i ρ ρ[i]?:=by unfold fVar varO;split<;>simp_all
theorem a64:varO i ρ (some (some (.v d)))=some (.v d,ρ):=rfl
theorem a63:varO i ρ (some (some (.o d)))=some (.r i,ρ):=rfl
theorem a61:varO i ρ (some (some (.l d)))=some (.r i,ρ):=rfl
theorem r_c:fC d ρ=some (.v d,ρ):=rfl
def drO:Option (Option W)->Option D
 | some (some (.v d))=>some d
 | some (some w)=>w.own
 | _=>none
theorem a9f:dr ρ (.v d)=some d:=rfl
theorem a90:dr ρ (.r i)=drO ρ[i]?:=by unfold dr drO;rfl
theorem r_drO_v:drO (some (some (.v d)))=some d:=rfl
theorem a69:drO (some (some (.o d)))=some d:=rfl
theorem a6E:drO (some (some (.l d)))=some d:=rfl
theorem a9d:(W.v d).fz= .v d:=rfl
theorem a82:(W.o d).fz= .v d:=rfl
theorem b0h:(W.r i).fz= .r i:=rfl
def drsC (ρ:Ev) (ws:List W):Option D->Option (List D)
 | some d=>(drs ρ ws).map fun ds=>d::ds
 | none=>none
theorem a7J:drs ρ []=some []:=rfl
theorem a7s:drs ρ (w::ws)=drsC ρ ws (dr ρ w):=by rw[drs];unfold drsC;cases dr ρ w<;>rfl
theorem b1m:drsC ρ ws (some d)=(drs ρ ws).map fun ds=>d::ds:=rfl
def bin2 (op:D->D->Option W) (g:FX):Option (W×Ev)->Option (W×Ev)
 | some p=>(g p.2).bind fun q=>(dr q.2 p.1.fz).bind fun x=>(dr q.2 q.1.fz).bind fun y=>(op x y).map fun w=>(w,q.2)
 | none=>none
def bin3 (op:D->D->Option W) (w:W):Option (W×Ev)->Option (W×Ev)
 | some q=>(dr q.2 w.fz).bind fun x=>(dr q.2 q.1.fz).bind fun y=>(op x y).map fun w=>(w,q.2)
 | none=>none
def bin4 (op:D->D->Option W) (ρ:Ev):Option D->Option D->Option (W×Ev)
 | some x,some y=>(op x y).map fun w=>(w,ρ)
 | _,_=>none
def withE (ρ:Ev):Option W->Option (W×Ev)
 | some w=>some (w,ρ)
 | none=>none
theorem b2r:fBin op f g ρ=bin2 op g (f ρ):=by unfold fBin bin2;cases f ρ<;>rfl
theorem a9L:bin2 op g (some (w,ρ))=bin3 op w (g ρ):=by unfold bin2 bin3;dsimp only;cases g ρ<;>rfl
theorem a9l:bin3 op w (some (z,ρ))=bin4 op ρ (dr ρ w.fz) (dr ρ z.fz):=by unfold bin3 bin4;dsimp only;cases dr ρ w.fz<;>cases dr ρ z.fz<;>rfl
theorem a8T:bin4 op ρ (some x) (some y)=withE ρ (op x y):=by unfold bin4 withE;dsimp only;cases op x y<;>rfl
theorem a9s:withE ρ (some w)=some (w,ρ):=rfl
def un2 (o:D->Option W):Option (W×Ev)->Option (W×Ev)
 | some p=>(dr p.2 p.1.fz).bind fun x=>(o x).map fun w=>(w,p.2)
 | none=>none
def un3 (o:D->Option W) (ρ:Ev):Option D->Option (W×Ev)
 | some x=>withE ρ (o x)
 | none=>none
theorem r_un:fUn o f ρ=un2 o (f ρ):=by unfold fUn un2;cases f ρ<;>rfl
theorem b3C:un2 o (some (w,ρ))=un3 o ρ (dr ρ w.fz):=by unfold un2 un3 withE;dsimp only;cases dr ρ w.fz with
 | none=>rfl
 | some x=>simp only[bind_some];cases o x<;>rfl
theorem b3x:un3 o ρ (some x)=withE ρ (o x):=rfl
def tstO:Option (W×Ev)->Option (Bool×Ev)
 | some (.v (.bl k),ρ)=>some (k,ρ)
 | _=>none
theorem a2P:fTest f ρ=tstO (f ρ):=by
 unfold fTest tstO;cases f ρ with
 | none=>rfl
 | some p=>
  obtain⟨w,ρ⟩:=p;cases w with
  | v d=>cases d<;>rfl
  | _=>rfl
theorem b08:tstO (some (.v (.bl k),ρ))=some (k,ρ):=rfl
def tru2:Option (W×Ev)->Option (Bool×Ev)
 | some p=>(dr p.2 p.1.fz).bind fun d=>(truth d).map fun k=>(k,p.2)
 | none=>none
def tru3 (ρ:Ev):Option D->Option (Bool×Ev)
 | some d=>(truth d).map fun k=>(k,ρ)
 | none=>none
theorem b0k:fTru f ρ=tru2 (f ρ):=by unfold fTru tru2;cases f ρ<;>rfl
theorem a9q:tru2 (some (w,ρ))=tru3 ρ (dr ρ w.fz):=by unfold tru2 tru3;dsimp only;cases dr ρ w.fz<;>rfl
theorem a4M:tru3 ρ (some (.bl k))=some (k,ρ):=rfl
theorem b4N:tru3 ρ (some (.tup xs))=some (!xs.isEmpty,ρ):=rfl
theorem a3B:tru3 ρ (some (.lst xs))=some (!xs.isEmpty,ρ):=rfl
theorem b4L:tru3 ρ (some .non)=some (false,ρ):=rfl
def notO:Option (Bool×Ev)->Option (Bool×Ev)
 | some p=>some (!p.1,p.2)
 | none=>none
theorem b3w:fNot t ρ=notO (t ρ):=by unfold fNot notO;cases t ρ<;>rfl
theorem a9Q:notO (some (k,ρ))=some (!k,ρ):=rfl
def andO (u:FT):Option (Bool×Ev)->Option (Bool×Ev)
 | some (true,ρ)=>u ρ
 | some (false,ρ)=>some (false,ρ)
 | none=>none
def orO (u:FT):Option (Bool×Ev)->Option (Bool×Ev)
 | some (true,ρ)=>some (true,ρ)
 | some (false,ρ)=>u ρ
 | none=>none
theorem b3f:fAnd t u ρ=andO u (t ρ):=by unfold fAnd andO;cases t ρ with
 | none=>rfl
 | some p=>obtain⟨k,ρ⟩:=p;cases k<;>rfl
theorem r_or:fOr t u ρ=orO u (t ρ):=by unfold fOr orO;cases t ρ with
 | none=>rfl
 | some p=>obtain⟨k,ρ⟩:=p;cases k<;>rfl
theorem a7g:andO u (some (true,ρ))=u ρ:=id rfl
theorem a6R:andO u (some (false,ρ))=some (false,ρ):=rfl
theorem a9T:orO u (some (true,ρ))=some (true,ρ):=rfl
theorem b0e:orO u (some (false,ρ))=u ρ:=id rfl
def andV (g:FX):Option (Bool×Ev)->Option (W×Ev)
 | some (true,ρ)=>g ρ
 | some (false,ρ)=>some (.v (.bl false),ρ)
 | none=>none
def orV (g:FX):Option (Bool×Ev)->Option (W×Ev)
 | some (true,ρ)=>some (.v (.bl true),ρ)
 | some (false,ρ)=>g ρ
 | none=>none
def notV:Option (Bool×Ev)->Option (W×Ev)
 | some (k,ρ)=>some (.v (.bl (!k)),ρ)
 | none=>none
def ifV (f g:FX):Option (Bool×Ev)->Option (W×Ev)
 | some (true,ρ)=>f ρ
 | some (false,ρ)=>g ρ
 | none=>none
theorem a9x:fAndV f g ρ=andV g (tstO (f ρ)):=by unfold fAndV andV;rw[a2P];cases tstO (f ρ) with
 | none=>rfl
 | some p=>obtain⟨k,ρ⟩:=p;cases k<;>rfl
theorem b27:fOrV f g ρ=orV g (tstO (f ρ)):=by unfold fOrV orV;rw[a2P];cases tstO (f ρ) with
 | none=>rfl
 | some p=>obtain⟨k,ρ⟩:=p;cases k<;>rfl
theorem r_notV:fNotV f ρ=notV (tstO (f ρ)):=by unfold fNotV notV;rw[a2P];cases tstO (f ρ)<;>rfl
theorem r_if:fIf t f g ρ=ifV f g (t ρ):=by unfold fIf ifV;cases t ρ with
 | none=>rfl
 | some p=>obtain⟨k,ρ⟩:=p;cases k<;>rfl
theorem a5f:andV g (some (true,ρ))=g ρ:=id rfl
theorem a5l:andV g (some (false,ρ))=some (.v (.bl false),ρ):=rfl
theorem a66:orV g (some (true,ρ))=some (.v (.bl true),ρ):=rfl
theorem a7V:orV g (some (false,ρ))=g ρ:=id rfl
theorem r_notV_s:notV (some (k,ρ))=some (.v (.bl (!k)),ρ):=rfl
theorem b0P:ifV f g (some (true,ρ))=f ρ:=id rfl
theorem b0m:ifV f g (some (false,ρ))=g ρ:=id rfl
def cons2 (fa:FA):Option (W×Ev)->Option (List W×Ev)
 | some p=>(fa p.2).map fun q=>(p.1.fz::q.1,q.2)
 | none=>none
def cons3 (w:W):Option (List W×Ev)->Option (List W×Ev)
 | some q=>some (w::q.1,q.2)
 | none=>none
theorem b2I:fNil ρ=some ([],ρ):=rfl
theorem b07:fCons f fa ρ=cons2 fa (f ρ):=by unfold fCons cons2;cases f ρ<;>rfl
theorem a6v:cons2 fa (some (w,ρ))=cons3 w.fz (fa ρ):=by unfold cons2 cons3;dsimp only;cases fa ρ<;>rfl
theorem a6Y:cons3 w (some (ws,ρ))=some (w::ws,ρ):=rfl
def takC (d:D):Option (List D×Ev)->Option (List D×Ev)
 | some p=>some (d::p.1,p.2)
 | none=>none
def takR (i:Nat) (ws:List W):Option Ev->Option (List D×Ev)
 | some ρ1=>match ρ1[i]? with
  | some (some (.v d))=>(takeAll ρ1 ws).map fun p=>(d::p.1,p.2)
  | _=>none
 | none=>none
def takS (ρ:Ev) (ws:List W):Option (Option W)->Option (List D×Ev)
 | some (some (.v d))=>takC d (takeAll ρ ws)
 | _=>none
theorem a6w:takeAll ρ []=some ([],ρ):=rfl
theorem a6x:takeAll ρ (.v d::ws)=takC d (takeAll ρ ws):=by rw[takeAll];unfold takC;cases takeAll ρ ws<;>rfl
theorem a7A:takeAll ρ (.r i::ws)=takR i ws (frzAt ρ i):=by rw[takeAll];unfold takR;cases frzAt ρ i<;>rfl
theorem b1d:takC d (some (ds,ρ))=some (d::ds,ρ):=rfl
theorem a9r:takR i ws (some ρ)=takS ρ ws ρ[i]?:=by
 unfold takR takS;dsimp only
 split
 ·unfold takC;cases takeAll ρ ws<;>rfl
 ·rfl
theorem b04:takS ρ ws (some (some (.v d)))=takC d (takeAll ρ ws):=rfl
def disp2 (mk:List D->W):Option (List W×Ev)->Option (W×Ev)
 | some p=>(takeAll p.2 p.1).bind fun q=>if q.1.length<=lim then some (mk q.1,q.2) else none
 | none=>none
def disp3 (mk:List D->W):Option (List D×Ev)->Option (W×Ev)
 | some q=>if q.1.length<=lim then some (mk q.1,q.2) else none
 | none=>none
theorem b3a:fTup fa ρ=disp2 (fun ds=>.v (.tup ds)) (fa ρ):=by unfold fTup disp2;cases fa ρ<;>rfl
theorem b22:fLst fa ρ=disp2 (fun ds=>.o (.lst ds)) (fa ρ):=by unfold fLst disp2;cases fa ρ<;>rfl
theorem a6K {mk:List D->W}:disp2 mk (some (ws,ρ))=disp3 mk (takeAll ρ ws):=by unfold disp2 disp3;dsimp only;cases takeAll ρ ws<;>rfl
theorem a6Q {mk:List D->W}:disp3 mk (some (ds,ρ))=if ds.length<=lim then some (mk ds,ρ) else none:=rfl
def call2 (k:List D->Option W):Option (List W×Ev)->Option (W×Ev)
 | some p=>(drs p.2 p.1).bind fun ds=>(k ds).map fun w=>(w,p.2)
 | none=>none
def call3 (k:List D->Option W) (ρ:Ev):Option (List D)->Option (W×Ev)
 | some ds=>withE ρ (k ds)
 | none=>none
theorem a86 {k:List D->Option W}:fCall k fa ρ=call2 k (fa ρ):=by unfold fCall call2;cases fa ρ<;>rfl
theorem a7m {k:List D->Option W}:call2 k (some (ws,ρ))=call3 k ρ (drs ρ ws):=by
 unfold call2 call3 withE;dsimp only;cases drs ρ ws with
 | none=>rfl
 | some ds=>simp only[bind_some];cases k ds<;>rfl
theorem a6T {k:List D->Option W}:call3 k ρ (some ds)=withE ρ (k ds):=rfl
theorem r_k1 {g:D->Option W}:k1 g [d]=g d:=rfl
theorem r_k2 {g:Int->Int->D}{i j:Int}:k2 g [.int i,.int j]=some (.v (g i j)):=rfl
def def2 (g:List D->Option W):Option (List W×Ev)->Option (W×Ev)
 | some p=>(drs p.2 p.1).bind fun ds=>(g ds).bind fun w=>if lfW w=true then some (w,p.2) else(frzL p.1 p.2).map fun ρ2=>(w,ρ2)
 | none=>none
def def3 (g:List D->Option W) (ws:List W) (ρ:Ev):Option (List D)->Option (W×Ev)
 | some ds=>(g ds).bind fun w=>if lfW w=true then some (w,ρ) else(frzL ws ρ).map fun ρ2=>(w,ρ2)
 | none=>none
def def4 (ws:List W) (ρ:Ev):Option W->Option (W×Ev)
 | some w=>if lfW w=true then some (w,ρ) else(frzL ws ρ).map fun ρ2=>(w,ρ2)
 | none=>none
theorem b3D {g:List D->Option W}:fDef g fa ρ=def2 g (fa ρ):=by unfold fDef def2;cases fa ρ<;>rfl
theorem b0X {g:List D->Option W}:def2 g (some (ws,ρ))=def3 g ws ρ (drs ρ ws):=by unfold def2 def3;dsimp only;cases drs ρ ws<;>rfl
theorem b0B {g:List D->Option W}:def3 g ws ρ (some ds)=def4 ws ρ (g ds):=by unfold def3 def4;dsimp only;cases g ds<;>rfl
theorem b0j:def4 ws ρ (some w)=if lfW w=true then some (w,ρ) else(frzL ws ρ).map fun ρ2=>(w,ρ2):=rfl
def dl2 (g:D->List D->Option (W×D)):Option (List W×Ev)->Option (W×Ev)
 | some (.r i::ws,ρ)=>(ownAt ρ i).bind fun c=>(drs ρ ws).bind fun ds=>(g c ds).bind fun z=>if noR i ws=true/\lfC z.2=true then(if lfW z.1=true then some (z.1,setOwn ρ i z.2) else(frzL ws (setOwn ρ i z.2)).map fun ρ2=>(z.1,ρ2)) else none
 | _=>none
def dl3 (g:D->List D->Option (W×D)) (i:Nat) (ws:List W) (ρ:Ev):Option D->Option (List D)->Option (W×Ev)
 | some c,some ds=>(g c ds).bind fun z=>if noR i ws=true/\lfC z.2=true then(if lfW z.1=true then some (z.1,setOwn ρ i z.2) else(frzL ws (setOwn ρ i z.2)).map fun ρ2=>(z.1,ρ2)) else none
 | _,_=>none
def dl4 (i:Nat) (ws:List W) (ρ:Ev):Option (W×D)->Option (W×Ev)
 | some z=>if noR i ws=true/\lfC z.2=true then(if lfW z.1=true then some (z.1,setOwn ρ i z.2) else(frzL ws (setOwn ρ i z.2)).map fun ρ2=>(z.1,ρ2)) else none
 | none=>none
theorem r_dl {g:D->List D->Option (W×D)}:fDefL g fa ρ=dl2 g (fa ρ):=by
 unfold fDefL dl2;cases fa ρ with
 | none=>rfl
 | some p=>
  obtain⟨ws,ρ⟩:=p;cases ws with
  | nil=>rfl
  | cons w ws=>cases w<;>rfl
theorem b3B {g:D->List D->Option (W×D)}:dl2 g (some (.r i::ws,ρ))=dl3 g i ws ρ (ownAt ρ i) (drs ρ ws):=by unfold dl2 dl3;dsimp only;cases ownAt ρ i<;>cases drs ρ ws<;>rfl
theorem b3b {g:D->List D->Option (W×D)}:dl3 g i ws ρ (some d) (some ds)=dl4 i ws ρ (g d ds):=by unfold dl3 dl4;dsimp only;cases g d ds<;>rfl
theorem b2M:dl4 i ws ρ (some (w,d))=if noR i ws=true/\lfC d=true then(if lfW w=true then some (w,setOwn ρ i d) else(frzL ws (setOwn ρ i d)).map fun ρ2=>(w,ρ2)) else none:=rfl
def sl2 (lo hi:FO):Option (W×Ev)->Option (W×Ev)
 | some p=>(lo p.2).bind fun l=>(hi l.2).bind fun u=>(dr u.2 p.1.fz).bind fun x=>(slD x l.1 u.1).map fun w=>(w,u.2)
 | none=>none
def sl3 (hi:FO) (w:W):Option (Option Int×Ev)->Option (W×Ev)
 | some l=>(hi l.2).bind fun u=>(dr u.2 w.fz).bind fun x=>(slD x l.1 u.1).map fun w=>(w,u.2)
 | none=>none
def sl4 (w:W) (l:Option Int):Option (Option Int×Ev)->Option (W×Ev)
 | some u=>(dr u.2 w.fz).bind fun x=>(slD x l u.1).map fun w=>(w,u.2)
 | none=>none
def sl5 (l u:Option Int) (ρ:Ev):Option D->Option (W×Ev)
 | some x=>withE ρ (slD x l u)
 | none=>none
theorem r_sl {lo hi:FO}:fSl f lo hi ρ=sl2 lo hi (f ρ):=by unfold fSl sl2;cases f ρ<;>rfl
theorem b2H {lo hi:FO}:sl2 lo hi (some (w,ρ))=sl3 hi w (lo ρ):=by unfold sl2 sl3;dsimp only;cases lo ρ<;>rfl
theorem b2Q {hi:FO}{l:Option Int}:sl3 hi w (some (l,ρ))=sl4 w l (hi ρ):=by unfold sl3 sl4;dsimp only;cases hi ρ<;>rfl
theorem b2O {l u:Option Int}:sl4 w l (some (u,ρ))=sl5 l u ρ (dr ρ w.fz):=by
 unfold sl4 sl5 withE;dsimp only;cases dr ρ w.fz with
 | none=>rfl
 | some x=>simp only[bind_some];cases slD x l u<;>rfl
theorem b3A {l u:Option Int}:sl5 l u ρ (some x)=withE ρ (slD x l u):=rfl
theorem a9u {l u:Option Int}:slD (.tup xs) l u=some (.v (.tup (cutD xs l u))):=rfl
theorem r_sl_l {l u:Option Int}:slD (.lst xs) l u=some (.o (.lst (cutD xs l u))):=rfl
def o1O:Option (W×Ev)->Option (Option Int×Ev)
 | some (.v (.int i),ρ)=>some (some i,ρ)
 | _=>none
theorem r_o0:fO0 ρ=some (none,ρ):=rfl
theorem r_o1:fO1 f ρ=o1O (f ρ):=by
 unfold fO1 o1O;cases f ρ with
 | none=>rfl
 | some p=>
  obtain⟨w,ρ⟩:=p;cases w with
  | v d=>cases d<;>rfl
  | _=>rfl
theorem b3i {n:Int}:o1O (some (.v (.int n),ρ))=some (some n,ρ):=rfl
def thnO (G:FS):Option R->Option R
 | some (.nx ρ)=>G ρ
 | o=>o
theorem a99:fThen F G ρ=thnO G (F ρ):=by unfold fThen thnO;cases F ρ with
 | none=>rfl
 | some r=>cases r<;>rfl
theorem a23:thnO G (some (.nx ρ))=G ρ:=id rfl
theorem a3R:thnO G (some (.rt w ρ))=some (.rt w ρ):=id rfl
theorem b4O:thnO G (some (.bk ρ))=some (.bk ρ):=rfl
theorem b4I:thnO G (some (.ct ρ))=some (.ct ρ):=rfl
def retO:Option (W×Ev)->Option R
 | some p=>retW p.2 p.1
 | none=>none
def retS (ρ:Ev):Option (Option W)->Option R
 | some (some (.o d))=>some (.rt (.o d) ρ)
 | some (some (.v d))=>some (.rt (.v d) ρ)
 | _=>none
theorem b2x:fRet f ρ=retO (f ρ):=by unfold fRet retO;cases f ρ<;>rfl
theorem a7r:retO (some (.v d,ρ))=some (.rt (.v d) ρ):=rfl
theorem a67:retO (some (.o d,ρ))=some (.rt (.o d) ρ):=rfl
theorem a6D:retO (some (.r i,ρ))=retS ρ ρ[i]?:=by unfold retO retS;first|(dsimp only[retW];done)|(dsimp only[retW];rfl)
theorem a4P:retS ρ (some (some (.o d)))=some (.rt (.o d) ρ):=rfl
theorem r_retS_v:retS ρ (some (some (.v d)))=some (.rt (.v d) ρ):=rfl
def ifO (F G:FS):Option (Bool×Ev)->Option R
 | some (true,ρ)=>F ρ
 | some (false,ρ)=>G ρ
 | none=>none
theorem r_ifS:fIfS t F G ρ=ifO F G (t ρ):=by unfold fIfS ifO;cases t ρ with
 | none=>rfl
 | some p=>obtain⟨k,ρ⟩:=p;cases k<;>rfl
theorem a7q:ifO F G (some (true,ρ))=F ρ:=id rfl
theorem a7M:ifO F G (some (false,ρ))=G ρ:=id rfl
def asgO (i:Nat):Option (W×Ev)->Option R
 | some p=>(bindW p.2 i p.1).map .nx
 | none=>none
def bndO (i j:Nat):Option Ev->Option R
 | some ρ1=>match ρ1[j]? with
  | some (some (.v d))=>if freeSlot ρ1 i=true then some (.nx (ρ1.set i (some (.v d)))) else none
  | _=>none
 | none=>none
def bndS (i:Nat) (ρ:Ev):Option (Option W)->Option R
 | some (some (.v d))=>if freeSlot ρ i=true then some (.nx (ρ.set i (some (.v d)))) else none
 | _=>none
theorem b2A:fAsg i f ρ=asgO i (f ρ):=by unfold fAsg asgO;cases f ρ<;>rfl
theorem a6C:asgO i (some (.v d,ρ))=if freeSlot ρ i=true then some (.nx (ρ.set i (some (.v d)))) else none:=by unfold asgO;dsimp only[bindW];split<;>rfl
theorem a7U:asgO i (some (.o d,ρ))=if freeSlot ρ i=true then some (.nx (ρ.set i (some (.o d)))) else none:=by unfold asgO;dsimp only[bindW];split<;>rfl
theorem r_asg_r:asgO i (some (.r j,ρ))=bndO i j (frzAt ρ j):=by
 unfold asgO bndO;dsimp only[bindW];cases frzAt ρ j with
 | none=>rfl
 | some ρ1=>
  simp only[bind_some];cases q:ρ1[j]? with
  | none=>rfl
  | some o=>
   cases o with
   | none=>rfl
   | some w=>
    cases w with
    | v d=>dsimp only;split<;>rfl
    | _=>rfl
theorem r_bndO:bndO i j (some ρ)=bndS i ρ ρ[j]?:=by
 unfold bndO bndS;rfl
theorem r_bndS:bndS i ρ (some (some (.v d)))=if freeSlot ρ i=true then some (.nx (ρ.set i (some (.v d)))) else none:=rfl
def agO2 (gf:FG):Option (W×Ev)->Option R
 | some p=>(takeAll p.2 [p.1.fz]).bind fun q=>match q.1 with
  | [d]=>(gf d q.2).map .nx
  | _=>none
 | none=>none
def agO3 (gf:FG):Option (List D×Ev)->Option R
 | some ([d],ρ)=>(gf d ρ).map .nx
 | _=>none
def nxO:Option Ev->Option R
 | some ρ=>some (.nx ρ)
 | none=>none
theorem r_ag {gf:FG}:fAsgG f gf ρ=agO2 gf (f ρ):=by unfold fAsgG agO2;cases f ρ<;>rfl
theorem b3z {gf:FG}:agO2 gf (some (w,ρ))=agO3 gf (takeAll ρ [w.fz]):=by
 unfold agO2 agO3;dsimp only;cases takeAll ρ [w.fz] with
 | none=>rfl
 | some p=>
  obtain⟨ds,ρ⟩:=p
  match ds with
  | []=>rfl
  | [_]=>rfl
  | _::_::_=>rfl
theorem b3p {gf:FG}:agO3 gf (some ([d],ρ))=nxO (gf d ρ):=by unfold agO3 nxO;dsimp only;cases gf d ρ<;>rfl
theorem b3v:nxO (some ρ)=some (.nx ρ):=rfl
theorem a7d:gfName i d ρ=if freeSlot ρ i=true then some (ρ.set i (some (.v d))) else none:=rfl
def gcO (gs:FGs) (ds:List D):Option Ev->Option Ev
 | some ρ=>gs ds ρ
 | none=>none
theorem b0l:gfNil [] ρ=some ρ:=rfl
theorem a7H {gf:FG}{gs:FGs}:gfCons gf gs (d::ds) ρ=gcO gs ds (gf d ρ):=by unfold gfCons gcO;dsimp only;cases gf d ρ<;>rfl
theorem b2N {gs:FGs}:gcO gs ds (some ρ)=gs ds ρ:=id rfl
theorem a9k {gs:FGs}:gfTup gs (.tup ds) ρ=gs ds ρ:=rfl
def gs2 (g:FX) (d:D):Option (W×Ev)->Option Ev
 | some (.r j,ρ)=>(g ρ).bind fun q=>(dr q.2 q.1.fz).bind fun k=>match k,ownAt q.2 j with
  | .int k,some (.lst xs)=>(ixN xs.length k).map fun n=>setOwn q.2 j (.lst (xs.set n d))
  | _,_=>none
 | _=>none
def gs3 (j:Nat) (d:D):Option (W×Ev)->Option Ev
 | some q=>(dr q.2 q.1.fz).bind fun k=>match k,ownAt q.2 j with
  | .int k,some (.lst xs)=>(ixN xs.length k).map fun n=>setOwn q.2 j (.lst (xs.set n d))
  | _,_=>none
 | none=>none
def gs4 (j:Nat) (d:D) (ρ:Ev):Option D->Option D->Option Ev
 | some (.int k),some (.lst xs)=>(ixN xs.length k).map fun n=>setOwn ρ j (.lst (xs.set n d))
 | _,_=>none
theorem r_gs:gfSub f g d ρ=gs2 g d (f ρ):=by
 unfold gfSub gs2;cases f ρ with
 | none=>rfl
 | some p=>obtain⟨w,ρ⟩:=p;cases w<;>rfl
theorem b25:gs2 g d (some (.r j,ρ))=gs3 j d (g ρ):=by unfold gs2 gs3;dsimp only;cases g ρ<;>rfl
theorem b2o:gs3 j d (some (w,ρ))=gs4 j d ρ (dr ρ w.fz) (ownAt ρ j):=by
 unfold gs3 gs4;dsimp only;cases dr ρ w.fz with
 | none=>rfl
 | some k=>
  simp only[bind_some];cases k with
  | int n=>cases ownAt ρ j with
   | none=>rfl
   | some c=>cases c<;>rfl
  | _=>rfl
theorem b2z {n:Int}:gs4 j d ρ (some (.int n)) (some (.lst xs))=(ixN xs.length n).map fun n=>setOwn ρ j (.lst (xs.set n d)):=rfl
def dropO:Option (W×Ev)->Option R
 | some p=>some (.nx p.2)
 | none=>none
theorem a8V:fDrop f ρ=dropO (f ρ):=by unfold fDrop dropO;cases f ρ<;>rfl
theorem a6O:dropO (some (w,ρ))=some (.nx ρ):=rfl
def par2 (i j:Nat):Option (List W×Ev)->Option R
 | some p=>(takeAll p.2 p.1).bind fun q=>match q.1 with
  | [d,d']=>if freeSlot q.2 i=true/\freeSlot (q.2.set i (some (.v d))) j=true then some (.nx ((q.2.set i (some (.v d))).set j (some (.v d')))) else none
  | _=>none
 | none=>none
def par3 (i j:Nat):Option (List D×Ev)->Option R
 | some ([d,d'],ρ)=>if freeSlot ρ i=true/\freeSlot (ρ.set i (some (.v d))) j=true then some (.nx ((ρ.set i (some (.v d))).set j (some (.v d')))) else none
 | _=>none
theorem b3F:fPar i j fa ρ=par2 i j (fa ρ):=by unfold fPar par2;cases fa ρ<;>rfl
theorem a97:par2 i j (some (ws,ρ))=par3 i j (takeAll ρ ws):=by
 unfold par2 par3;dsimp only;cases takeAll ρ ws with
 | none=>rfl
 | some p=>
  obtain⟨ds,ρ⟩:=p
  match ds with
  | []=>rfl
  | [_]=>rfl
  | [_,_]=>rfl
  | _::_::_::_=>rfl
theorem b0o:par3 i j (some ([d,e],ρ))=if freeSlot ρ i=true/\freeSlot (ρ.set i (some (.v d))) j=true then some (.nx ((ρ.set i (some (.v d))).set j (some (.v e)))) else none:=rfl
def is2:Option (W×Ev)->Option (List D×Ev)
 | some p=>(takeAll p.2 [p.1.fz]).bind fun q=>match q.1 with
  | [d]=>(items d).map fun xs=>(xs,q.2)
  | _=>none
 | none=>none
def is3:Option (List D×Ev)->Option (List D×Ev)
 | some ([.tup xs],ρ)=>some (xs,ρ)
 | some ([.lst xs],ρ)=>some (xs,ρ)
 | _=>none
theorem r_is:fiSeq f ρ=is2 (f ρ):=by unfold fiSeq is2;cases f ρ<;>rfl
theorem b2s:is2 (some (w,ρ))=is3 (takeAll ρ [w.fz]):=by
 unfold is2 is3;dsimp only;cases takeAll ρ [w.fz] with
 | none=>rfl
 | some p=>
  obtain⟨ds,ρ⟩:=p
  match ds with
  | []=>rfl
  | [d]=>cases d<;>rfl
  | _::_::_=>simp
theorem a9w:is3 (some ([.tup xs],ρ))=some (xs,ρ):=rfl
theorem b1q:is3 (some ([.lst xs],ρ))=some (xs,ρ):=rfl
def forO (gf:FG) (b:FS):Option (List D×Ev)->Option R
 | some p=>loopF (turnF gf b) p.1 p.2
 | none=>none
theorem b2Y {fi:FI}{gf:FG}:fFor fi gf F ρ=forO gf F (fi ρ):=by unfold fFor forO;cases fi ρ<;>rfl
theorem a9U {gf:FG}:forO gf F (some (xs,ρ))=loopF (turnF gf F) xs ρ:=id rfl
def turnO (b:FS):Option Ev->Option R
 | some ρ=>b ρ
 | none=>none
theorem a9i {gf:FG}:turnF gf F d ρ=turnO F (gf d ρ):=by unfold turnF turnO;cases gf d ρ<;>rfl
theorem a6J:turnO F (some ρ)=F ρ:=id rfl
def mu2 (op:List D->List D->Option (W×List D)) (fa:FA):Option (W×Ev)->Option (W×Ev)
 | some (.r i,ρ)=>if isLst (ownAt ρ i)=true then(fa ρ).bind fun q=>(takeAll q.2 q.1).bind fun z=>match ownAt z.2 i with
  | some (.lst xs)=>(op xs z.1).map fun y=>(y.1,setOwn z.2 i (.lst y.2))
  | _=>none
  else none
 | _=>none
def mu3 (op:List D->List D->Option (W×List D)) (i:Nat):Option (List W×Ev)->Option (W×Ev)
 | some q=>(takeAll q.2 q.1).bind fun z=>match ownAt z.2 i with
  | some (.lst xs)=>(op xs z.1).map fun y=>(y.1,setOwn z.2 i (.lst y.2))
  | _=>none
 | none=>none
def mu4 (op:List D->List D->Option (W×List D)) (i:Nat):Option (List D×Ev)->Option (W×Ev)
 | some z=>match ownAt z.2 i with
  | some (.lst xs)=>(op xs z.1).map fun y=>(y.1,setOwn z.2 i (.lst y.2))
  | _=>none
 | none=>none
def mu5 (op:List D->List D->Option (W×List D)) (i:Nat) (ds:List D) (ρ:Ev):Option D->Option (W×Ev)
 | some (.lst xs)=>(op xs ds).map fun y=>(y.1,setOwn ρ i (.lst y.2))
 | _=>none
def mu6 (i:Nat) (ρ:Ev):Option (W×List D)->Option (W×Ev)
 | some y=>some (y.1,setOwn ρ i (.lst y.2))
 | none=>none
variable {om:List D->List D->Option (W×List D)}
theorem r_mu:fMut om f fa ρ=mu2 om fa (f ρ):=by
 unfold fMut mu2;cases f ρ with
 | none=>rfl
 | some p=>obtain⟨w,ρ⟩:=p;cases w<;>rfl
theorem b3u:mu2 om fa (some (.r i,ρ))=if isLst (ownAt ρ i)=true then mu3 om i (fa ρ) else none:=by unfold mu2 mu3;dsimp only;cases fa ρ<;>rfl
theorem b26:mu3 om i (some (ws,ρ))=mu4 om i (takeAll ρ ws):=by unfold mu3 mu4;dsimp only;cases takeAll ρ ws<;>rfl
theorem b3k:mu4 om i (some (ds,ρ))=mu5 om i ds ρ (ownAt ρ i):=by unfold mu4 mu5;rfl
theorem b2V:mu5 om i ds ρ (some (.lst xs))=mu6 i ρ (om xs ds):=by unfold mu5 mu6;dsimp only;cases om xs ds<;>rfl
theorem b2P:mu6 i ρ (some (w,xs))=some (w,setOwn ρ i (.lst xs)):=rfl
theorem b2Z:mApp xs [d]=if xs.length<lim then some (.v .non,xs++[d]) else none:=rfl
def runO:Option R->Option W
 | some (.rt w _)=>some w
 | some (.nx _)=>some (.v .non)
 | _=>none
theorem b3s {np n:Nat}:runD np n G ds=if ds.length=np then runO (G (start0 n ds)) else none:=by
 unfold runD runO
 split
 ·cases G (start0 n ds) with
  | none=>rfl
  | some r=>cases r<;>rfl
 ·rfl
theorem a5d:runO (some (.rt w ρ))=some w:=rfl
theorem r_run_nx:runO (some (.nx ρ))=some (.v .non):=rfl
def runLO:Option R->Option (W×D)
 | some (.rt w ρ)=>(ownAt ρ 0).map fun c=>(w,c)
 | some (.nx ρ)=>(ownAt ρ 0).map fun c=>(.v .non,c)
 | _=>none
theorem b01 {np n:Nat}:runL np n G d ds=if ds.length+1=np then runLO (G (some (.l d)::start0 (n-1) ds)) else none:=by
 unfold runL runLO
 split
 ·cases G (some (.l d)::start0 (n-1) ds) with
  | none=>rfl
  | some r=>cases r<;>rfl
 ·rfl
theorem a3b:runLO (some (.rt w ρ))=(ownAt ρ 0).map fun c=>(w,c):=rfl
theorem b4J:runLO (some (.nx ρ))=(ownAt ρ 0).map fun c=>(.v .non,c):=rfl
variable {m n:Int}
theorem o_i0 {g:Int->Int->D}:oI0 g (.int m) (.int n)=some (.v (g m n)):=rfl
theorem o_i {C:Int->Int->Prop} [∀i j,Decidable (C i j)] {g:Int->Int->D}:oI C g (.int m) (.int n)=if C m n then some (.v (g m n)) else none:=rfl
theorem a6y:oAdd (.int m) (.int n)=some (.v (.int (m+n))):=rfl
theorem a7N:oAdd (.lst xs) (.lst ys)=if xs.length+ys.length<=lim then some (.o (.lst (xs++ys))) else none:=rfl
theorem o_add_t:oAdd (.tup xs) (.tup ys)=if xs≠[]/\xs.length+ys.length<=lim then some (.v (.tup (xs++ys))) else none:=by
 by_cases h:xs≠[]/\xs.length+ys.length<=lim
 ·rw[if_pos h];exact if_pos h
 ·rw[if_neg h];exact if_neg h
theorem b20:oNeg (.int m)=some (.v (.int (-m))):=rfl
theorem b0L:oLtT (.int m) (.int n)=some (.v (.bl (decide (m<n)))):=rfl
theorem a9V:oIx (.tup xs) (.int n)=(atI xs n).map .v:=rfl
theorem b0G:oIx (.lst xs) (.int n)=(atI xs n).map .v:=rfl
theorem o_len_t:gLen (.tup xs)=some (.v (.int xs.length)):=rfl
theorem a7R:gLen (.lst xs)=some (.v (.int xs.length)):=rfl
theorem b3j:gAbs (.int m)=some (.v (.int (if m<0 then -m else m))):=rfl
theorem o_int:gInt (.bl b)=some (.v (.int (if b then 1 else 0))):=rfl
theorem b4M:gTuple (.tup xs)=some (.v (.tup xs)):=rfl
theorem a3q:gTuple (.lst xs)=some (.v (.tup xs)):=rfl
theorem o_list_t:gList (.tup xs)=some (.o (.lst xs)):=rfl
theorem o_list_l:gList (.lst xs)=some (.o (.lst xs)):=rfl
theorem o_d2 {q:D->D->Option Bool}{neg:Bool}:oD2 q neg x y=(q x y).map fun k=>.v (.bl (if neg then !k else k)):=rfl
theorem a_0:atI (d::ds) 0=some d:=z9 (j:=0) rfl
theorem a_1:atI (d::e::ds) 1=some e:=z9 (j:=1) rfl
theorem a_2:atI (d::e::x::ds) 2=some x:=z9 (j:=2) rfl
end
open PySem PySem.Spec PyProof.Rows L2
section
variable {prog:Program}{w:World}{A:Around}{E:Value->Shared->Prop}{s:Shared}
theorem a59 {c t:Addr}{k:Nat}{its:Array Value}{x:Value}{Q:Value->Shared->Prop}(hc:IsTupIter s.heap c t k)(ht:IsTup s.heap t its)(hx:its[k]? =some x)
  (q:∀h',IsTupIter h' c t (k+1)->Heap.SameBut c s.heap h'->Q x {s with heap:=h'}):wpAny (model prog w) A (Builtin.SmallTypes.nextOf (.ref c)) Q E s:=by
 have T:=hc.typeIs;obtain⟨o,e1,e2,e3⟩:=hc;obtain⟨o2,g1,_,m,g3⟩:=ht;unfold Builtin.SmallTypes.nextOf;refine zA (qE (name:=Str.ofString "__next__") T slot_tupleiter_next (qO slot_tupleiter_next T entry_tupleiter_next ?_ (args_tupleiter_next _)));have step:wpAny (model prog w) A.in1 (setField (.ref c) 1 (rawInt ((k:Nat)+1:Nat))) (fun _ s'=>wpAny (model prog w) A.in1 (ret x) (fun fin s''=>∃v,fin= .done (.ret v)/\wpAny (model prog w) A (pure v) Q E s'') E s') E s:=by
  refine wpAny_setField e1 e3 (by simp) (zB ⟨x,rfl,zB (q _ ⟨_,xL _ e1 (Obj.isFreed_of_fields (Obj.data_mapFields e3 _)),(Obj.cls_mapFields ..).trans e2,?_⟩ (qZ ..))⟩)
  rw[Obj.data_mapFields e3];simp[rawInt]
 refine zA (m:=field (.ref c) 0) (qP e1 e3 (x:=.ref t) rfl ?_);show wpAny _ _ (if(Value.ref t==Value.none)=true then _ else _) _ _ s;have nn:¬((Value.ref t==Value.none)=true):=zP;rw[if_neg nn];refine zA (m:=field (.ref c) 1) (qP e1 e3 (x:=.int k 0) rfl (zA (m:=seqItems? (.ref t)) (xO g1 g3 ?_)));simp only[qQ,hx];exact zA step
theorem a8f {c t:Addr}{k:Nat}{its:Array Value}{Q:Value->Shared->Prop}(hh:A.handled=none)(hc:IsTupIter s.heap c t k)(ht:IsTup s.heap t its)(hx:its[k]? =none)
  (q:∀h' x,Heap.ExtBut c s.heap h'->(∃o,h'.get? x=some o/\o.cls= .type "StopIteration")->E (.ref x) {s with heap:=h'}):wpAny (model prog w) A (Builtin.SmallTypes.nextOf (.ref c)) Q E s:=by
 have T:=hc.typeIs;obtain⟨o,e1,e2,e3⟩:=hc;obtain⟨o2,g1,_,m,g3⟩:=ht;unfold Builtin.SmallTypes.nextOf;refine zA (qE (name:=Str.ofString "__next__") T slot_tupleiter_next (qO slot_tupleiter_next T entry_tupleiter_next ?_ (args_tupleiter_next _)));refine zA (m:=field (.ref c) 0) (qP e1 e3 (x:=.ref t) rfl ?_);show wpAny _ _ (if(Value.ref t==Value.none)=true then _ else _) _ _ s;have nn:¬((Value.ref t==Value.none)=true):=zP;rw[if_neg nn];refine zA (m:=field (.ref c) 1) (qP e1 e3 (x:=.int k 0) rfl (zA (m:=seqItems? (.ref t)) (xO g1 g3 ?_)));simp only[qQ,hx];refine zA (jT (zA (wpAny_setField e1 e3 (by simp) ?_)))
 refine zA (m:=newExc (.type "StopIteration") []) ?_;simp only[newExc,newTuple];refine zA (qD ?_ (by size_fits))
 refine zA (m:=firstArgMember _ _) (wpAny_of_eq (a:=Value.none) (by first|rfl|(simp only[firstArgMember];rfl)) (qD ?_ (by size_fits)))
 simp only[raiseNew];refine zA (wpAny_handled ?_)
 first|rw[show A.in1.handled=none from hh]|rw[hh]
 exact zA (zB (wpAny_throw (q _ _ (((qZ ..).extBut.push _).push _) ⟨_,zS _ rfl,rfl⟩)))
end
def SIt (k:Bool) (h:Heap) (c t:Addr) (i:Nat):Prop:=match k with
 | true=>h.IsListIter c t i
 | false=>IsTupIter h c t i
def SSq (k:Bool) (h:Heap) (t:Addr) (its:Array Value):Prop:=match k with
 | true=>h.IsList t its
 | false=>IsTup h t its
def SqK (k:Bool) (K:PySem.W.Frag) (H:Hp) (a:Addr) (xs:List V):Prop:=match k with
 | true=>SqL K H a xs
 | false=>SqT K H a xs
def itN (k:Bool):String:=if k then "list_iterator" else "tuple_iterator"
theorem B4 {b:Bool}{h h':Heap}{c t:Addr}{k:Nat}(i:SIt b h c t k)(kp:∀o,h.get? c=some o->h'.get? c=some o):SIt b h' c t k:=by
 cases b<;>(obtain⟨o,e,r⟩:=i;exact⟨o,kp o e,r⟩)
theorem a1v {b:Bool}{h h':Heap}{c:Addr}{its:Array Value}(i:SSq b h c its)(kp:∀o,h.get? c=some o->h'.get? c=some o):SSq b h' c its:=by
 cases b<;>(obtain⟨o,e,r⟩:=i;exact⟨o,kp o e,r⟩)
theorem F6 {b:Bool}{h:Heap}{c t:Addr}{k:Nat}(i:SIt b h c t k):∃o,h.get? c=some o/\∀v,o.data≠.cell v:=by
 cases b<;>(obtain⟨o,e,r,d⟩:=i;exact⟨o,e,fun v z=>by rw[d] at z;cases z⟩)
theorem a3V {b:Bool}{h:Heap}{c l:Addr}(e:h.get? c=some {cls:=.type (itN b),data:=.fields #[.ref l,.int 0 0]}):SIt b h c l 0:=by
 cases b<;>exact⟨_,e,rfl,rfl⟩
theorem sqk {X:Cx}{k:Bool}{pins:List (Addr×PySem.Obj)}{σ:L2.St}{H:Hp}{s:Shared}{a:Addr}{xs:List V}(I:Inv X pins σ H s)(h:SqK k X.K H a xs):∃its,Vals xs its/\SSq k s.heap a its.toArray:=by
 cases k
 ·obtain⟨its,r,p,_⟩:=I.tuple h;exact⟨its,r,p⟩
 ·obtain⟨its,r,p,_⟩:=I.list h;exact⟨its,r,p.isList⟩
theorem a4j {X:Cx}{k:Bool}{pins:List (Addr×PySem.Obj)}{σ:L2.St}{H:Hp}{s:Shared}{a:Addr}{xs ys:List V}(I:Inv X pins σ H s)(h:SqK k X.K H a xs)(h':SqK k X.K H a ys):xs=ys:=by
 cases k
 ·exact I.tuple_inj h h'
 ·exact I.list_inj h h'
theorem a9E {b:Bool}{h:Heap}{c:Addr}{its:Array Value}(i:SSq b h c its):c<h.objs.size:=by
 cases b<;>(obtain⟨o,e,r⟩:=i;exact zW e)
section
variable {prog:Program}{w:World}{A:Around}{E:Value->Shared->Prop}{s:Shared}
theorem Q6 {b:Bool}{c t:Addr}{k:Nat}{its:Array Value}{x:Value}{Q:Value->Shared->Prop}(hc:SIt b s.heap c t k)(ht:SSq b s.heap t its)(hx:its[k]? =some x)
  (q:∀h',SIt b h' c t (k+1)->Heap.SameBut c s.heap h'->Q x {s with heap:=h'}):wpAny (model prog w) A (Builtin.SmallTypes.nextOf (.ref c)) Q E s:=by
 cases b
 ·exact a59 hc ht hx q
 ·exact wpAny_nextOf_list_item hc ht hx q
theorem a1p {b:Bool}{c t:Addr}{k:Nat}{its:Array Value}{Q:Value->Shared->Prop}(hh:A.handled=none)(hc:SIt b s.heap c t k)(ht:SSq b s.heap t its)(hx:its[k]? =none)
  (q:∀h' x,Heap.ExtBut c s.heap h'->(∃o,h'.get? x=some o/\o.cls= .type "StopIteration")->E (.ref x) {s with heap:=h'}):wpAny (model prog w) A (Builtin.SmallTypes.nextOf (.ref c)) Q E s:=by
 cases b
 ·exact a8f hh hc ht hx q
 ·exact wpAny_nextOf_list_end hh hc ht hx q
theorem iterS {b:Bool}{l:Addr}{its:Array Value}{Q:Value->Shared->Prop}(ht:SSq b s.heap l its)(q:Q (.ref s.heap.objs.size) {s with heap:=s.heap.push {cls:=.type (itN b),data:=.fields #[.ref l,.int 0 0]}}):wpAny (model prog w) A (pyIter (.ref l)) Q E s:=by
 cases b
 ·exact iter_tuple ht q
 ·exact yU ht q
end
section
variable {prog:Program}{w:World}{A:Around}{E:Value->Shared->Prop}{s:Shared}{c1 c2:Bool}{z TI TO i1 i2 l1 l2:Addr}{k1 k2:Nat}{xs ys:Array Value}{x y a b:Value}
theorem a8r {Q:Value->Shared->Prop}(D:ZipApart z TI TO i1 i2 l1 l2)(hz:IsZip s.heap z TI TO .none)(hTI:IsPair s.heap TI (.ref i1) (.ref i2))(hTO:IsPair s.heap TO a b)
  (h1:SIt c1 s.heap i1 l1 k1) (h2:SIt c2 s.heap i2 l2 k2) (t1:SSq c1 s.heap l1 xs) (t2:SSq c2 s.heap l2 ys) (hx:xs[k1]? =some x) (hy:ys[k2]? =some y)
  (q:∀h',IsZip h' z TI TO (rawInt s.heap.objs.size)->IsPair h' TO x y->SIt c1 h' i1 l1 (k1+1)->SIt c2 h' i2 l2 (k2+1)->IsPair h' s.heap.objs.size x y->h'.objs.size=s.heap.objs.size+1->
   (∀c o,c≠z->c≠TO->c≠i1->c≠i2->s.heap.get? c=some o->h'.get? c=some o)->Q (.ref s.heap.objs.size) {s with heap:=h'}):
  wpAny (model prog w) A (Builtin.«zip.__next__» ⟨[.ref z],[]⟩) (fun fin s'=>∃v,fin= .done (.ret v)/\Q v s') E s:=by
 refine zA (m:=field (.ref z) 2) (qP hz rfl (x:=.bool false) rfl ?_);refine zA (m:=field (.ref z) 3) (qP hz rfl (x:=.ref TI) rfl (zA (xO hTI rfl ?_)));refine zA (m:=Builtin.SmallTypes.ownedTupleIsFree (.ref z)) ?_;unfold Builtin.SmallTypes.ownedTupleIsFree;refine zA (qP hz rfl (x:=.none) rfl (zB ?_));simp only[jC];refine zA (jT (zA (qP hz rfl (x:=.ref TO) rfl (zA (jB hz (by simp) fun ha za sa=>?_)))))
 have za':IsZip ha z TI TO .ellipsis:=za;have ka:∀c o,c≠z->s.heap.get? c=some o->ha.get? c=some o:=fun c o n e=>sa.extBut c o n e;refine zA ?_;simp only[List.zipIdx_cons,List.zipIdx_nil,List.forIn_cons,List.forIn_nil];refine zA (zA (wpAny_onRaise (zA (m:=Builtin.SmallTypes.nextOf (.ref i1)) (Q6 (B4 h1 fun o e=>ka _ o D.i1z e) (a1v t1 fun o e=>ka _ o D.l1z e) hx fun hb ib sb=>zB ?_))));have kb:∀c o,c≠z->c≠i1->s.heap.get? c=some o->hb.get? c=some o:=fun c o n n1 e=>sb.extBut c o n1 (ka c o n e);have ob:IsPair hb TO a b:=kb _ _ D.TOz D.TOi1 hTO;refine zA (xO ob rfl (zA (wpAny_updateSeq_pair ob fun hc oc sc=>?_)));have oc':IsPair hc TO x b:=oc;have kc:∀c o,c≠z->c≠i1->c≠TO->s.heap.get? c=some o->hc.get? c=some o:=fun c o n n1 n2 e=>sc.extBut c o n2 (kb c o n n1 e);refine zA (wpAny_letGo (zB ?_));refine zA (zA (wpAny_onRaise (zA (m:=Builtin.SmallTypes.nextOf (.ref i2)) (Q6 (B4 h2 fun o e=>kc _ o D.i2z D.i12.symm D.TOi2.symm e) (a1v t2 fun o e=>kc _ o D.l2z D.l2i1 D.l2TO e) hy fun hd id' sd=>zB ?_))));have od:IsPair hd TO x b:=sd.extBut _ _ D.TOi2 oc';refine zA (xO od rfl (zA (wpAny_updateSeq_pair od fun he oe se=>?_)));have oe':IsPair he TO x y:=oe;refine zA (wpAny_letGo (zB (zB ?_)));refine zA (xO oe' rfl (zA (wpAny_newTuple ?_)));have size:he.objs.size=s.heap.objs.size:=by rw[se.1,sd.1,sc.1,sb.1,sa.1]
 have ke:∀c o,c≠z->c≠TO->c≠i1->c≠i2->s.heap.get? c=some o->he.get? c=some o:=fun c o n n1 n2 n3 e=>se.extBut c o n1 (sd.extBut c o n3 (kc c o n n2 n1 e));have ze:IsZip he z TI TO .ellipsis:=se.extBut _ _ D.TOz.symm (sd.extBut _ _ D.i2z.symm (sc.extBut _ _ D.TOz.symm (sb.extBut _ _ D.i1z.symm za')));have ie1:SIt c1 he i1 l1 (k1+1):=B4 ib fun o e=>se.extBut _ o D.TOi1.symm (sd.extBut _ o D.i12 (sc.extBut _ o D.TOi1.symm e));have ie2:SIt c2 he i2 l2 (k2+1):=B4 id' fun o e=>se.extBut _ o D.TOi2.symm e;have zlt:z<he.objs.size:=zW ze;refine zA (m:=Builtin.SmallTypes.ownedTupleHandOut (.ref z) (.ref he.objs.size)) ?_;unfold Builtin.SmallTypes.ownedTupleHandOut;have zp:IsZip (he.push {cls:=.type "tuple",data:=.seq #[x,y]}) z TI TO .ellipsis:=zD _ ze;refine zA (jB zp (by simp) fun hf zf sf=>?_)
 have zf':IsZip hf z TI TO (rawInt he.objs.size):=zf;refine jB zf' (by simp) fun hg zg sg=>?_
 have zg':IsZip hg z TI TO (rawInt he.objs.size):=zg;have up:∀c o,c≠z->he.get? c=some o->hg.get? c=some o:=fun c o n e=>sg.extBut c o n (sf.extBut c o n (zD _ e));have pg:IsPair hg he.objs.size x y:=sg.extBut _ _ (Nat.ne_of_gt zlt) (sf.extBut _ _ (Nat.ne_of_gt zlt) (zS _ rfl));have szg:hg.objs.size=he.objs.size+1:=by rw[sg.1,sf.1,yC]
 rw[size] at zg' pg szg;refine zB ⟨_,rfl,?_⟩;show Q (.ref he.objs.size) _;rw[size];exact q hg zg' (up _ _ D.TOz oe') (B4 ie1 fun o e=>up _ o D.i1z e) (B4 ie2 fun o e=>up _ o D.i2z e) pg szg fun c o n n1 n2 n3 e=>up c o n (ke c o n n1 n2 n3 e)
end
section
variable {prog:Program}{w:World}{A:Around}{E:Value->Shared->Prop}{s:Shared}{c1 c2:Bool}{z TI TO i1 i2 l1 l2:Addr}{k1 k2:Nat}{xs ys:Array Value}{x y a b:Value}
theorem a80 {Q:Fin->Shared->Prop}(hh:A.handled=none)(D:ZipApart z TI TO i1 i2 l1 l2)(hz:IsZip s.heap z TI TO .none)(hTI:IsPair s.heap TI (.ref i1) (.ref i2))(hTO:IsPair s.heap TO a b)
  (h1:SIt c1 s.heap i1 l1 k1) (h2:SIt c2 s.heap i2 l2 k2) (t1:SSq c1 s.heap l1 xs) (t2:SSq c2 s.heap l2 ys) (hend:xs[k1]? =none\/ys[k2]? =none)
  (q:∀h' c,(∀c o,c≠z->c≠TO->c≠i1->c≠i2->s.heap.get? c=some o->h'.get? c=some o)->(∃o,h'.get? c=some o/\o.cls= .type "StopIteration")->E (.ref c) {s with heap:=h'}):
  wpAny (model prog w) A (Builtin.«zip.__next__» ⟨[.ref z],[]⟩) Q E s:=by
 refine zA (m:=field (.ref z) 2) (qP hz rfl (x:=.bool false) rfl ?_);refine zA (m:=field (.ref z) 3) (qP hz rfl (x:=.ref TI) rfl (zA (xO hTI rfl ?_)));refine zA (m:=Builtin.SmallTypes.ownedTupleIsFree (.ref z)) ?_;unfold Builtin.SmallTypes.ownedTupleIsFree;refine zA (qP hz rfl (x:=.none) rfl (zB ?_));simp only[jC];refine zA (jT (zA (qP hz rfl (x:=.ref TO) rfl (zA (jB hz (by simp) fun ha za sa=>?_)))))
 have za':IsZip ha z TI TO .ellipsis:=za;have ka:∀c o,c≠z->s.heap.get? c=some o->ha.get? c=some o:=fun c o n e=>sa.extBut c o n e;have apart:∀{h:Heap} {c:Addr} {v:Value},IsZip h z TI TO v->(∃o,h.get? c=some o/\o.cls= .type "StopIteration")->c≠z:=fun{h c v} hz' ⟨o,e1,e2⟩ n=>by
  subst n;rw[hz'] at e1;cases e1;simp at e2
 refine zA ?_;simp only[List.zipIdx_cons,List.zipIdx_nil,List.forIn_cons,List.forIn_nil];cases hx:xs[k1]? with
 | none=>
  refine zA (zA (wpAny_onRaise (zA (m:=Builtin.SmallTypes.nextOf (.ref i1)) (a1p hh (B4 h1 fun o e=>ka _ o D.i1z e) (a1v t1 fun o e=>ka _ o D.l1z e) hx fun hb c kb hc=>?_))));have zb:IsZip hb z TI TO .ellipsis:=kb _ _ D.i1z.symm za';have nz:=apart zb hc;obtain⟨o,eo,co⟩:=hc;exact jB zb (by simp) fun hd _ sd=>q hd c (fun d o' n _ n2 _ e=>sd.extBut d o' n (kb d o' n2 (ka d o' n e))) ⟨o,sd.extBut _ _ nz eo,co⟩
 | some x=>
  have hy:ys[k2]? =none:=hend.resolve_left (by rw[hx];exact fun n=>nomatch n)
  refine zA (zA (wpAny_onRaise (zA (m:=Builtin.SmallTypes.nextOf (.ref i1)) (Q6 (B4 h1 fun o e=>ka _ o D.i1z e) (a1v t1 fun o e=>ka _ o D.l1z e) hx fun hb ib sb=>zB ?_))));have kb:∀c o,c≠z->c≠i1->s.heap.get? c=some o->hb.get? c=some o:=fun c o n n1 e=>sb.extBut c o n1 (ka c o n e);have ob:IsPair hb TO a b:=kb _ _ D.TOz D.TOi1 hTO;refine zA (xO ob rfl (zA (wpAny_updateSeq_pair ob fun hc oc sc=>?_)));have kc:∀c o,c≠z->c≠i1->c≠TO->s.heap.get? c=some o->hc.get? c=some o:=fun c o n n1 n2 e=>sc.extBut c o n2 (kb c o n n1 e);refine zA (wpAny_letGo (zB ?_));refine zA (zA (wpAny_onRaise (zA (m:=Builtin.SmallTypes.nextOf (.ref i2)) (a1p hh (B4 h2 fun o e=>kc _ o D.i2z D.i12.symm D.TOi2.symm e) (a1v t2 fun o e=>kc _ o D.l2z D.l2i1 D.l2TO e) hy fun hd c kd hc'=>?_))));have zd:IsZip hd z TI TO .ellipsis:=kd _ _ D.i2z.symm (sc.extBut _ _ D.TOz.symm (sb.extBut _ _ D.i1z.symm za'));have nz:=apart zd hc';obtain⟨o,eo,co⟩:=hc';exact jB zd (by simp) fun hf _ sf=>q hf c (fun d o' n n1 n2 n3 e=>sf.extBut d o' n (kd d o' n3 (kc d o' n n2 n1 e))) ⟨o,sf.extBut _ _ nz eo,co⟩
theorem a6b {Q:Option Value->Shared->Prop}(D:ZipApart z TI TO i1 i2 l1 l2)(hz:IsZip s.heap z TI TO .none)(hTI:IsPair s.heap TI (.ref i1) (.ref i2))(hTO:IsPair s.heap TO a b)
  (h1:SIt c1 s.heap i1 l1 k1) (h2:SIt c2 s.heap i2 l2 k2) (t1:SSq c1 s.heap l1 xs) (t2:SSq c2 s.heap l2 ys) (hx:xs[k1]? =some x) (hy:ys[k2]? =some y)
  (q:∀h',IsZip h' z TI TO (rawInt s.heap.objs.size)->IsPair h' TO x y->SIt c1 h' i1 l1 (k1+1)->SIt c2 h' i2 l2 (k2+1)->IsPair h' s.heap.objs.size x y->h'.objs.size=s.heap.objs.size+1->
   (∀c o,c≠z->c≠TO->c≠i1->c≠i2->s.heap.get? c=some o->h'.get? c=some o)->Q (some (.ref s.heap.objs.size)) {s with heap:=h'}):
  wpAny (model prog w) A (pyNext (.ref z)) Q E s:=by
 have T:s.TypeIs (.ref z) "zip":=⟨_,hz,rfl⟩;unfold pyNext
 exact zA (wpAny_attempt (qE (name:=Str.ofString "__next__") T F.slot_zip_next
  (qO F.slot_zip_next T F.entry_zip_next (a8r D hz hTI hTO h1 h2 t1 t2 hx hy fun h' b1 b2 b3 b4 b5 b6 b7=>zB (q h' b1 b2 b3 b4 b5 b6 b7)) (F.args_zip_next_1 _))))
theorem a8m {Q:Option Value->Shared->Prop}(hh:A.handled=none)(D:ZipApart z TI TO i1 i2 l1 l2)(hz:IsZip s.heap z TI TO .none)(hTI:IsPair s.heap TI (.ref i1) (.ref i2))(hTO:IsPair s.heap TO a b)
  (h1:SIt c1 s.heap i1 l1 k1) (h2:SIt c2 s.heap i2 l2 k2) (t1:SSq c1 s.heap l1 xs) (t2:SSq c2 s.heap l2 ys) (hend:xs[k1]? =none\/ys[k2]? =none)
  (q:∀h',(∀c o,c≠z->c≠TO->c≠i1->c≠i2->s.heap.get? c=some o->h'.get? c=some o)->Q none {s with heap:=h'}):wpAny (model prog w) A (pyNext (.ref z)) Q E s:=by
 have T:s.TypeIs (.ref z) "zip":=⟨_,hz,rfl⟩;unfold pyNext;refine zA (wpAny_attempt (qE (name:=Str.ofString "__next__") T F.slot_zip_next (qO F.slot_zip_next T F.entry_zip_next (a80 hh D hz hTI hTO h1 h2 t1 t2 hend fun h' c kp hc=>?_) (F.args_zip_next_1 _))));obtain⟨o,eo,co⟩:=hc;exact zA (wpAny_isInstance (T:="StopIteration") (b:=true) ⟨o,eo,co⟩ isSubtype_stop (zB (q _ kp)))
abbrev zp1 (b:Bool) (h:Heap) (l:Addr):Heap:=h.push {cls:=.type (itN b),data:=.fields #[.ref l,.int 0 0]}
abbrev zp3 (c1 c2:Bool) (h:Heap) (l m:Addr):Heap:=(zp1 c2 (zp1 c1 h l) m).push {cls:=.type "tuple",data:=.seq #[.ref h.objs.size,.ref (zp1 c1 h l).objs.size]}
abbrev zp4 (c1 c2:Bool) (h:Heap) (l m:Addr):Heap:=(zp3 c1 c2 h l m).push {cls:=.type "tuple",data:=.seq #[.none,.none]}
abbrev zp5 (c1 c2:Bool) (h:Heap) (l m:Addr):Heap:=(zp4 c1 c2 h l m).push {cls:=.type "zip",data:=.fields #[.none,.bool false,.bool false,.ref (zp1 c2 (zp1 c1 h l) m).objs.size,.ref (zp3 c1 c2 h l m).objs.size]}
theorem b1j (c1 c2:Bool)(l m:Addr)(xs ys:Array Value):Meets (Builtin.«zip.__new__» ⟨[.type "zip",.ref l,.ref m],[]⟩) (fun _ R s=>SSq c1 s.heap l xs/\SSq c2 s.heap m ys/\R (.ok (.ret (.ref (zp4 c1 c2 s.heap l m).objs.size))) {s with heap:=zp5 c1 c2 s.heap l m}):=
 .of_wp fun prog w A R s hh=>by
  obtain⟨hp,g,d,tk,os⟩:=s;obtain⟨p1,p2,hr⟩:=hh;have hsub:=sub_zip;have q1:SSq c1 (Shared.heap ⟨hp,g,d,tk,os⟩) l xs:=p1;have q2:SSq c2 (Shared.heap ⟨zp1 c1 hp l,g,d,tk,os⟩) m ys:=a1v p2 fun o e=>zD _ e
  wp_walk using iterS q1,iterS q2
  exact⟨_,rfl,hr⟩
theorem a8t {Q:Value->Shared->Prop}(p1:SSq c1 s.heap l1 xs)(p2:SSq c2 s.heap l2 ys)
  (q:∀h',IsZip h' (s.heap.objs.size+4) (s.heap.objs.size+2) (s.heap.objs.size+3) .none->IsPair h' (s.heap.objs.size+2) (.ref s.heap.objs.size) (.ref (s.heap.objs.size+1))->IsPair h' (s.heap.objs.size+3) .none .none->
   SIt c1 h' s.heap.objs.size l1 0->SIt c2 h' (s.heap.objs.size+1) l2 0->(∀c o,s.heap.get? c=some o->h'.get? c=some o)->Q (.ref (s.heap.objs.size+4)) {s with heap:=h'}):
  wpAny (model prog w) A (call (.type "zip") [.ref l1,.ref l2]) Q E s:=by
 refine callType_new F.called_zip (by decide) (F.typeCall_zip_2 _ _) (F.newCall_zip_2 _ _) (fun obj=>F.args_object_init_3 obj _ _) F.entry_zip_new (b1j c1 c2 l1 l2 xs ys) ⟨p1,p2,?_⟩
 have n1:(zp1 c1 s.heap l1).objs.size=s.heap.objs.size+1:=yC ..;have n2:(zp1 c2 (zp1 c1 s.heap l1) l2).objs.size=s.heap.objs.size+2:=by rw[yC,n1]
 have n3:(zp3 c1 c2 s.heap l1 l2).objs.size=s.heap.objs.size+3:=by rw[yC,n2]
 have n4:(zp4 c1 c2 s.heap l1 l2).objs.size=s.heap.objs.size+4:=by rw[yC,n3]
 have up:∀{h:Heap} {c:Addr} {o p:PySem.Obj},h.get? c=some o->(h.push p).get? c=some o:=fun e=>zD _ e;have r5:(zp5 c1 c2 s.heap l1 l2).get? (zp4 c1 c2 s.heap l1 l2).objs.size=some _:=zS _ rfl;have r4:(zp5 c1 c2 s.heap l1 l2).get? (zp3 c1 c2 s.heap l1 l2).objs.size=some _:=up (zS _ rfl);have r3:(zp5 c1 c2 s.heap l1 l2).get? (zp1 c2 (zp1 c1 s.heap l1) l2).objs.size=some _:=up (up (zS _ rfl));have r2:(zp5 c1 c2 s.heap l1 l2).get? (zp1 c1 s.heap l1).objs.size=some _:=up (up (up (zS _ rfl)));have r1:(zp5 c1 c2 s.heap l1 l2).get? s.heap.objs.size=some _:=up (up (up (up (zS _ rfl))));rw[n2,n3,n4] at r5;rw[n1,n2] at r3;rw[n3] at r4;rw[n1] at r2;show _/\_;rw[n4];exact⟨⟨_,r5,rfl⟩,q _ r5 r3 r4 (a3V r1) (a3V r2) fun c o e=>up (up (up (up (up e))))⟩
end
theorem a02 {xs:List V}{us:List Value}{i:Nat}(r:Vals xs us)(e:xs[i]? =none):us.toArray[i]? =none:=by
 have:=r.length
 rw[xB] at e;rw[List.getElem?_toArray,xB];walk_at "o"
def ItzT (c1 c2:Bool) (K:PySem.W.Frag) (l1 l2:Addr):It:=
 ⟨fun i H=>∃xs ys x y,SqK c1 K H l1 xs/\SqK c2 K H l2 ys/\xs[i]? =some x/\ys[i]? =some y,
  fun i H v H'=>∃T x y,v= .ref T/\H T=none/\H'=upd H T (.tup [x,y])/\(∀xs,SqK c1 K H l1 xs->xs[i]? =some x)/\∀ys,SqK c2 K H l2 ys->ys[i]? =some y,
  fun i H=>∃xs ys,SqK c1 K H l1 xs/\SqK c2 K H l2 ys/\(xs[i]? =none\/ys[i]? =none)⟩
def zipTt (c1 c2:Bool) (z TI TO i1 i2 l1 l2:Addr) (i:Nat) (h:Heap):Prop:=IsZip h z TI TO .none/\IsPair h TI (.ref i1) (.ref i2)/\(∃a b,IsPair h TO a b)/\SIt c1 h i1 l1 i/\SIt c2 h i2 l2 i
theorem a8J {P:Program}{w:World}{K:PySem.W.Frag}{es:List Expr}{kt:Nat}{pt:Pos}{c1 c2:Bool}{z TI TO i1 i2 l1 l2:Addr}(D:ZipApart z TI TO i1 i2 l1 l2):
  Turn P w K (.Tuple es kt pt) (ItzT c1 c2 K l1 l2) [z,TI,TO,i1,i2] z (zipTt c1 c2 z TI TO i1 i2 l1 l2) where
 mem:=by simp
 obj:=fun i h st b hb=>by
  obtain⟨hz,hTI,⟨a,b',hTO⟩,s1,s2⟩:=st;obtain⟨o1,e1,d1⟩:=F6 s1;obtain⟨o2,e2,d2⟩:=F6 s2;simp only[zX,jE,jX] at hb;rcases hb with rfl|rfl|rfl|rfl|rfl
  ·exact⟨_,hz,fun v z=>nomatch z⟩
  ·exact⟨_,hTI,fun v z=>nomatch z⟩
  ·exact⟨_,hTO,fun v z=>nomatch z⟩
  ·exact⟨_,e1,d1⟩
  ·exact⟨_,e2,d2⟩
 keep:=fun i h h' st k=>by
  obtain⟨hz,hTI,⟨a,b',hTO⟩,h1,h2⟩:=st;exact⟨k z (by simp) _ hz,k TI (by simp) _ hTI,⟨a,b',k TO (by simp) _ hTO⟩,B4 h1 fun o e=>k i1 (by simp) o e,B4 h2 fun o e=>k i2 (by simp) o e⟩
 item:=by
  intro X hP hw hK hc i pins s σ H E I hf st hg;subst hP hw hK;obtain⟨xs,ys,x,y,q1,q2,ex,ey⟩:=hg;obtain⟨its1,r1,p1⟩:=sqk I q1;obtain⟨its2,r2,p2⟩:=sqk I q2;obtain⟨u,hu,ru⟩:=r1.get ex;obtain⟨v,hv,rv⟩:=r2.get ey;obtain⟨hz,hTI,⟨a,b,hTO⟩,h1,h2⟩:=st;have l1:∀{c o},s.heap.get? c=some o->c≠s.heap.objs.size:=fun e=>zT (zW e);refine a6b D hz hTI hTO h1 h2 p1 p2 (x:=u) (y:=v) (by simpa using hu) (by simpa using hv) fun h' a1 a2 a3 a4 a5 a6 hk=>⟨_,rfl,?_⟩
  refine wpAny_letOwnedTupleGo_zip a1 fun h2' b1 b2=>?_;have ez:z<s.heap.objs.size:=zW hz;have nT:s.heap.objs.size≠z:=Nat.ne_of_gt ez;have kp:∀c o,c∉[z,TI,TO,i1,i2]->s.heap.get? c=some o->h2'.get? c=some o:=fun c o hc e=>by
   simp only[zX,jE,jX,not_or] at hc;exact(b2.2 c hc.1).trans (hk c o hc.1 hc.2.2.1 hc.2.2.2.1 hc.2.2.2.2 e)
  have fr:H s.heap.objs.size=none:=I.hok.fresh (zE _);have tr:∀c w,H c=some w->c∉[z,TI,TO,i1,i2]:=fun c w e hc=>by rw[(hf c hc).1] at e;cases e
  have st':zipTt c1 c2 z TI TO i1 i2 _ _ (i+1) h2':=⟨b1,(b2.2 _ D.TIz).trans (hk _ _ D.TIz D.TITO D.TIi1 D.TIi2 hTI),⟨_,_,(b2.2 _ D.TOz).trans a2⟩,B4 a3 fun o e=>(b2.2 _ D.i1z).trans e,B4 a4 fun o e=>(b2.2 _ D.i2z).trans e⟩;have five:∀c∈[z,TI,TO,i1,i2],∃o,h2'.get? c=some o:=fun c hc=>by
   obtain⟨q1,q2,⟨_,_,q3⟩,s4,s5⟩:=st';obtain⟨_,q4,_⟩:=F6 s4;obtain⟨_,q5,_⟩:=F6 s5;simp only[zX,jE,jX] at hc;rcases hc with rfl|rfl|rfl|rfl|rfl
   ·exact⟨_,q1⟩
   ·exact⟨_,q2⟩
   ·exact⟨_,q3⟩
   ·exact⟨_,q4⟩
   ·exact⟨_,q5⟩
  have hb5:h2'.get? s.heap.objs.size=some {cls:=.type "tuple",data:=.seq #[u,v]}:=(b2.2 _ nT).trans a5
  have un:Un (frs X.stack) [z,TI,TO,i1,i2] H (upd H s.heap.objs.size (.tup [x,y])) s.heap h2':=⟨fun c o e n hfs hx=>kp c o hx e,fun c o e n hfs hx=>⟨o.slots,kp c o hx e⟩,fun c o e n hx=>by rw[g8 (l1 e)];exact n,fun c o e hx=>⟨o,kp c o hx e⟩,
   fun c ws e=>by rw[g8 (m4 e fr)];exact e,fun c o w e=>by rw[g8 (m4 e fr)];exact e,fun c ps e=>⟨#[],by rw[g8 (m4 e fr),e];simp⟩⟩
  have hok:HOk X.prog X.w (upd H s.heap.objs.size (.tup [x,y])) h2':=fun c w e=>by
   by_cases hc:c=s.heap.objs.size
   ·subst hc;rw[p9] at e;cases e;exact⟨by show 2<=sizeLine;rw[jM];decide,[u,v],.cons ru (.cons rv .nil),⟨_,hb5,rfl,⟨_,rfl⟩,rfl⟩⟩
   ·rw[g8 hc] at e
    refine(I.hok c w e).stay (fun c' o hc' e'=>kp c' o (by
     rcases hc' with rfl|hc'
     ·exact tr _ _ e
     ·exact tr _ _ hc') e') (fun c' q=>by rw[g8 (m4 q fr)];exact q) fun c' ws q=>by rw[g8 (m4 q fr)];exact q
  have I1:Inv X pins σ (upd H s.heap.objs.size (.tup [x,y])) {s with heap:=h2'}:=I.call' (s':={s with heap:=h2'}) (ch:=[z,TI,TO,i1,i2]) rfl un hok I.bare fun c hc=>⟨(hf c hc).2.2.2.1,(hf c hc).2.1,(hf c hc).2.2.2.2.1,(hf c hc).2.2.2.2.2⟩
  exact⟨.ref s.heap.objs.size,_,I1,rfl,⟨_,x,y,rfl,fr,rfl,fun ws hw=>by rw[a4j I hw q1];exact ex,fun ws hw=>by rw[a4j I hw q2];exact ey⟩,st',fun c hc=>by
   obtain⟨o,e⟩:=five c hc
   have:c≠s.heap.objs.size:=fun z=>by
    subst z
    have:=(hf _ hc)
    obtain⟨q1,q2,⟨_,_,q3⟩,s4,s5⟩:=(⟨hz,hTI,⟨a,b,hTO⟩,h1,h2⟩:zipTt c1 c2 z TI TO i1 i2 _ _ i s.heap);obtain⟨_,q4,_⟩:=F6 s4;obtain⟨_,q5,_⟩:=F6 s5;simp only[zX,jE,jX] at hc;rcases hc with rfl|rfl|rfl|rfl|rfl
    ·exact l1 q1 rfl
    ·exact l1 q2 rfl
    ·exact l1 q3 rfl
    ·exact l1 q4 rfl
    ·exact l1 q5 rfl
   rw[g8 this];exact(hf c hc).1⟩
 done:=by
  intro X hP hw hK hc i pins s σ H E I hf st hg;subst hP hw hK;obtain⟨xs,ys,q1,q2,hend⟩:=hg;obtain⟨its1,r1,p1⟩:=sqk I q1;obtain⟨its2,r2,p2⟩:=sqk I q2;obtain⟨hz,hTI,⟨a,b,hTO⟩,h1,h2⟩:=st;refine a8m (I.ok.hd hc) D hz hTI hTO h1 h2 p1 p2 (hend.imp (a02 r1) (a02 r2)) fun h' hk=>⟨rfl,?_⟩;have kp:∀c o,c∉[z,TO,i1,i2]->s.heap.get? c=some o->h'.get? c=some o:=fun c o hc e=>by
   simp only[zX,jE,jX,not_or] at hc;exact hk c o hc.1 hc.2.1 hc.2.2.1 hc.2.2.2 e
  have sub:∀c∈[z,TO,i1,i2],c∈[z,TI,TO,i1,i2]:=fun c hc=>by simp at hc ⊢;rcases hc with h|h|h|h<;>simp[h]
  have un:Un (frs X.stack) [z,TO,i1,i2] H H s.heap h':=⟨fun c o e n hfs hx=>kp c o hx e,fun c o e n hfs hx=>⟨o.slots,kp c o hx e⟩,fun c o e n hx=>n,fun c o e hx=>⟨o,kp c o hx e⟩,fun c ws e=>e,fun c o w e=>e,fun c ps e=>⟨#[],by rw[e];simp⟩⟩
  have tr:∀c w,H c=some w->c∉[z,TO,i1,i2]:=fun c w e hc=>by rw[(hf c (sub c hc)).1] at e;cases e
  have hok:HOk X.prog X.w H h':=fun c w e=>(I.hok c w e).stay (fun c' o hc' e'=>kp c' o (by
   rcases hc' with rfl|hc'
   ·exact tr _ _ e
   ·exact tr _ _ hc') e') (fun _ q=>q) fun _ _ q=>q
  exact I.call' (s':={s with heap:=h'}) (ch:=[z,TO,i1,i2]) rfl un hok I.bare fun c hc=>⟨(hf c (sub c hc)).2.2.2.1,(hf c (sub c hc)).2.1,(hf c (sub c hc)).2.2.2.2.1,(hf c (sub c hc)).2.2.2.2.2⟩
 self:=fun _ _ _ _ _ st h=>wpAny_pyIter_zip st.1 h
section
variable {prog:Program}{w:World}{A:Around}{E:Value->Shared->Prop}{s:Shared}{k:Bool}
theorem a5S {en ci l:Addr}{i:Nat}{its:Array Value}{x old:Value}{Q:Value->Shared->Prop}(hE:IsEnum s.heap en ci i old)(hC:SIt k s.heap ci l i)(hL:SSq k s.heap l its)(hx:its[i]? =some x)(ne:en≠ci)
  (q:∀h',IsEnumOut h' en ci ((i:Int)+1) x s.heap.objs.size->SIt k h' ci l (i+1)->h'.get? s.heap.objs.size=some {cls:=.type "tuple",data:=.seq #[.int i s.toks,x]}->h'.objs.size=s.heap.objs.size+1->
   (∀b o,b≠en->b≠ci->s.heap.get? b=some o->h'.get? b=some o)->Q (.ref s.heap.objs.size) {s with heap:=h',toks:=s.toks+1}):
  wpAny (model prog w) A (Builtin.«enumerate.__next__» ⟨[.ref en],[]⟩) (fun fin s'=>∃v,fin= .done (.ret v)/\Q v s') E s:=by
 obtain⟨h0,g,d,tk,os⟩:=s;refine zA (m:=field (.ref en) 2) (qP hE rfl (x:=.ref ci) rfl (zA (Q6 hC hL hx fun h1 c1 s1=>?_)));have s1:Heap.SameBut ci h0 h1:=s1;have e1:IsEnum h1 en ci i old:=(s1.2 en ne).trans hE;refine zA (m:=field (.ref en) 3) (qP e1 rfl (x:=rawInt i) rfl (zA (m:=field (.ref en) 4) (qP e1 rfl (x:=.none) rfl (zA (m:=mkInt i) (wpAny_mkInt ?_)))));refine zA (m:=setField (.ref en) 3 (rawInt ((i:Int)+1))) (jB e1 (by simp) fun h2 e2 s2=>?_)
 have s2:Heap.SameBut en h1 h2:=s2;have e2:IsEnum h2 en ci ((i:Int)+1) old:=e2;refine zA (m:=setField (.ref en) 4 .none) (jB e2 (by simp) fun h3 e3 s3=>?_)
 have s3:Heap.SameBut en h2 h3:=s3;have e3:IsEnum h3 en ci ((i:Int)+1) old:=e3;refine zA (m:=newTuple [.int i tk,x]) (wpAny_newTuple ?_);have e4:IsEnum (h3.push {cls:=.type "tuple",data:=.seq #[.int i tk,x]}) en ci ((i:Int)+1) old:=zD _ e3;have z3:h3.objs.size=h0.objs.size:=by rw[s3.1,s2.1,s1.1]
 have lt:en<h0.objs.size:=zW hE;generalize g4:h3.push {cls:=.type "tuple",data:=.seq #[.int i tk,x]}=h4 at e4;have t4:h4.get? h0.objs.size=some {cls:=.type "tuple",data:=.seq #[.int i tk,x]}:=by rw[<-g4,<-z3];exact zS _ rfl
 have z4:h4.objs.size=h0.objs.size+1:=by rw[<-g4,yC,z3]
 have k4:∀b o,b≠en->b≠ci->h0.get? b=some o->h4.get? b=some o:=fun b o n1 n2 e=>by rw[<-g4];exact zD _ (s3.extBut b o n1 (s2.extBut b o n1 (s1.extBut b o n2 e)))
 have c4:SIt k h4 ci l (i+1):=B4 c1 fun o e=>by rw[<-g4];exact zD _ (s3.extBut _ o ne.symm (s2.extBut _ o ne.symm e))
 rw[z3];refine zA (m:=Builtin.SmallTypes.ownedTupleIsFree (.ref en)) ?_;unfold Builtin.SmallTypes.ownedTupleIsFree;refine zA (qP e4 rfl (x:=.none) rfl (zB ?_));simp only[jC];refine zA (jT (zA (qP e4 rfl (x:=old) rfl (zA (jB e4 (by simp) fun h5 e5 s5=>?_)))))
 have s5:Heap.SameBut en h4 h5:=s5;have e5:IsEnum h5 en ci ((i:Int)+1) x:=e5;refine zA (m:=Builtin.SmallTypes.ownedTupleHandOut (.ref en) (.ref h0.objs.size)) ?_;unfold Builtin.SmallTypes.ownedTupleHandOut;refine zA (jB e5 (by simp) fun h6 e6 s6=>?_)
 have s6:Heap.SameBut en h5 h6:=s6;have e6:IsEnumOut h6 en ci ((i:Int)+1) x h0.objs.size:=e6;refine jB e6 (by simp) fun h7 e7 s7=>?_
 have s7:Heap.SameBut en h6 h7:=s7;have up:∀b o,b≠en->h4.get? b=some o->h7.get? b=some o:=fun b o n e=>s7.extBut b o n (s6.extBut b o n (s5.extBut b o n e));exact zA (wpAny_letGo (zB ⟨_,rfl,q h7 e7 (B4 c4 fun o e=>up _ o ne.symm e) (up _ _ (Nat.ne_of_gt lt) t4) (by rw[s7.1,s6.1,s5.1,z4]) fun b o n1 n2 e=>up b o n1 (k4 b o n1 n2 e)⟩))
theorem a5O {en ci l:Addr}{i:Nat}{its:Array Value}{x old:Value}{Q:Option Value->Shared->Prop}(hE:IsEnum s.heap en ci i old)(hC:SIt k s.heap ci l i)(hL:SSq k s.heap l its)(hx:its[i]? =some x)(ne:en≠ci)
  (q:∀h',IsEnumOut h' en ci ((i:Int)+1) x s.heap.objs.size->SIt k h' ci l (i+1)->h'.get? s.heap.objs.size=some {cls:=.type "tuple",data:=.seq #[.int i s.toks,x]}->h'.objs.size=s.heap.objs.size+1->
   (∀b o,b≠en->b≠ci->s.heap.get? b=some o->h'.get? b=some o)->Q (some (.ref s.heap.objs.size)) {s with heap:=h',toks:=s.toks+1}):wpAny (model prog w) A (pyNext (.ref en)) Q E s:=by
 have T:s.TypeIs (.ref en) "enumerate":=⟨_,hE,rfl⟩;unfold pyNext;exact zA (wpAny_attempt (qE (name:=Str.ofString "__next__") T yX (qO yX T F.entry_enumerate_next (a5S hE hC hL hx ne fun h' a b c d kp=>zB (q h' a b c d kp)) (F.args_enumerate_next_1 _))))
theorem a75 {en ci l:Addr}{i:Nat}{its:Array Value}{old:Value}{Q:Option Value->Shared->Prop}(hh:A.handled=none)(hE:IsEnum s.heap en ci i old)(hC:SIt k s.heap ci l i)(hL:SSq k s.heap l its)(hx:its[i]? =none)
  (q:∀h',Heap.ExtBut ci s.heap h'->Q none {s with heap:=h'}):wpAny (model prog w) A (pyNext (.ref en)) Q E s:=by
 have T:s.TypeIs (.ref en) "enumerate":=⟨_,hE,rfl⟩;unfold pyNext;refine zA (wpAny_attempt (qE (name:=Str.ofString "__next__") T yX (qO yX T F.entry_enumerate_next ?_ (F.args_enumerate_next_1 _))));refine zA (m:=field (.ref en) 2) (qP hE rfl (x:=.ref ci) rfl (zA (a1p hh hC hL hx fun h' x kp ⟨o,eo,co⟩=>?_)));exact zA (wpAny_isInstance (T:="StopIteration") (b:=true) ⟨o,eo,co⟩ isSubtype_stop (zB (q _ kp)))
theorem a8L (k:Bool)(l:Addr)(its:Array Value):Meets (Builtin.«enumerate.__new__» ⟨[.type "enumerate",.ref l],[]⟩) (fun _ R s=>SSq k s.heap l its/\
   R (.ok (.ret (.ref (zp1 k s.heap l).objs.size))) {s with heap:=(zp1 k s.heap l).push {cls:=.type "enumerate",data:=.fields #[.none,.bool false,.ref s.heap.objs.size,rawInt 0,.none,.none]}}):=
 .of_wp fun prog w A R s h=>by
  obtain⟨h0,g,d,tk,os⟩:=s;obtain⟨hl,h⟩:=h;have hsub:=sub_enumerate;have q1:SSq k (Shared.heap ⟨h0,g,d,tk,os⟩) l its:=hl
  wp_walk using iterS q1
  refine wpAny_stack_any fun st=>zB ?_
  split
  ·rename_i c _ _ _ _ _;cases(c==Value.type "enumerate")<;>(wp_walk using iterS q1;exact⟨_,rfl,h⟩)
  ·wp_walk using iterS q1
   exact⟨_,rfl,h⟩
theorem a58 {l:Addr}{its:Array Value}{Q:Value->Shared->Prop}(hL:SSq k s.heap l its)
  (q:∀h',IsEnum h' (s.heap.objs.size+1) s.heap.objs.size 0 .none->SIt k h' s.heap.objs.size l 0->(∀b o,s.heap.get? b=some o->h'.get? b=some o)->Q (.ref (s.heap.objs.size+1)) {s with heap:=h'}):
  wpAny (model prog w) A (call (.type "enumerate") [.ref l]) Q E s:=by
 refine callType_new F.called_enumerate (by decide) (F.typeCall_enumerate_1 _) (F.newCall_enumerate_1 _) (fun obj=>F.args_object_init_2 obj _) F.entry_enumerate_new (a8L k l its) ⟨hL,?_⟩
 have n1:(zp1 k s.heap l).objs.size=s.heap.objs.size+1:=yC ..;have r2:=zS (zp1 k s.heap l) (o:={cls:=.type "enumerate",data:=.fields #[.none,.bool false,.ref s.heap.objs.size,rawInt 0,.none,.none]}) rfl;show _/\_;rw[n1] at r2 ⊢;exact⟨⟨_,r2,rfl⟩,q _ r2 (a3V (zD _ (zS _ rfl))) fun b o x=>zD _ (zD _ x)⟩
end
def Ite (k:Bool) (K:PySem.W.Frag) (l:Addr):It:=
 ⟨fun i H=>∃xs x,SqK k K H l xs/\xs[i]? =some x,
  fun i H v H'=>∃T x,v= .ref T/\H T=none/\H'=upd H T (.tup [.int (i:Int),x])/\∀xs,SqK k K H l xs->xs[i]? =some x,
  fun i H=>∃xs,SqK k K H l xs/\xs[i]? =none⟩
def enumT (k:Bool) (en ci l:Addr) (i:Nat) (h:Heap):Prop:=(∃old,IsEnum h en ci (i:Int) old)/\SIt k h ci l i
theorem a7Y {P:Program}{w:World}{K:PySem.W.Frag}{es:List Expr}{kt:Nat}{pt:Pos}{k:Bool}{en ci l:Addr}(ne:en≠ci):
  Turn P w K (.Tuple es kt pt) (Ite k K l) [en,ci] en (enumT k en ci l) where
 mem:=by simp
 obj:=fun i h st b hb=>by
  obtain⟨⟨old,hE⟩,hC⟩:=st;simp only[zX,jE,jX] at hb;rcases hb with rfl|rfl
  ·exact⟨_,hE,fun v z=>nomatch z⟩
  ·exact F6 hC
 keep:=fun i h h' st kp=>by
  obtain⟨⟨old,hE⟩,hC⟩:=st;exact⟨⟨old,kp en (by simp) _ hE⟩,B4 hC fun o e=>kp ci (by simp) o e⟩
 item:=by
  intro X hP hw hK hc i pins s σ H E I hf st hg;subst hP hw hK;obtain⟨xs,x,q1,ex⟩:=hg;obtain⟨its,r1,p1⟩:=sqk I q1;obtain⟨u,hu,ru⟩:=r1.get ex;obtain⟨⟨old,hE⟩,hC⟩:=st;obtain⟨oc,hoc,_⟩:=F6 hC;have l1:∀{c o},s.heap.get? c=some o->c≠s.heap.objs.size:=fun e=>zT (zW e);refine a5O hE hC p1 (x:=u) (by simpa using hu) ne fun h' a1 a2 a3 a4 hk=>⟨_,rfl,?_⟩
  refine wpAny_letOwnedTupleGo_enum a1 fun h2' b1 b2=>?_;have nT:s.heap.objs.size≠en:=(l1 hE).symm;have kp:∀c o,c∉[en,ci]->s.heap.get? c=some o->h2'.get? c=some o:=fun c o hc e=>by
   simp only[zX,jE,jX,not_or] at hc;exact(b2.2 c hc.1).trans (hk c o hc.1 hc.2 e)
  have fr:H s.heap.objs.size=none:=I.hok.fresh (zE _);have tr:∀c w,H c=some w->c∉[en,ci]:=fun c w e hc=>by rw[(hf c hc).1] at e;cases e
  have st':enumT k en ci l (i+1) h2':=⟨⟨_,b1⟩,B4 a2 fun o e=>(b2.2 _ ne.symm).trans e⟩;have two:∀c∈[en,ci],∃o,h2'.get? c=some o:=fun c hc=>by
   simp only[zX,jE,jX] at hc;rcases hc with rfl|rfl
   ·exact⟨_,b1⟩
   ·obtain⟨o,e,_⟩:=F6 st'.2;exact⟨o,e⟩
  have hb3:h2'.get? s.heap.objs.size=some {cls:=.type "tuple",data:=.seq #[.int i s.toks,u]}:=(b2.2 _ nT).trans a3
  have un:Un (frs X.stack) [en,ci] H (upd H s.heap.objs.size (.tup [.int (i:Int),x])) s.heap h2':=⟨fun c o e n hfs hx=>kp c o hx e,fun c o e n hfs hx=>⟨o.slots,kp c o hx e⟩,fun c o e n hx=>by rw[g8 (l1 e)];exact n,fun c o e hx=>⟨o,kp c o hx e⟩,
   fun c ws e=>by rw[g8 (m4 e fr)];exact e,fun c o w e=>by rw[g8 (m4 e fr)];exact e,fun c ps e=>⟨#[],by rw[g8 (m4 e fr),e];simp⟩⟩
  have hok:HOk X.prog X.w (upd H s.heap.objs.size (.tup [.int (i:Int),x])) h2':=fun c w e=>by
   by_cases hc:c=s.heap.objs.size
   ·subst hc;rw[p9] at e;cases e;exact⟨by show 2<=sizeLine;rw[jM];decide,[.int i s.toks,u],.cons ⟨_,rfl⟩ (.cons ru .nil),⟨_,hb3,rfl,⟨_,rfl⟩,rfl⟩⟩
   ·rw[g8 hc] at e
    refine(I.hok c w e).stay (fun c' o hc' e'=>kp c' o (by
     rcases hc' with rfl|hc'
     ·exact tr _ _ e
     ·exact tr _ _ hc') e') (fun c' q=>by rw[g8 (m4 q fr)];exact q) fun c' ws q=>by rw[g8 (m4 q fr)];exact q
  have I1:Inv X pins σ (upd H s.heap.objs.size (.tup [.int (i:Int),x])) {s with heap:=h2',toks:=s.toks+1}:=I.call' (s':={s with heap:=h2',toks:=s.toks+1}) (ch:=[en,ci]) rfl un hok I.bare fun c hc=>⟨(hf c hc).2.2.2.1,(hf c hc).2.1,(hf c hc).2.2.2.2.1,(hf c hc).2.2.2.2.2⟩
  exact⟨.ref s.heap.objs.size,_,I1,rfl,⟨_,x,rfl,fr,rfl,fun ws hw=>by rw[a4j I hw q1];exact ex⟩,st',fun c hc=>by
   have:c≠s.heap.objs.size:=fun z=>by
    subst z;simp only[zX,jE,jX] at hc;rcases hc with z|z
    ·exact l1 hE z.symm
    ·exact l1 hoc z.symm
   rw[g8 this];exact(hf c hc).1⟩
 done:=by
  intro X hP hw hK hc i pins s σ H E I hf st hg;subst hP hw hK;obtain⟨xs,q1,hend⟩:=hg;obtain⟨its,r1,p1⟩:=sqk I q1;obtain⟨⟨old,hE⟩,hC⟩:=st;refine a75 (I.ok.hd hc) hE hC p1 (a02 r1 hend) fun h' hk=>⟨rfl,?_⟩;have kp:∀c o,c∉[ci]->s.heap.get? c=some o->h'.get? c=some o:=fun c o hc e=>hk c o (by simpa using hc) e
  have sub:∀c∈[ci],c∈[en,ci]:=fun c hc=>by simp at hc ⊢;simp[hc]
  have un:Un (frs X.stack) [ci] H H s.heap h':=⟨fun c o e n hfs hx=>kp c o hx e,fun c o e n hfs hx=>⟨o.slots,kp c o hx e⟩,fun c o e n hx=>n,fun c o e hx=>⟨o,kp c o hx e⟩,fun c ws e=>e,fun c o w e=>e,fun c ps e=>⟨#[],by rw[e];simp⟩⟩
  have tr:∀c w,H c=some w->c∉[ci]:=fun c w e hc=>by rw[(hf c (sub c hc)).1] at e;cases e
  have hok:HOk X.prog X.w H h':=fun c w e=>(I.hok c w e).stay (fun c' o hc' e'=>kp c' o (by
   rcases hc' with rfl|hc'
   ·exact tr _ _ e
   ·exact tr _ _ hc') e') (fun _ q=>q) fun _ _ q=>q
  exact I.call' (s':={s with heap:=h'}) (ch:=[ci]) rfl un hok I.bare fun c hc=>⟨(hf c (sub c hc)).2.2.2.1,(hf c (sub c hc)).2.1,(hf c (sub c hc)).2.2.2.2.1,(hf c (sub c hc)).2.2.2.2.2⟩
 self:=fun _ _ _ _ _ st h=>wpAny_pyIter_enum st.1.choose_spec h
def kd:D->Bool
 | .lst _=>true
 | _=>false
theorem a01 {K:PySem.W.Frag}{A:Av}{H:Hp}{d:D}{v:V}{xs:List D}(e:items d=some xs)(h:Den K A H d v):∃a vs,v= .ref a/\SqK (kd d) K H a vs/\DenL K A H xs vs:=by
 cases d with
 | tup zs=>cases e;rw[Den] at h;exact h
 | lst zs=>cases e;obtain⟨a,vs,e,hq,l⟩:=F2 h;exact⟨a,vs,e,hq,l⟩
 | _=>cases e
section
variable {X:Cx}{a b:Expr}{p pos:Pos}{fa:FA}{es:List Expr}{kt:Nat}{pt:Pos}
def iZip (K:PySem.W.Frag) (ta:TA):TI:=fun σ H R=>ta σ H fun vs H1=>∃c1 c2 l1 l2,vs=[.ref l1,.ref l2]/\(∃xs,SqK c1 K H1 l1 xs)/\(∃ys,SqK c2 K H1 l2 ys)/\R (ItzT c1 c2 K l1 l2) H1
theorem b4y {ta:TA}(hg:Gl X "zip")(hm:X.mg "zip"=none)(ha:PA X [a,b] ta)(hs:starEach [a,b] X.env=(false,eval a X.env)::starEach [b] X.env:=by rfl)(hpl:(backTo pos (starEach [b] X.env)).any (·.1)=false:=by rfl)(hbt:bootBuiltins "zip"=some (.type "zip"):=by rfl):
  PI X (.Tuple es kt pt) (.Call (.Name "zip" p) [a,b] [] pos) (iZip X.K ta):=by
 intro pins s σ H R I h;refine Call_ (L4 I hg hm hbt (qU (thn (ha pos pins s σ H _ I h) fun us s1 ⟨vs,H1,I1,r1,q1⟩=>?_) hs hpl) (by decide) (by decide))
 obtain⟨c1,c2,l1,l2,rfl,⟨xs,h1⟩,⟨ys,h2⟩,q⟩:=q1;obtain⟨u1,u2,rfl,ru1,ru2⟩:=vals2 r1;cases ru1;cases ru2;obtain⟨its1,_,p1⟩:=sqk I1 h1;obtain⟨its2,_,p2⟩:=sqk I1 h2;refine a8t p1 p2 fun h' d1 d2 d3 d4 d5 d7=>?_;refine wpAny_pyIter_zip d1 ?_;refine⟨_,[s1.heap.objs.size+4,s1.heap.objs.size+2,s1.heap.objs.size+3,s1.heap.objs.size,s1.heap.objs.size+1],_,_,H1,rfl,I1.kept (t':=s1.toks) fun c o e0=>d7 c o e0,a8J (zipApart_new (a9E p1) (a9E p2)),⟨d1,d2,⟨_,_,d3⟩,d4,d5⟩,fun c hc=>?_,q⟩;have le:s1.heap.objs.size<=c:=by simp only[zX,jE,jX] at hc;rcases hc with h|h|h|h|h<;>(rw[h];first|exact Nat.le_add_right _ _|exact zE _)
 exact I1.fpOk le (I1.hok.fresh le)
def iEnum (K:PySem.W.Frag) (ta:TA):TI:=fun σ H R=>ta σ H fun vs H1=>∃c1 l1,vs=[.ref l1]/\(∃xs,SqK c1 K H1 l1 xs)/\R (Ite c1 K l1) H1
theorem b2g {ta:TA}(hg:Gl X "enumerate")(hm:X.mg "enumerate"=none)(ha:PA X [a] ta)(hs:starEach [a] X.env=[(false,eval a X.env)]:=by rfl)(hbt:bootBuiltins "enumerate"=some (.type "enumerate"):=by rfl):
  PI X (.Tuple es kt pt) (.Call (.Name "enumerate" p) [a] [] pos) (iEnum X.K ta):=by
 intro pins s σ H R I h;refine Call_ (L4 I hg hm hbt (qU (thn (ha pos pins s σ H _ I h) fun us s1 ⟨vs,H1,I1,r1,q1⟩=>?_) hs rfl) (by decide) (by decide))
 obtain⟨c1,l1,rfl,⟨xs,h1⟩,q⟩:=q1;obtain⟨u1,rfl,ru1⟩:=vals1 r1;cases ru1;obtain⟨its1,_,p1⟩:=sqk I1 h1;refine a58 p1 fun h' d1 d2 d7=>?_;refine wpAny_pyIter_enum d1 ?_;refine⟨_,[s1.heap.objs.size+1,s1.heap.objs.size],_,_,H1,rfl,I1.kept (t':=s1.toks) fun c o e0=>d7 c o e0,a7Y (Nat.succ_ne_self _),⟨⟨_,d1⟩,d2⟩,fun c hc=>?_,q⟩;have le:s1.heap.objs.size<=c:=by simp only[zX,jE,jX] at hc;rcases hc with h|h<;>(rw[h];first|exact Nat.le_add_right _ _|exact zE _)
 exact I1.fpOk le (I1.hok.fresh le)
def zipD (xs ys:List D):List D:=List.zipWith (fun x y=>.tup [x,y]) xs ys
def enumD (xs:List D):List D:=xs.mapIdx fun(i:Nat) x=>.tup [.int i,x]
def fiZip (fa:FA):FI:=fun ρ=>(fa ρ).bind fun p=>(takeAll p.2 p.1).bind fun q=>match q.1 with
 | [x,y]=>(items x).bind fun xs=>(items y).map fun ys=>(zipD xs ys,q.2)
 | _=>none
def fiEnum (fa:FA):FI:=fun ρ=>(fa ρ).bind fun p=>(takeAll p.2 p.1).bind fun q=>match q.1 with
 | [x]=>(items x).map fun xs=>(enumD xs,q.2)
 | _=>none
theorem b4C (hm:X.mg "zip"=none)(ha:QA X [a,b] fa)(hg:Gl X "zip":=by rfl)(hs:starEach [a,b] X.env=(false,eval a X.env)::starEach [b] X.env:=by rfl)(hpl:(backTo pos (starEach [b] X.env)).any (·.1)=false:=by rfl)(hbt:bootBuiltins "zip"=some (.type "zip"):=by rfl):
  QI X (.Tuple es kt pt) (.Call (.Name "zip" p) [a,b] [] pos) (fiZip fa):=⟨PI.weak (b4y hg hm ha.to hs hpl hbt) fun σ H R h0=>tIe h0 fun P O L ρ xs ρ' r e q=>by
 unfold fiZip at e;obtain⟨⟨ws,ρ1⟩,e1,e⟩:=obs e;dsimp only at e;obtain⟨⟨ds,ρ2⟩,e2,e⟩:=obs e;dsimp only at e;split at e
 ·rename_i x y;cases e3:items x with
  | none=>rw[e3] at e;cases e
  | some xs'=>
   cases e4:items y with
   | none=>rw[e3,e4] at e;cases e
   | some ys'=>
    rw[e3,e4] at e;cases e;refine⟨P,O,L,ρ,ws,ρ1,r,e1,fun vs H1 r1 l1=>?_⟩;obtain⟨r2,l2,_⟩:=n8 r1 e2 l1;obtain⟨v,u,rfl,hv,hu⟩:=denL2 l2;obtain⟨a1,vs1,rfl,s1,m1⟩:=a01 e3 hv;obtain⟨a2,vs2,rfl,s2,m2⟩:=a01 e4 hu;have r3:=(r2.more (p:=(y,.ref a2)) hu).more (p:=(x,.ref a1)) hv;refine⟨kd x,kd y,a1,a2,rfl,⟨vs1,s1⟩,⟨vs2,s2⟩,q _ H1 _ r3 (fun p hp=>zI _ (zI _ hp)) fun Y O' L' ρ' σ' Hh hY rr=>?_⟩;have z1:=rr.prot _ zJ;have z2:=rr.prot _ (zI _ zJ);rw[hY] at z1 z2;obtain⟨b1,ws1,ev1,q1,n1⟩:=a01 e3 z1;obtain⟨b2,ws2,ev2,q2,n2⟩:=a01 e4 z2;cases ev1;cases ev2;refine⟨fun i z ez=>?_,ws1,ws2,q1,q2,?_⟩
    ·unfold zipD at ez;rw[List.getElem?_zipWith] at ez;cases g1:xs'[i]? with
     | none=>rw[g1] at ez;cases ez
     | some x0=>
      cases g2:ys'[i]? with
      | none=>rw[g1,g2] at ez;cases ez
      | some y0=>
       rw[g1,g2] at ez;cases ez;obtain⟨v1,k1,t1⟩:=z6 n1 g1;obtain⟨v2,k2,t2⟩:=z6 n2 g2;refine⟨⟨ws1,ws2,v1,v2,q1,q2,k1,k2⟩,fun w H' ⟨T,x1,y1,ew,hT,eH,f1,f2⟩=>?_⟩;subst ew eH;have g3:=f1 ws1 q1;have g4:=f2 ws2 q2;rw[k1] at g3;cases g3;rw[k2] at g4;cases g4;have sm:=j7 hT (.tup [v1,v2]);refine⟨sm,?_⟩;rw[Den];exact⟨T,[v1,v2],rfl,.inl (.inl p9),j8 (V8 sm t1) (j8 (V8 sm t2) k5)⟩
    ·have k1:=c6 n1;have k2:=c6 n2;unfold zipD;rw[List.length_zipWith,xB,xB];walk_at "o"
 ·cases e⟩
theorem a7w (hm:X.mg "enumerate"=none)(ha:QA X [a] fa)(hg:Gl X "enumerate":=by rfl)(hs:starEach [a] X.env=[(false,eval a X.env)]:=by rfl)(hbt:bootBuiltins "enumerate"=some (.type "enumerate"):=by rfl):
  QI X (.Tuple es kt pt) (.Call (.Name "enumerate" p) [a] [] pos) (fiEnum fa):=⟨PI.weak (b2g hg hm ha.to hs hbt) fun σ H R h0=>tIe h0 fun P O L ρ xs ρ' r e q=>by
 unfold fiEnum at e;obtain⟨⟨ws,ρ1⟩,e1,e⟩:=obs e;dsimp only at e;obtain⟨⟨ds,ρ2⟩,e2,e⟩:=obs e;dsimp only at e;split at e
 ·rename_i x;cases e3:items x with
  | none=>rw[e3] at e;cases e
  | some xs'=>
   rw[e3] at e;cases e;refine⟨P,O,L,ρ,ws,ρ1,r,e1,fun vs H1 r1 l1=>?_⟩;obtain⟨r2,l2,_⟩:=n8 r1 e2 l1;obtain⟨v,rfl,hv⟩:=denL1 l2;obtain⟨a1,vs1,rfl,s1,m1⟩:=a01 e3 hv;have r3:=r2.more (p:=(x,.ref a1)) hv;refine⟨kd x,a1,rfl,⟨vs1,s1⟩,q _ H1 _ r3 (fun p hp=>zI _ hp) fun Y O' L' ρ' σ' Hh hY rr=>?_⟩;have z1:=rr.head;rw[hY] at z1;obtain⟨b1,ws1,ev1,q1,n1⟩:=a01 e3 z1;cases ev1;refine⟨fun i z ez=>?_,ws1,q1,?_⟩
   ·unfold enumD at ez;rw[List.getElem?_mapIdx] at ez;obtain⟨x0,g1,ez⟩:=oms ez;cases ez;obtain⟨v1,k1,t1⟩:=z6 n1 g1;refine⟨⟨ws1,v1,q1,k1⟩,fun w H' ⟨T,x1,ew,hT,eH,f1⟩=>?_⟩;subst ew eH;have g3:=f1 ws1 q1;rw[k1] at g3;cases g3;have sm:=j7 hT (.tup [.int (i:Int),v1]);refine⟨sm,?_⟩;rw[Den];exact⟨T,[.int (i:Int),v1],rfl,.inl (.inl p9),j8 (u5.mpr rfl) (j8 (V8 sm t1) k5)⟩
   ·have k1:=c6 n1;unfold enumD;rw[length_mapIdx,xB];walk_at "o"
 ·cases e⟩
end
section
variable {X:Cx}{a b e e' o:Expr}{pos p p2 p3:Pos}{f h:FX}{t u:FT}{fa:FA}
theorem a6i {acc:Array Value}{n:Nat}(h:ItemsOf (fun i v=>∃t,v= .int (0+(i:Int)*1) t) acc n):Vals (((List.range n).map fun(i:Nat)=>(i:Int)).map V.int) acc.toList:=by
 have key:∀(l:List Value) (k:Nat),(∀i v,l[i]? =some v->∃t,v=Value.int ((k+i:Nat):Int) t)->Vals (((List.range' k l.length).map fun i=>((i:Nat):Int)).map V.int) l:=by
  intro l
  induction l with
  | nil=>intro k _;exact .nil
  | cons v l ih=>
   intro k hv;rw[qJ,List.range'_succ,zH,zH];refine .cons ?_ (ih (k+1) fun i u e=>?_)
   ·obtain⟨t,e⟩:=hv 0 v rfl;exact⟨t,e⟩
   ·obtain⟨t,e'⟩:=hv (i+1) u (by simpa using e)
    exact⟨t,by rw[e'];congr 2;walk_at "o"⟩
 have z:=key acc.toList 0 fun i v e=>by
  obtain⟨t,ev⟩:=h.2 i v (by rw[<-xA];exact e)
  exact⟨t,by rw[ev];congr 1;walk_at "o"⟩
 rw[List.range_eq_range'];rw[jY,h.1] at z;exact z
def fListR (fa:FA):FX:=fun ρ=>(fa ρ).bind fun p=>match p.1 with
 | [.v (.int n)]=>if 0<=n/\n<=1000 then some (.o (.lst (rngD 0 n.toNat)),p.2) else none
 | _=>none
theorem a8q (n:Nat):rngD 0 n=((List.range n).map fun(i:Nat)=>(i:Int)).map D.int:=by
 unfold rngD;rw[qF];apply jL;intro i _;simp
theorem a2f (hc:X.calm=true)(hmL:X.mg "list"=none)(hmR:X.mg "range"=none)(ha:QA X [a] fa)(hbL:bootBuiltins "list"=some (.type "list"):=by rfl)(hgL:Gl X "list":=by rfl)(hgR:Gl X "range":=by rfl)
  (h1:starEach [.Call (.Name "range" p2) [a] [] p3] X.env=[(false,eval (.Call (.Name "range" p2) [a] [] p3) X.env)]:=by rfl) (h2:starEach [a] X.env=[(false,eval a X.env)]:=by rfl):
  QX X (.Call (.Name "list" p) [.Call (.Name "range" p2) [a] [] p3] [] pos) (fListR fa):=⟨fun pins s σ H Q I h0=>tXe h0 fun P O L ρ w ρ' rp e q=>by
 unfold fListR at e;obtain⟨⟨ws,ρ1⟩,e1,e⟩:=obs e;dsimp only at e;split at e
 ·rename_i n;split at e
  ·rename_i hn;cases e;refine yM (L4 I hgL hmL hbL ?_ (by decide) (by decide))
   refine qU ?_ h1 rfl;rw[h1];refine Calls.spliced_cons ?_;refine yM (L4 I hgR hmR boot_range ?_ (by decide) (by decide))
   refine qU (zF (ha.to p3 pins s σ H (fun vs H1=>Rep X P O L ρ' σ H1/\vs=[.int n]) I ⟨P,O,L,ρ,_,_,rp,e1,fun vs H1 r1 l1=>⟨r1,?_⟩⟩) (fun us s1 ⟨vs,H1,I1,r1,rp1,l1⟩=>?_) fun _ _ z=>z) h2 rfl
   ·obtain⟨v,rs,rfl,h1,l1⟩:=l1;have l1:rs=[]:=l1;have h1:Den X.K (AvO O ρ' σ) H1 (.int n) v:=h1;subst l1;rw[u5.mp h1]
   subst l1;obtain⟨u,rfl,t,rfl⟩:=vals1 r1;refine call_range_1 (Calls.spliced_nil ?_);have I2:Inv X pins σ H1 {s1 with heap:=s1.heap.push {cls:=.type "range",data:=.fields #[.int 0 s1.toks,.int n t,.int 1 (s1.toks+1)]},toks:=s1.toks+1+1}:=I1.kept fun b o e=>zD _ e
   refine call_list_range (n:=n.toNat) (I.ok.hd hc) (IsRange.new ..) (small_one (by walk_at "o") (by walk_at "o") (by walk_at "o") (by walk_at "o")) (by rw[rangeSize_one];split<;>walk_at "o") (by walk_at "o") fun h' tk acc ep kp hl it=>?_
   have hv:=a6i it;refine⟨.ref _,_,I2.laid (t':=tk) (o:=.lst (((List.range n.toNat).map fun(i:Nat)=>(i:Int)).map V.int)) kp (zE _) ?_,rfl,q _ H1 _ rp1 (j7 (I2.hok.fresh (zE _)) _) (by rw[a8q];exact v7 (I2.hok.fresh (zE _)) (F9 _))⟩
   refine⟨?_,acc.toList,ep,hv,by rw[Array.toArray_toList];exact hl⟩
   rw[zC,zC,length_range,jM];walk_at "o"
  ·cases e
 ·cases e⟩
def fCnt (f:FX) (fa:FA):FX:=fun ρ=>(f ρ).bind fun p=>(dr p.2 p.1.fz).bind fun d=>match d with
 | .tup _=>(fa p.2).bind fun q=>(dr q.2 p.1.fz).bind fun y=>match y,q.1 with
  | .tup xs,[.v (.int i)]=>(intsOf xs).map fun ns=>(.v (.int (ns.count i:Nat)),q.2)
  | _,_=>none
 | _=>none
def fDNew:FX:=fun ρ=>some (.o (.dK [] []),ρ)
def fDNewT:FX:=fun ρ=>some (.o (.dT [] []),ρ)
theorem b0Q:QX X (.Dict [] [] pos) fDNewT:=⟨PE.weak b0M fun σ H Q h0=>tXe h0 fun P O L ρ w ρ' r e q=>by
 cases e
 exact fun p hp=>q _ H _ r (j7 hp _) ⟨p,rfl,hp,[],p9,rfl,k5⟩⟩
end
section
variable {f g:FX}{t:FT}{fa:FA}{ρ ρ1 ρ2:Ev}{w z:W}{ws:List W}{d e x y:D}{xs ys:List D}{i k:Nat}{m n:Int}{b:Bool}
theorem it_t:items (.tup xs)=some xs:=rfl
theorem it_l:items (.lst xs)=some xs:=rfl
def iz2:Option (List W×Ev)->Option (List D×Ev)
 | some p=>(takeAll p.2 p.1).bind fun q=>match q.1 with
  | [x,y]=>(items x).bind fun xs=>(items y).map fun ys=>(zipD xs ys,q.2)
  | _=>none
 | none=>none
def iz3:Option (List D×Ev)->Option (List D×Ev)
 | some q=>match q.1 with
  | [x,y]=>(items x).bind fun xs=>(items y).map fun ys=>(zipD xs ys,q.2)
  | _=>none
 | none=>none
def iz4 (ρ:Ev):Option (List D)->Option (List D)->Option (List D×Ev)
 | some xs,some ys=>some (zipD xs ys,ρ)
 | _,_=>none
theorem r_iz:fiZip fa ρ=iz2 (fa ρ):=by unfold fiZip iz2;cases fa ρ<;>rfl
theorem b3l:iz2 (some (ws,ρ))=iz3 (takeAll ρ ws):=by unfold iz2 iz3;dsimp only;cases takeAll ρ ws<;>rfl
theorem b2S:iz3 (some ([x,y],ρ))=iz4 ρ (items x) (items y):=by unfold iz3 iz4;dsimp only;cases items x<;>cases items y<;>rfl
theorem b2W:iz4 ρ (some xs) (some ys)=some (zipD xs ys,ρ):=rfl
def ie2:Option (List W×Ev)->Option (List D×Ev)
 | some p=>(takeAll p.2 p.1).bind fun q=>match q.1 with
  | [x]=>(items x).map fun xs=>(enumD xs,q.2)
  | _=>none
 | none=>none
def ie3:Option (List D×Ev)->Option (List D×Ev)
 | some q=>match q.1 with
  | [x]=>(items x).map fun xs=>(enumD xs,q.2)
  | _=>none
 | none=>none
theorem r_ie:fiEnum fa ρ=ie2 (fa ρ):=by unfold fiEnum ie2;cases fa ρ<;>rfl
theorem b2q:ie2 (some (ws,ρ))=ie3 (takeAll ρ ws):=by unfold ie2 ie3;dsimp only;cases takeAll ρ ws<;>rfl
theorem r_ie3_t:ie3 (some ([.tup xs],ρ))=some (enumD xs,ρ):=rfl
theorem a6A:ie3 (some ([.lst xs],ρ))=some (enumD xs,ρ):=rfl
def jr1:Option (List W×Ev)->Option (List D×Ev)
 | some p=>match p.1 with
  | [.v (.int n)]=>if -(2^62)<=n/\n<2^62 then some (rngD 0 n.toNat,p.2) else none
  | _=>none
 | none=>none
def jr2:Option (List W×Ev)->Option (List D×Ev)
 | some p=>match p.1 with
  | [.v (.int m),.v (.int n)]=>if(-(2^62)<=m/\m<2^62)/\-(2^62)<=n/\n<2^62 then some (rngD m (n-m).toNat,p.2) else none
  | _=>none
 | none=>none
def lr2:Option (List W×Ev)->Option (W×Ev)
 | some p=>match p.1 with
  | [.v (.int n)]=>if 0<=n/\n<=1000 then some (.o (.lst (rngD 0 n.toNat)),p.2) else none
  | _=>none
 | none=>none
theorem r_r1:fiR1 fa ρ=jr1 (fa ρ):=by unfold fiR1 jr1;cases fa ρ<;>rfl
theorem b2F:jr1 (some ([.v (.int n)],ρ))=if -(2^62)<=n/\n<2^62 then some (rngD 0 n.toNat,ρ) else none:=rfl
theorem r_r2:fiR2 fa ρ=jr2 (fa ρ):=by unfold fiR2 jr2;cases fa ρ<;>rfl
theorem b2C:jr2 (some ([.v (.int m),.v (.int n)],ρ))=if(-(2^62)<=m/\m<2^62)/\-(2^62)<=n/\n<2^62 then some (rngD m (n-m).toNat,ρ) else none:=rfl
theorem r_lr:fListR fa ρ=lr2 (fa ρ):=by unfold fListR lr2;cases fa ρ<;>rfl
theorem b2J:lr2 (some ([.v (.int n)],ρ))=if 0<=n/\n<=1000 then some (.o (.lst (rngD 0 n.toNat)),ρ) else none:=rfl
def cn2 (fa:FA):Option (W×Ev)->Option (W×Ev)
 | some p=>(dr p.2 p.1.fz).bind fun d=>match d with
  | .tup _=>(fa p.2).bind fun q=>(dr q.2 p.1.fz).bind fun y=>match y,q.1 with
   | .tup xs,[.v (.int i)]=>(intsOf xs).map fun ns=>(.v (.int (ns.count i:Nat)),q.2)
   | _,_=>none
  | _=>none
 | none=>none
def cn3 (fa:FA) (w:W) (ρ:Ev):Option D->Option (W×Ev)
 | some (.tup _)=>(fa ρ).bind fun q=>(dr q.2 w.fz).bind fun y=>match y,q.1 with
   | .tup xs,[.v (.int i)]=>(intsOf xs).map fun ns=>(.v (.int (ns.count i:Nat)),q.2)
   | _,_=>none
 | _=>none
def cn4 (w:W):Option (List W×Ev)->Option (W×Ev)
 | some q=>(dr q.2 w.fz).bind fun y=>match y,q.1 with
   | .tup xs,[.v (.int i)]=>(intsOf xs).map fun ns=>(.v (.int (ns.count i:Nat)),q.2)
   | _,_=>none
 | _=>none
def cn5 (ws:List W) (ρ:Ev):Option D->Option (W×Ev)
 | some y=>match y,ws with
   | .tup xs,[.v (.int i)]=>(intsOf xs).map fun ns=>(.v (.int (ns.count i:Nat)),ρ)
   | _,_=>none
 | _=>none
theorem r_cn:fCnt f fa ρ=cn2 fa (f ρ):=by unfold fCnt cn2;cases f ρ<;>rfl
theorem r_cn2:cn2 fa (some (w,ρ))=cn3 fa w ρ (dr ρ w.fz):=by
 unfold cn2 cn3;dsimp only;cases dr ρ w.fz with
 | none=>rfl
 | some d=>cases d<;>rfl
theorem r_cn3:cn3 fa w ρ (some (.tup xs))=cn4 w (fa ρ):=by unfold cn3 cn4;cases fa ρ<;>rfl
theorem r_cn4:cn4 w (some (ws,ρ))=cn5 ws ρ (dr ρ w.fz):=by unfold cn4 cn5;dsimp only;cases dr ρ w.fz<;>rfl
theorem r_dnew:fDNew ρ=some (.o (.dK [] []),ρ):=rfl
def ch2 (o o':D->D->Option W) (g h:FX):Option (W×Ev)->Option (W×Ev)
 | some p=>fChain o o' (fun _=>some p) g h p.2
 | none=>none
def ch3 (o o':D->D->Option W) (w:W) (h:FX):Option (W×Ev)->Option (W×Ev)
 | some q=>(dr q.2 w.fz).bind fun x=>(dr q.2 q.1.fz).bind fun y=>(o x y).bind fun d=>match d with
  | .v (.bl k)=>if k=true then(h q.2).bind fun z=>(dr z.2 q.1.fz).bind fun y=>(dr z.2 z.1.fz).bind fun z'=>(o' y z').map fun w=>(w,z.2) else some (.v (.bl false),q.2)
  | _=>none
 | none=>none
def ch4 (o o':D->D->Option W) (h:FX) (w:W) (ρ:Ev):Option D->Option D->Option (W×Ev)
 | some x,some y=>(o x y).bind fun d=>match d with
  | .v (.bl k)=>if k=true then(h ρ).bind fun z=>(dr z.2 w.fz).bind fun y=>(dr z.2 z.1.fz).bind fun z'=>(o' y z').map fun w=>(w,z.2) else some (.v (.bl false),ρ)
  | _=>none
 | _,_=>none
def ch5 (o':D->D->Option W) (h:FX) (w:W) (ρ:Ev):Option W->Option (W×Ev)
 | some (.v (.bl k))=>if k=true then bin3 o' w (h ρ) else some (.v (.bl false),ρ)
 | _=>none
theorem r_ch {o o':D->D->Option W}{h:FX}:fChain o o' f g h ρ=ch2 o o' g h (f ρ):=by unfold ch2;cases e:f ρ with
 | none=>unfold fChain;rw[e];rfl
 | some p=>unfold fChain;rw[e]
theorem r_ch2 {o o':D->D->Option W}{h:FX}:ch2 o o' g h (some (w,ρ))=ch3 o o' w h (g ρ):=by unfold ch2 ch3 fChain;dsimp only[bind_some];cases g ρ<;>rfl
theorem r_ch3 {o o':D->D->Option W}{h:FX}:ch3 o o' w h (some (z,ρ))=ch4 o o' h z ρ (dr ρ w.fz) (dr ρ z.fz):=by
 unfold ch3 ch4;dsimp only;cases dr ρ w.fz<;>cases dr ρ z.fz<;>rfl
theorem r_ch4 {o o':D->D->Option W}{h:FX}:ch4 o o' h w ρ (some x) (some y)=ch5 o' h w ρ (o x y):=by
 unfold ch4 ch5 bin3;dsimp only;cases o x y with
 | none=>rfl
 | some d=>
  dsimp only[bind_some];cases d with
  | v d=>cases d with
   | bl k=>cases h ρ<;>rfl
   | _=>rfl
  | _=>rfl
theorem r_ch5_t {o':D->D->Option W}{h:FX}:ch5 o' h w ρ (some (.v (.bl true)))=bin3 o' w (h ρ):=rfl
theorem r_ch5_f {o':D->D->Option W}{h:FX}:ch5 o' h w ρ (some (.v (.bl false)))=some (.v (.bl false),ρ):=rfl
def tc2 (k:Nat) (t:FT) (fe:FX):Option Ev->Option Ev
 | some ρ1=>(t ρ1).bind fun p=>if p.1=true then(fe p.2).bind (appTo k) else some p.2
 | none=>none
def tc3 (k:Nat) (fe:FX):Option (Bool×Ev)->Option Ev
 | some p=>if p.1=true then(fe p.2).bind (appTo k) else some p.2
 | none=>none
def tc4 (k:Nat):Option (W×Ev)->Option Ev
 | some p=>appTo k p
 | none=>none
def ap2 (k:Nat):Option (List D×Ev)->Option Ev
 | some q=>match q.1,ownAt q.2 k with
  | [d],some (.lst zs)=>if zs.length<lim then some (setOwn q.2 k (.lst (zs++[d]))) else none
  | _,_=>none
 | none=>none
def ap3 (k:Nat) (d:D) (ρ:Ev):Option D->Option Ev
 | some (.lst zs)=>if zs.length<lim then some (setOwn ρ k (.lst (zs++[d]))) else none
 | _=>none
theorem r_tc {gf:FG}{fe:FX}:turnC k gf t fe d ρ=tc2 k t fe (gf d ρ):=by unfold turnC tc2;cases gf d ρ<;>rfl
theorem r_tc2 {fe:FX}:tc2 k t fe (some ρ)=tc3 k fe (t ρ):=by unfold tc2 tc3;dsimp only;cases t ρ<;>rfl
theorem r_tc3_t {fe:FX}:tc3 k fe (some (true,ρ))=tc4 k (fe ρ):=by unfold tc3 tc4;simp only[jC];cases fe ρ<;>rfl
theorem r_tc3_f {fe:FX}:tc3 k fe (some (false,ρ))=some ρ:=rfl
theorem r_tc4:tc4 k (some (w,ρ))=ap2 k (takeAll ρ [w.fz]):=by
 unfold tc4 appTo ap2;dsimp only;cases takeAll ρ [w.fz]<;>rfl
theorem r_ap2:ap2 k (some ([d],ρ))=ap3 k d ρ (ownAt ρ k):=by
 unfold ap2 ap3;dsimp only;cases ownAt ρ k with
 | none=>rfl
 | some x=>cases x<;>rfl
theorem r_ap3:ap3 k d ρ (some (.lst xs))=if xs.length<lim then some (setOwn ρ k (.lst (xs++[d]))) else none:=rfl
theorem a3u {C:Prop}{b:D->FS}{r:Option R}(e:loopF b xs ρ=r)(I:List D->Ev->Prop)(h0:I [] ρ)(st:∀d x ρ,x∈xs->d.length<xs.length->I d ρ->∃ρ',b x ρ=some (.nx ρ')/\I (d++[x]) ρ')(c:∀ρ',r=some (.nx ρ')->I xs ρ'->C):C:=by
 have key:∀(ys done:List D) (ρ:Ev),(∀y∈ys,y∈xs)->done.length+ys.length=xs.length->I done ρ->∃ρ',loopF b ys ρ=some (.nx ρ')/\I (done++ys) ρ':=by
  intro ys
  induction ys with
  | nil=>intro done ρ _ _ h;exact⟨ρ,rfl,by rw[xD];exact h⟩
  | cons y ys ih=>
   intro done ρ hm hl h;rw[qJ] at hl;obtain⟨ρ1,e1,i1⟩:=st done y ρ (hm y zJ) (by walk_at "o") h
   obtain⟨ρ2,e2,i2⟩:=ih (done++[y]) ρ1 (fun a ha=>hm a (zI _ ha)) (by rw[zM,jK];walk_at "o") i1
   exact⟨ρ2,by rw[loopF,e1];exact e2,by rw[jQ] at i2;exact i2⟩
 obtain⟨ρ',e',i⟩:=key xs [] ρ (fun _ h=>h) (by simp) h0
 exact c ρ' (e.symm.trans e') (by simpa using i)
theorem j5 (ns:List Int):lfL (ns.map D.int)=true:=by
 induction ns with
 | nil=>rfl
 | cons n ns ih=>rw[zH,lfL,ih];rfl
theorem w9 (m:Int)(n:Nat):(rngD m n).length=n:=by unfold rngD;simp
theorem C5 {m:Int}{n:Nat}(h:x∈rngD m n):∃i:Int,x= .int i/\m<=i/\i<m+n:=by
 unfold rngD at h;obtain⟨i,hi,rfl⟩:=zZ.mp h;rw[jS] at hi;exact⟨_,rfl,by walk_at "o",by walk_at "o"⟩
theorem a4b (h:0<n)(h2:n.natAbs<2^64):dOk n:=⟨h,zK h2 (yB (by decide) (by decide))⟩
end
theorem a5o {o:Option D}:freeO (o.map W.v)=true:=by cases o<;>rfl
def isI:D->Bool
 | .int _=>true
 | .bl _=>true
 | _=>false
def isB:D->Bool
 | .bl _=>true
 | _=>false
def isT:D->Bool
 | .tup _=>true
 | _=>false
def whole:D->Bool
 | .int _=>true
 | _=>false
theorem b1n {d:D}(h:isX d=false):oIsi "int" d=some (.v (.bl (isI d))):=by cases d<;>first|rfl|cases h
theorem a4D {d:D}(h:isX d=false):oIsi "bool" d=some (.v (.bl (isB d))):=by cases d<;>first|rfl|cases h
theorem a0A {d:D}(h:isX d=false):oIsi "tuple" d=some (.v (.bl (isT d))):=by cases d<;>first|rfl|cases h
def rise:List Int->Bool
 | a::b::r=>decide (a<b)&&rise (b::r)
 | _=>true
def lt2:D->Bool
 | .tup [.int a,.int b]=>decide (a<b)
 | _=>false
theorem sIx1 (n:Nat):HT.sIx n 0 (some 1)=min 1 n:=by
 unfold HT.sIx;simp
theorem a9b (xs:List D):cutD xs (some 1) none=xs.drop 1:=by
 unfold cutD;rw[sIx1];cases xs with
 | nil=>rfl
 | cons x xs=>
  rw[qJ,show min 1 (xs.length+1)=1 by walk_at "o"]
  simp[HT.sIx]
theorem a1l {r:List Bool->Bool}{xs:List D}{bs:List Bool}(h:boolsOf xs=some bs):gBools r (.lst xs)=some (.v (.bl (r bs))):=by unfold gBools;simp only[h,jF]
theorem a1n (f:D->Bool)(xs:List D):lfL (xs.map fun d=>D.bl (f d))=true:=by
 induction xs with
 | nil=>rfl
 | cons n ns ih=>rw[zH,lfL,ih];rfl
theorem C7 (f:D->Bool)(xs:List D):boolsOf (xs.map fun d=>D.bl (f d))=some (xs.map f):=by
 have:(xs.map fun d=>D.bl (f d))=(xs.map f).map D.bl:=by rw[qF];rfl
 rw[this,a1L]
theorem J0 {α:Type}(f:α->Bool)(xs:List α):(xs.map f).all id=xs.all f:=by rw[List.all_map];rfl
theorem a8Y {ns:List Int}{x:D}(h:x∈ns.map D.int):∃i∈ns,x= .int i:=by
 obtain⟨i,hi,rfl⟩:=zZ.mp h;exact⟨i,hi,rfl⟩
theorem b2d (xs ys:List D):(zipD xs ys).length=min xs.length ys.length:=by unfold zipD;simp
theorem a1j {xs:List D}{i:Int}{d:D}(h:0<=i)(e:xs[i.toNat]? =some d):atI xs i=some d:=by
 have:=z9 (j:=i.toNat) e
 rwa [show((i.toNat:Nat):Int)=i by walk_at "o"] at this
theorem a4p {ns:List Int}{i:Int}(h:0<=i)(l:i<ns.length):atI (ns.map D.int) i=some (.int (ns.getD i.toNat 0)):=by
 refine a1j h ?_;rw[zV,zQ,qB (by walk_at "o")]
 rfl
theorem a46 {xs:List D}{x:D}(h:x∈enumD xs):∃(i:Nat) (h:i<xs.length),x= .tup [.int i,xs[i]]:=by
 unfold enumD at h;obtain⟨i,hi,e⟩:=List.mem_iff_getElem.mp h;rw[List.getElem_mapIdx] at e;exact⟨i,by simpa using hi,e.symm⟩
theorem z8:∀{xs:List D},(∀x∈xs,lf x=true)->lfL xs=true
 | [],_=>rfl
 | x::xs,h=>by rw[lfL,h x zJ,z8 fun y hy=>h y (zI _ hy)];rfl
section
variable {d:D}{ds:List D}{x0:D}{x1:D}{x2:D}{x3:D}{x4:D}{x5:D}{x6:D}{x7:D}{x8:D}{x9:D}{x10:D}{x11:D}{x12:D}
theorem a_3:atI (x0::x1::x2::d::ds) 3=some d:=z9 (j:=3) rfl
theorem a_4:atI (x0::x1::x2::x3::d::ds) 4=some d:=z9 (j:=4) rfl
theorem a_5:atI (x0::x1::x2::x3::x4::d::ds) 5=some d:=z9 (j:=5) rfl
theorem a_6:atI (x0::x1::x2::x3::x4::x5::d::ds) 6=some d:=z9 (j:=6) rfl
theorem a_7:atI (x0::x1::x2::x3::x4::x5::x6::d::ds) 7=some d:=z9 (j:=7) rfl
theorem a_8:atI (x0::x1::x2::x3::x4::x5::x6::x7::d::ds) 8=some d:=z9 (j:=8) rfl
theorem a_9:atI (x0::x1::x2::x3::x4::x5::x6::x7::x8::d::ds) 9=some d:=z9 (j:=9) rfl
theorem a_10:atI (x0::x1::x2::x3::x4::x5::x6::x7::x8::x9::d::ds) 10=some d:=z9 (j:=10) rfl
theorem a_11:atI (x0::x1::x2::x3::x4::x5::x6::x7::x8::x9::x10::d::ds) 11=some d:=z9 (j:=11) rfl
theorem a_12:atI (x0::x1::x2::x3::x4::x5::x6::x7::x8::x9::x10::x11::d::ds) 12=some d:=z9 (j:=12) rfl
theorem a_13:atI (x0::x1::x2::x3::x4::x5::x6::x7::x8::x9::x10::x11::x12::d::ds) 13=some d:=z9 (j:=13) rfl
theorem ix_0 {n:Nat}:ixN (n+1) 0=some 0:=by unfold ixN;rw[if_pos (Int.le_refl _),if_pos (by walk_at "o")];rfl
end
def dkey:D->Option Key
 | .int i=>some (Sum.inl i)
 | .str x=>some (Sum.inr x)
 | _=>none
def dkeys:List D->Option (List Key)
 | []=>some []
 | d::ds=>(dkey d).bind fun k=>(dkeys ds).map fun ks=>k::ks
def tkey:D->Option (List Key)
 | .tup ds=>dkeys ds
 | _=>none
def look {κ:Type} [DecidableEq κ]:List κ->List D->κ->Option D
 | k'::ks,x::xs,k=>if k'=k then some x else look ks xs k
 | _,_,_=>none
def putKs {κ:Type} [DecidableEq κ] (ks:List κ) (k:κ):List κ:=if k∈ks then ks else ks++[k]
def putX {κ α:Type} [DecidableEq κ] (ks:List κ) (xs:List α) (k:κ) (d:α):List α:=if k∈ks then List.zipWith (fun k' x=>if k'=k then d else x) ks xs else xs++[d]
theorem a4O {K:PySem.W.Frag}{A:Av}{H:Hp}{d:D}{k:Key}{v:V}(e:dkey d=some k)(h:DenR K A H d v):v=kV k:=by
 cases d with
 | int i=>cases e;exact l5 h
 | str x=>cases e;exact a2M h
 | _=>cases e
theorem X3 {K:PySem.W.Frag}{A:Av}{H:Hp}:∀{ds:List D} {ks:List Key} {vs:List V},dkeys ds=some ks->DenL K A H ds vs->vs=ks.map kV
 | [],ks,vs,e,l=>by cases e;rw[DenL] at l;rw[l];rfl
 | d::ds,ks,vs,e,l=>by
  rw[DenL] at l;obtain⟨v,r,rfl,h,l⟩:=l;rw[dkeys] at e;cases e1:dkey d with
  | none=>rw[e1] at e;cases e
  | some k=>
   cases e2:dkeys ds with
   | none=>rw[e1,e2] at e;cases e
   | some js=>
    rw[e1,e2] at e;cases e;rw[zH,<-a4O e1 (F2 h),<-X3 e2 l]
theorem b1a {K:PySem.W.Frag}{A:Av}{H:Hp}{d:D}{k:List Key}{v:V}(e:tkey d=some k)(h:DenR K A H d v):∃b,v= .ref b/\SqT K H b (k.map kV):=by
 cases d with
 | tup ds=>
  obtain⟨b,vs,ev,hq,l⟩:=C4 h;rw[X3 e l] at hq;exact⟨b,ev,hq⟩
 | _=>cases e
theorem a13 {κ:Type} [DecidableEq κ] {K:PySem.W.Frag}{A:Av}{H:Hp}:∀{ks:List κ} {xs:List D} {vs:List V} {k:κ} {x:D},DenL K A H xs vs->look ks xs k=some x->∃v,valV (ks.zip vs) k=some v/\Den K A H x v
 | [],_,_,_,_,_,e=>by simp[look] at e
 | _::_,[],_,_,_,_,e=>by simp[look] at e
 | k'::ks,x0::xs,vs,k,x,l,e=>by
  rw[DenL] at l;obtain⟨v,r,rfl,h,l⟩:=l;simp only[look] at e;rw[jZ];split at e
  ·rename_i q;cases e;exact⟨v,a0z (by simpa using q),h⟩
  ·rename_i q;rw[T8 (by simpa using q)]
   exact a13 l e
theorem a04 {κ:Type} [DecidableEq κ] {K:PySem.W.Frag}{A:Av}{H:Hp}:∀{ks:List κ} {xs:List D} {vs:List V} {k:κ},DenL K A H xs vs->ks.length=xs.length->look ks xs k=none->valV (ks.zip vs) k=none
 | [],_,_,_,_,_,_=>by simp[valV]
 | _::_,[],_,_,_,hl,_=>by simp at hl
 | k'::ks,x0::xs,vs,k,l,hl,e=>by
  rw[DenL] at l;obtain⟨v,r,rfl,h,l⟩:=l;simp only[look] at e;rw[jZ];split at e
  ·cases e
  ·rename_i q;rw[T8 (by simpa using q)]
   exact a04 l (by simpa using hl) e
theorem a4V {κ:Type} [DecidableEq κ]:∀{ks:List κ} {xs:List D} {k:κ},ks.length=xs.length->(look ks xs k).isSome=decide (k∈ks)
 | [],_,_,_=>by simp[look]
 | _::_,[],_,hl=>by simp at hl
 | k'::ks,x::xs,k,hl=>by
  rw[look]
  by_cases q:k'=k
  ·rw[if_pos q];simp[q]
  ·have q2:¬k=k':=fun z=>q z.symm;rw[if_neg q,a4V (by simpa using hl)];simp[q2]
theorem a6u {κ:Type} [DecidableEq κ]:∀{ks:List κ} {vs:List V} {k:κ},ks.length=vs.length->((ks.zip vs).any fun kv=>decide (kv.1=k))=decide (k∈ks)
 | [],_,_,_=>by simp
 | _::_,[],_,hl=>by simp at hl
 | k'::ks,v::vs,k,hl=>by
  rw[jZ,any_cons,a6u (by simpa using hl)]
  by_cases q:k'=k
  ·simp[q]
  ·have q2:¬k=k':=fun z=>q z.symm;simp[q,q2]
theorem a6H {κ:Type} [DecidableEq κ] {ks:List κ}{vs:List V}{k:κ}{v:V}(hl:ks.length=vs.length):putK (ks.zip vs) k v=(putKs ks k).zip (putX ks vs k v):=by
 unfold putK putKs putX;rw[a6u hl]
 by_cases q:k∈ks
 ·rw[if_pos (by simpa using q),if_pos q,if_pos q]
  clear q
  induction ks generalizing vs with
  | nil=>simp
  | cons k' ks ih=>
   cases vs with
   | nil=>simp at hl
   | cons w vs=>
    have ih':=ih (vs:=vs) (by simpa using hl)
    rw[jZ,zH,List.zipWith_cons_cons,jZ,ih']
    by_cases q:k'=k
    ·simp[q]
    ·simp[q]
 ·rw[if_neg (by simpa using q),if_neg q,if_neg q,List.zip_append hl]
  rfl
theorem a1D {κ α:Type} [DecidableEq κ] {ks:List κ}{xs:List α}{k:κ}{d:α}(hl:ks.length=xs.length):(putKs ks k).length=(putX ks xs k d).length:=by
 unfold putKs putX
 split
 ·rw[List.length_zipWith,hl];simp
 ·simp[hl]
theorem a5t {κ:Type} [DecidableEq κ] {K:PySem.W.Frag}{A:Av}{H:Hp}{ks:List κ}{xs:List D}{vs:List V}{k:κ}{d:D}{v:V}(l:DenL K A H xs vs)(h:Den K A H d v):DenL K A H (putX ks xs k d) (putX ks vs k v):=by
 unfold putX
 split
 ·rename_i q;clear q
  induction ks generalizing xs vs with
  | nil=>simp;exact k5
  | cons k' ks ih=>
   cases xs with
   | nil=>rw[DenL] at l;subst l;simp;exact k5
   | cons x xs=>
    rw[DenL] at l;obtain⟨u,r,rfl,hx,l⟩:=l;rw[List.zipWith_cons_cons,List.zipWith_cons_cons];refine j8 ?_ (ih l)
    split
    ·exact h
    ·exact hx
 ·exact t5 l (j8 h k5)
section
variable {X:Cx}{a b c e o:Expr}{es:List Expr}{pos p apos:Pos}{f g h:FX}{t u:FT}{fa:FA}{x:Str}
theorem a1X {pins:List (Addr×PySem.Obj)}{σ:L2.St}{H:Hp}{s:Shared}{b:Addr}{ks:List Key}(I:Inv X pins σ H s)(q:SqT X.K H b (ks.map kV)):(tupleKind (mixKind X.prog X.w)).is s.heap ks b:=by
 obtain⟨its,r,⟨o,h1,h2,n,h3⟩,_⟩:=I.tuple q;exact⟨o,its.toArray,n,h1,h2,h3,by simpa using a1x r⟩
def DGe (K:PySem.W.Frag) (H:Hp) (a:Addr) (y:V) (r:Option V):Prop:=
 (∃kvs k,H a=some (.dK kvs)/\y=kV k/\r=valV kvs k)\/∃kvs k b,H a=some (.dT kvs)/\y= .ref b/\SqT K H b (k.map kV)/\r=valV kvs k
def lookG (x y:D):Option (Option D):=match x with
 | .dT ks xs=>(tkey y).map fun k=>look ks xs k
 | .dK ks xs=>(dkey y).map fun k=>look ks xs k
 | _=>none
def LkOk (K:PySem.W.Frag) (A:Av) (H:Hp):Option D->Option V->Prop
 | some d,w=>∃z,w=some z/\Den K A H d z
 | none,w=>w=none
theorem a00 {A:Av}{H:Hp}{x y:D}{r:Option D}{v u:V}(e:lookG x y=some r)(hx:DenR X.K A H x v)(hy:DenR X.K A H y u):∃a w,v= .ref a/\DGe X.K H a u w/\LkOk X.K A H r w:=by
 cases x with
 | dT ks xs=>
  simp only[lookG] at e;cases e1:tkey y with
  | none=>rw[e1] at e;cases e
  | some k=>
   rw[e1] at e;obtain⟨b,rfl,hb⟩:=b1a e1 hy;obtain⟨a,vs,rfl,ha,hl,l⟩:=hx;refine⟨a,_,rfl,.inr ⟨_,k,b,ha,rfl,hb,rfl⟩,?_⟩;cases(show look ks xs k=r from qV e);cases e2:look ks xs k with
   | none=>exact a04 l hl e2
   | some d=>exact a13 l e2
 | dK ks xs=>
  simp only[lookG] at e;cases e1:dkey y with
  | none=>rw[e1] at e;cases e
  | some k=>
   rw[e1] at e;obtain⟨a,vs,rfl,ha,hl,l⟩:=hx;refine⟨a,_,rfl,.inl ⟨_,k,ha,a4O e1 hy,rfl⟩,?_⟩;cases(show look ks xs k=r from qV e);cases e2:look ks xs k with
   | none=>exact a04 l hl e2
   | some d=>exact a13 l e2
 | _=>cases e
def rIxD (K:PySem.W.Frag):R2:=fun x y H Q=>∃a v,x= .ref a/\DGe K H a y (some v)/\Q v H
theorem b1C {k:Nat}(hr:Room k X.A):IxR X (rIxD X.K):=by
 intro value slice pins s σ H x y v u Q I rx ry h hs;obtain⟨a,z,rfl,hg,q⟩:=h;cases rx;rcases hg with ⟨kvs,k,ha,rfl,hv⟩|⟨kvs,k,b,ha,rfl,hq,hv⟩
 ·obtain⟨_,hd,vs,rel,dd⟩:=a7x I.hok ha;obtain⟨w',hw,rw'⟩:=RelO.some_of (v:=z) (o:=valueAt vs k) (by rw[hv];exact rel.val k)
  refine yR (x:=w') dd.typeIs PySem.F.slot_dict_getitem.lookup ?_ hs;exact wpAny_getItem_of (a3G ry) dd.mapOf hw ⟨rfl,z,H,I.tok _,rw',q⟩
 ·cases(show u=Value.ref b from ry);obtain⟨_,hd,xs,rel,dd⟩:=a7K I.hok ha;obtain⟨w',hw,rw'⟩:=RelO.some_of (v:=z) (o:=(atKey xs k).map (·.2)) (by rw[hv];exact rel.val k)
  obtain⟨p,hp,hp2⟩:=Option.map_eq_some_iff.mp hw;refine yR (x:=w') dd.typeIs PySem.F.slot_dict_getitem.lookup ?_ hs;refine wpAny_getItem_heap (yN (a3e hr)) (a1X I hq) dd hp ?_;rw[hp2];exact⟨rfl,z,H,I.tok _,rw',q⟩
def isDi:D->Bool
 | .dT _ _=>true
 | .dK _ _=>true
 | _=>false
def oIxG (x y:D):Option W:=if isDi x=true then(lookG x y).bind fun r=>r.map .v else oIx x y
theorem j0 {k:Nat}(hr:Room k X.A)(ha:QX X a f)(hb:QX X b g)(hs:PlainIx b:=by intro _ _;rfl):QX X (.Subscript a b pos) (fBin oIxG f g):=⟨PE.weak (pe_ix (b4k.or (b1C hr)) ha.to hb.to hs) (a0L (by
 intro A x y w v u H Q hA e hx hy q;unfold oIxG at e;split at e
 ·obtain⟨r,e1,e⟩:=obs e;obtain⟨a,w',rfl,hg,hm⟩:=a00 e1 hx hy;cases r with
  | none=>cases e
  | some d=>
   cases e;obtain⟨z,rfl,dz⟩:=hm;exact .inr ⟨a,z,rfl,hg,q z H (Same.refl H) dz⟩
 ·exact .inl (k_ix A x y w v u H Q hA e hx hy q)))⟩
def rInD (K:PySem.W.Frag) (neg:Bool):R2:=fun y x H Q=>∃a r,x= .ref a/\DGe K H a y r/\Q (.bl (if neg then !r.isSome else r.isSome)) H
theorem b0d {k:Nat}(hr:Room k X.A):OpR X (compareOp .In) (rInD X.K false):=by
 intro pins s σ H y x u v Q I ry rx h;obtain⟨a,r,rfl,hg,q⟩:=h;cases rx;rcases hg with ⟨kvs,k,e,rfl,rfl⟩|⟨kvs,k,b,e,rfl,hq,rfl⟩
 ·obtain⟨_,hd,vs,rel,dd⟩:=a7x I.hok e;refine wpAny_in_of (a3G ry) hd dd.mapOf ?_;rw[<-(rel.val k).isSome_eq];exact⟨.bl _,H,I.tok _,rfl,q⟩
 ·cases(show u=Value.ref b from ry);obtain⟨_,hd,xs,rel,dd⟩:=a7K I.hok e;refine wpAny_in_heap (yN (a3e hr)) (a1X I hq) hd dd ?_;have z:=(rel.val k).isSome_eq;rw[isSome_map] at z;rw[<-z];exact⟨.bl _,H,I.tok _,rfl,q⟩
theorem a8C {k:Nat}(hr:Room k X.A):OpR X (compareOp .NotIn) (rInD X.K true):=by
 intro pins s σ H y x u v Q I ry rx h;obtain⟨a,r,rfl,hg,q⟩:=h;cases rx;rcases hg with ⟨kvs,k,e,rfl,rfl⟩|⟨kvs,k,b,e,rfl,hq,rfl⟩
 ·obtain⟨_,hd,vs,rel,dd⟩:=a7x I.hok e;refine wpAny_notIn_of (a3G ry) hd dd.mapOf ?_;rw[<-(rel.val k).isSome_eq];exact⟨.bl _,H,I.tok _,rfl,q⟩
 ·cases(show u=Value.ref b from ry);obtain⟨_,hd,xs,rel,dd⟩:=a7K I.hok e;refine wpAny_notIn_heap (yN (a3e hr)) (a1X I hq) hd dd ?_;have z:=(rel.val k).isSome_eq;rw[isSome_map] at z;rw[<-z];exact⟨.bl _,H,I.tok _,rfl,q⟩
def intV:Value->Int
 | .int i _=>i
 | _=>0
def readI (h:Heap):Value->Option (List Int)
 | .ref a=>match h.get? a with
  | some o=>match o.data with
   | .seq its _=>some (its.toList.map intV)
   | _=>none
  | none=>none
 | _=>none
theorem a3y:∀{k:List Int} {its:List Value},Vals (k.map V.int) its->its.map intV=k
 | [],_,r=>by cases r;rfl
 | i::k,_,r=>by
  cases r with
  | cons r1 r2=>
   obtain⟨t,rfl⟩:=r1;rw[zH,a3y r2];rfl
theorem O0 {m:Nat}:∀(a b:List Int),deqL (deq m) (a.map D.int) (b.map D.int)=some (decide (a=b))
 | [],[]=>rfl
 | [],_::_=>rfl
 | _::_,[]=>rfl
 | x::a,y::b=>by
  have ih:=O0 (m:=m) a b;have e:deq m (.int x) (.int y)=some (x==y):=by cases m<;>rfl
  simp only[zH,deqL,e,ih,bind_some,jF];congr 1
  by_cases h:x=y
  ·simp[h]
  ·simp[h]
def tupI (k:List Int):D:=.tup (k.map D.int)
theorem a9n {m:Nat}(a b:List Int):deq (m+1) (tupI a) (tupI b)=some (decide (a=b)):=O0 a b
def tupsOf:List D->Option (List (List Int))
 | []=>some []
 | .tup ds::xs=>(intsOf ds).bind fun k=>(tupsOf xs).map fun ks=>k::ks
 | _=>none
theorem a3w:∀{ds:List D} {ks:List (List Int)},tupsOf ds=some ks->ds=ks.map tupI
 | [],ks,e=>by cases e;rfl
 | .tup d::ds,ks,e=>by
  rw[tupsOf] at e;cases e1:intsOf d with
  | none=>rw[e1] at e;cases e
  | some k=>
   cases e2:tupsOf ds with
   | none=>rw[e1,e2] at e;cases e
   | some js=>rw[e1,e2] at e;cases e;rw[zH,<-a3w e2,u7 e1];rfl
 | .non::ds,_,e=>by cases e
 | .bl _::ds,_,e=>by cases e
 | .int _::ds,_,e=>by cases e
 | .str _::ds,_,e=>by cases e
 | .lst _::ds,_,e=>by cases e
 | .dT _ _::ds,_,e=>by cases e
 | .dK _ _::ds,_,e=>by cases e
 | .exn _::ds,_,e=>by cases e
theorem G6:∀ks:List (List Int),tupsOf (ks.map tupI)=some ks
 | []=>rfl
 | k::ks=>by rw[zH,show tupI k= .tup (k.map D.int) from rfl,tupsOf,m5,G6 ks];rfl
def rInT (K:PySem.W.Frag) (neg:Bool):R2:=fun x y H Q=>∃(A:Av) (k:List Int) (ks:List (List Int)) (p:Addr) (vs:List V),DenR K A H (tupI k) x/\y= .ref p/\(SqL K H p vs\/SqT K H p vs)/\DenL K A H (ks.map tupI) vs/\Q (.bl (if neg then !decide (k∈ks) else decide (k∈ks))) H
theorem V7 {k0:Nat}{A:Av}(hr:Room k0 X.A){pins:List (Addr×PySem.Obj)}{σ:L2.St}{H:Hp}{s:Shared}(I:Inv X pins σ H s){k:List Int}{x:V}{v:Value}(hx:DenR X.K A H (tupI k) x)(rx:RelV x v):∀{ks:List (List Int)} {vs:List V} {us:List Value},DenL X.K A H (ks.map tupI) vs->Vals vs us->
  (∀y∈us,SeqAt.EqAt X.A.in1 s y v (decide (readI s.heap y=some k)))/\(us.any fun y=>decide (readI s.heap y=some k))=decide (k∈ks)
 | [],vs,us,l,r=>by
  rw[xW,DenL] at l;subst l;cases r;exact⟨fun y hy=>by simp at hy,by simp⟩
 | k'::ks,vs,us,l,r=>by
  rw[zH,DenL] at l;obtain⟨z,rs,rfl,hz,l⟩:=l;cases r with
  | cons r1 r2=>
   rename_i u us;obtain⟨i1,i2⟩:=V7 hr I hx rx l r2;have hz':=hz;rw[show tupI k'= .tup (k'.map D.int) from rfl,Den] at hz';obtain⟨c,ws,rfl,hq,lw⟩:=hz';rw[q9 lw] at hq;cases(show u=Value.ref c from r1);obtain⟨its,r3,⟨o,ho,_,n,hd⟩,_⟩:=I.tuple hq;have er:readI s.heap (.ref c)=some k':=by
    unfold readI;dsimp only;rw[ho];dsimp only;rw[hd];dsimp only;rw[a3y r3]
   have eq:SeqAt.EqAt X.A.in1 s (.ref c) v (decide (readI s.heap (.ref c)=some k)):=by
    rw[er];have z:=(a4g I 20 X.A.in1 (by have:=hr.units;show X.A.units+1+20+1<_;walk_at "o") (tupI k') (tupI k) (.ref c) x (.ref c) v _ (a9n k' k) (F2 hz) hx rfl rx).1
    have e2:decide (some k'=some k)=decide (k'=k):=by simp
    rw[e2];exact z
   refine⟨fun y hy=>?_,?_⟩
   ·rcases zX.mp hy with rfl|hy
    ·exact eq
    ·exact i1 y hy
   ·rw[any_cons,i2,er]
    by_cases h:k'=k
    ·simp[h]
    ·have h':¬k=k':=fun z=>h z.symm;simp[h,h']
theorem a98 {k0:Nat}(hr:Room k0 X.A):OpR X (compareOp .In) (rInT X.K false):=by
 intro pins s σ H x y v u Q I rx ry ⟨A,k,ks,p,vs,hx,ey,hq,l,q⟩;subst ey;cases ry;rcases hq with hq|hq
 ·obtain⟨its,r,pl,hz⟩:=I.list hq;obtain⟨c1,c2⟩:=V7 hr I hx rx l r;refine SeqAt.in_listAt (fun y=>decide (readI s.heap y=some k)) pl.isList (fun w hw=>c1 w (by simpa using hw)) ⟨.bl _,H,I,rfl,?_⟩
  rw[show(its.toArray.any fun y=>decide (readI s.heap y=some k))=(its.any fun y=>decide (readI s.heap y=some k)) by simp,c2]
  exact q
 ·obtain⟨its,r,pl,hz⟩:=I.tuple hq;obtain⟨c1,c2⟩:=V7 hr I hx rx l r;refine SeqAt.in_tupleAt (fun y=>decide (readI s.heap y=some k)) pl (fun w hw=>c1 w (by simpa using hw)) ⟨.bl _,H,I,rfl,?_⟩
  rw[show(its.toArray.any fun y=>decide (readI s.heap y=some k))=(its.any fun y=>decide (readI s.heap y=some k)) by simp,c2]
  exact q
theorem a8P {k0:Nat}(hr:Room k0 X.A):OpR X (compareOp .NotIn) (rInT X.K true):=by
 intro pins s σ H x y v u Q I rx ry ⟨A,k,ks,p,vs,hx,ey,hq,l,q⟩;subst ey;cases ry;rcases hq with hq|hq
 ·obtain⟨its,r,pl,hz⟩:=I.list hq;obtain⟨c1,c2⟩:=V7 hr I hx rx l r;refine SeqAt.notIn_listAt (fun y=>decide (readI s.heap y=some k)) pl.isList (fun w hw=>c1 w (by simpa using hw)) ⟨.bl _,H,I,rfl,?_⟩
  rw[show(its.toArray.any fun y=>decide (readI s.heap y=some k))=(its.any fun y=>decide (readI s.heap y=some k)) by simp,c2]
  exact q
 ·obtain⟨its,r,pl,hz⟩:=I.tuple hq;obtain⟨c1,c2⟩:=V7 hr I hx rx l r;refine SeqAt.notIn_tupleAt (fun y=>decide (readI s.heap y=some k)) pl (fun w hw=>c1 w (by simpa using hw)) ⟨.bl _,H,I,rfl,?_⟩
  rw[show(its.toArray.any fun y=>decide (readI s.heap y=some k))=(its.any fun y=>decide (readI s.heap y=some k)) by simp,c2]
  exact q
def nb (neg k:Bool):W:=.v (.bl (if neg then !k else k))
def oInG (neg:Bool) (x y:D):Option W:=if isDi y=true then(lookG y x).map fun r=>nb neg r.isSome else match x with
 | .int i=>(items y).bind fun ys=>(intsOf ys).map fun ns=>nb neg (decide (i∈ns))
 | .tup ds=>(intsOf ds).bind fun k=>(items y).bind fun ys=>(tupsOf ys).map fun ks=>nb neg (decide (k∈ks))
 | _=>none
theorem kInG {neg:Bool}:Pr2 X (oInG neg) (fun x y H Q=>rIn X.K neg x y H Q\/rInD X.K neg x y H Q\/rInT X.K neg x y H Q):=by
 intro A x y w v u H Q hA e hx hy q;unfold oInG at e;split at e
 ·obtain⟨r,e1,e⟩:=oms e;cases e;obtain⟨a,w',rfl,hg,hm⟩:=a00 e1 hy hx;have es:w'.isSome=r.isSome:=by
   cases r with
   | none=>rw[show w'=none from hm];rfl
   | some d=>obtain⟨z,rfl,_⟩:=hm;rfl
  refine .inr (.inl ⟨a,w',rfl,hg,?_⟩);rw[es];exact q _ H (Same.refl H) C6
 ·split at e
  ·rename_i i;refine .inl (kInI A (.int i) y w v u H Q hA ?_ hx hy q);unfold oInI;exact e
  ·rename_i ds;cases e1:intsOf ds with
   | none=>rw[e1] at e;cases e
   | some k=>
    rw[e1] at e;simp only[bind_some] at e;cases e2:items y with
    | none=>rw[e2] at e;cases e
    | some ys=>
     rw[e2] at e;simp only[bind_some] at e;obtain⟨ks,e3,e⟩:=oms e;cases e;obtain⟨p,vs,rfl,hq,l⟩:=G4 e2 hy;rw[a3w e3] at l;rw[u7 e1] at hx;exact .inr (.inr ⟨A,k,ks,p,vs,hx,rfl,hq,l,q _ H (Same.refl H) C6⟩)
  ·cases e
theorem a81 {k:Nat}(hr:Room k X.A)(ha:QX X a f)(hb:QX X b g)(hm:behindInMarks .In b=false:=by rfl):QX X (.Compare a [.In] [b] pos) (fBin (oInG false) f g):=a37 (a3j.or ((b0d hr).or (a98 hr))) kInG ha hb hm
theorem b4s {k:Nat}(hr:Room k X.A)(ha:QX X a f)(hb:QX X b g)(hm:behindInMarks .In b=false:=by rfl):QT X (.Compare a [.In] [b] pos) (fTest (fBin (oInG false) f g)):=Q7 (a3j.or ((b0d hr).or (a98 hr))) kInG ha hb hm
theorem D7 {k:Nat}(hr:Room k X.A)(ha:QX X a f)(hb:QX X b g)(hm:behindInMarks .NotIn b=false:=by rfl):QT X (.Compare a [.NotIn] [b] pos) (fTest (fBin (oInG true) f g)):=Q7 (a4w.or ((a8C hr).or (a8P hr))) kInG ha hb hm
def rGet (K:PySem.W.Frag):V->List V->Hp->VK->Prop:=fun x vs H Q=>∃a y r w,x= .ref a/\vs=[y,w]/\DGe K H a y r/\Q (r.getD w) H
theorem b2k {k0:Nat}(hr:Room k0 X.A):MtR X "dict.get" (rGet X.K):=by
 intro pins s σ H x xs v us Q I rx rv ⟨a,y,r,w,ex,evs,hg,q⟩;subst ex evs;cases rx;obtain⟨u,w',rfl,ru,rw'⟩:=vals2 rv;rcases hg with ⟨kvs,k,e,rfl,rfl⟩|⟨kvs,k,b,e,rfl,hq,rfl⟩
 ·obtain⟨z,hd,ys,rel,dd⟩:=a7x I.hok e;refine call_meetsIn PySem.F.slot_dict_get dd.typeIs PySem.F.entry_dict_get (PySem.F.args_dict_get_3 _ _ _) (meets_dict_get_default (mixKind X.prog X.w) a (a3G ru) hd w') ⟨_,dd.mapOf,?_⟩;exact⟨_,H,I.tok _,(rel.val k).getD rw',q⟩
 ·cases(show u=Value.ref b from ru);obtain⟨z,hd,ys,rel,dd⟩:=a7K I.hok e;refine call_meetsIn PySem.F.slot_dict_get dd.typeIs PySem.F.entry_dict_get (PySem.F.args_dict_get_3 _ _ _) (meetsH_dict_get_default (tupleKind (mixKind X.prog X.w)) a b hd w') ⟨yN (a3e hr),k,ys,a1X I hq,dd,?_⟩;exact⟨_,H,I.tok _,(rel.val k).getD rw',q⟩
def fGet (f:FX) (fa:FA):FX:=fun ρ=>(f ρ).bind fun p=>(dr p.2 p.1.fz).bind fun d=>if isDi d=true then(fa p.2).bind fun q=>(takeAll q.2 q.1).bind fun z=>(dr z.2 p.1.fz).bind fun x=>match z.1 with
  | [y,e]=>(lookG x y).map fun r=>(.v (r.getD e),z.2)
  | _=>none
 else none
theorem b0T {k0:Nat}(hr:Room k0 X.A)(ha:QX X o f)(hb:QA X (e::es) fa)(hbase:attributeBase o "get" X.env (eval o X.env)=eval o X.env:=by rfl)
  (hfew:((backTo pos (starEach (e::es) X.env)).all (fun x=>!x.1)&&(backToKw pos (keywordEach [] X.env)).all (fun x=>x.1.isSome)&&decide ((e::es).length+([]:List Keyword).length+(if([]:List Keyword).isEmpty then 0 else 1)<30))=true:=by rfl)
  (hline:(apos.endLine==pos.line)=true:=by rfl) (hs:starEach (e::es) X.env=(false,eval e X.env)::starEach es X.env:=by rfl) (hpl:(backTo pos (starEach es X.env)).any (·.1)=false:=by rfl):
  QX X (.Call (.Attribute o "get" apos) (e::es) [] pos) (fGet f fa):=
 ⟨PE.weak (a9g PySem.F.plainAttrs_dict PySem.F.slot_dict_get PySem.F.type_dict_get (b2k hr) ha.to hb.to hbase hfew hline hs hpl) fun σ H Q h0=>tXe h0 fun P O L ρ w ρ' rp e q=>by
 unfold fGet at e;obtain⟨⟨w1,ρ1⟩,e1,e⟩:=obs e;dsimp only at e;cases e2:dr ρ1 w1.fz with
 | none=>rw[e2] at e;cases e
 | some d=>
  rw[e2] at e;simp only[bind_some] at e;split at e
  ·rename_i hdi;obtain⟨⟨ws,ρ2⟩,e3,e⟩:=obs e;dsimp only at e;obtain⟨⟨ds,ρ3⟩,e5,e⟩:=obs e;dsimp only at e;cases e4:dr ρ3 w1.fz with
   | none=>rw[e4] at e;cases e
   | some x=>
    rw[e4] at e;simp only[bind_some] at e;split at e
    ·rename_i y e0;obtain⟨r,e6,e⟩:=oms e;cases e;refine⟨P,O,L,ρ,w1,ρ1,rp,e1,fun v H1 H1' r1 s1 d1=>?_⟩;have r1g:=r1.grow s1;have dd:=E8 r1g e2 (d1.fz r1 s1);obtain⟨P',r1',k1⟩:=hold r1g (d1.fz r1 s1);refine⟨?_,P',O,L,ρ1,_,_,r1',e3,fun vs H2 r2 l2=>?_⟩
     ·cases d with
      | dT ks xs=>obtain⟨a,us,rfl,ha,_⟩:=dd;exact .inr (.inr (.inl ⟨rfl,.inr ⟨_,ha⟩⟩))
      | dK ks xs=>obtain⟨a,us,rfl,ha,_⟩:=dd;exact .inr (.inr (.inl ⟨rfl,.inl ⟨_,ha⟩⟩))
      | _=>cases hdi
     ·obtain⟨r4,l4,_⟩:=n8 r2 e5 l2;obtain⟨r3,d3⟩:=k1 _ H2 r4;have dx:=E8 r3 e4 d3;obtain⟨v1,v2,rfl,g1,g2⟩:=denL2 l4;obtain⟨a,w',rfl,hg,hm⟩:=a00 e6 dx (F2 g1);refine⟨a,v1,w',v2,rfl,rfl,hg,q _ H2 H2 r3 (Same.refl _) ?_⟩;cases r with
      | none=>rw[show w'=none from hm];exact g2
      | some d=>obtain⟨z,rfl,dz⟩:=hm;exact dz
    ·cases e
  ·cases e⟩
end
open PySem PySem.W PyProof.Rows
def TWp {α:Type} (n:Nat) (lt:Nat->Nat->Bool):KasT α->(α->Prop)->Prop
 | .ret a,Q=>Q a
 | .ask i j k,Q=>i<n/\j<n/\TWp n lt (k (lt i j)) Q
theorem O6 {α β:Type}{n:Nat}{lt:Nat->Nat->Bool}{g:α->KasT β}{Q:β->Prop}:∀(t:KasT α),TWp n lt t (fun a=>TWp n lt (g a) Q)->TWp n lt (t.bind g) Q
 | .ret _,h=>h
 | .ask i j k,⟨h1,h2,h⟩=>⟨h1,h2,O6 (k (lt i j)) h⟩
theorem a7n {α:Type}{n:Nat}{lt:Nat->Nat->Bool}{cmp:Nat->Nat->(Bool->Shared->Prop)->Shared->Prop}{s:Shared}{Q:α->Shared->Prop}
  (hc:∀i j (C:Bool->Shared->Prop),i<n->j<n->C (lt i j) s->cmp i j C s):∀(t:KasT α),TWp n lt t (fun a=>Q a s)->t.kasWp cmp Q s
 | .ret a,h=>h
 | .ask i j k,⟨h1,h2,h⟩=>hc i j _ h1 h2 (a7n hc (k (lt i j)) h)
section
variable {O:KeyOrd}{f:Nat->O.α}{n:Nat}
def Ky (f:Nat->O.α) (p:Array Nat) (i:Nat):O.α:=f (p.getD i 0)
def SoTo (f:Nat->O.α) (p:Array Nat) (k:Nat):Prop:=∀i j,i<=j->j<k->O.kle (Ky f p i) (Ky f p j)
def NoIn (f:Nat->O.α) (p:Array Nat) (k:Nat):Prop:=∀i j,i<=j->j<k->O.kle (Ky f p j) (Ky f p i)
structure PB (n:Nat) (p:Array Nat):Prop where
 perm:p.Perm (List.toArray (List.range n))
 pos:0<n
theorem PB.size {p:Array Nat}(h:PB n p):p.size=n:=by rw[h.perm.size_eq];simp
theorem PB.lt {p:Array Nat}(h:PB n p)(i:Nat):p.getD i 0<n:=by
 by_cases q:i<p.size
 ·have e:p.getD i 0=p[i]:=by simp[Array.getD,q]
  rw[e];have m:p[i]∈p.toList:=by simp
  have:=(Array.perm_iff_toList_perm.mp h.perm).mem_iff.mp m
  simpa using this
 ·have e:p.getD i 0=0:=by simp[Array.getD,q]
  rw[e];exact h.pos
theorem R9 {p q:Array Nat}{i j:Nat}(h:p[i]? =q[j]?):Ky f p i=Ky f q j:=by
 unfold Ky;congr 1;rw[Array.getD_eq_getD_getElem?,Array.getD_eq_getD_getElem?,h]
theorem a3g {xs:Array Nat}{src d:Nat}(hs:src<xs.size)(hd:d<=src)(k:Nat):
  Ky f (bubble xs src d) k=if k=src-d then Ky f xs src else if src-d<k/\k<=src then Ky f xs (k-1) else Ky f xs k:=by
 have e:=getElem?_bubble hs d hd k
 by_cases h1:k=src-d
 ·rw[if_pos h1] at e ⊢;exact R9 e
 ·rw[if_neg h1] at e ⊢
  by_cases h2:src-d<k/\k<=src
  ·rw[if_pos h2] at e ⊢;exact R9 e
  ·rw[if_neg h2] at e ⊢;exact R9 e
theorem a1m {xs:Array Nat}{i j:Nat}(hj:j<=xs.size)(k:Nat):
  Ky f (kas_rev xs i j) k=if i<=k/\k<j then Ky f xs (i+j-1-k) else Ky f xs k:=by
 have e:=getElem?_mirror_all (i:=i) hj k;unfold kas_rev
 by_cases h1:i<=k/\k<j
 ·rw[if_pos h1] at e ⊢;exact R9 e
 ·rw[if_neg h1] at e ⊢;exact R9 e
theorem A4 {xs:Array Nat}{i j:Nat}(hj:j<=xs.size)(heq:∀k,i<=k->k<j->Ky f xs k=Ky f xs (j-1))(k:Nat):Ky f (kas_rev xs i j) k=Ky f xs k:=by
 rw[a1m hj]
 split
 ·rw[heq _ (by omega) (by omega),heq k (by omega) (by omega)]
 ·rfl
theorem PB.rev {p:Array Nat}(h:PB n p)(i j:Nat):PB n (kas_rev p i j):=⟨(mirror_perm _ _ _ _).trans h.perm,h.pos⟩
theorem PB.bub {p:Array Nat}(h:PB n p)(i j:Nat):PB n (bubble p i j):=⟨(bubble_perm _ _ _).trans h.perm,h.pos⟩
abbrev ltK (f:Nat->O.α):Nat->Nat->Bool:=fun i j=>O.blt (f i) (f j)
theorem a4a {p:Array Nat}(hB:PB n p){Q:Nat->Prop}:∀(c a:Nat),1<=a->SoTo f p a->(∀m,a<=m->m<=a+c->SoTo f p m->(m=a+c\/O.klt (Ky f p m) (Ky f p (m-1)))->Q m)->TWp n (ltK f) (kas_asc p c a) Q
 | 0,a,_,hs,h=>h a (zE _) (zE _) hs (.inl rfl)
 | c+1,a,h1,hs,h=>by
  refine⟨hB.lt _,hB.lt _,?_⟩;cases hless:O.blt (Ky f p a) (Ky f p (a-1))
  case true=>
   rw[show ltK f (p.getD a 0) (p.getD (a-1) 0)=true from hless];dsimp only;rw[if_pos rfl];exact h a (zE _) (by walk_at "o") hs (.inr hless)
  case false=>
   rw[show ltK f (p.getD a 0) (p.getD (a-1) 0)=false from hless];dsimp only;rw[if_neg (by simp)]
   refine a4a hB c (a+1) (by walk_at "o") (fun i j hij hj=>?_) fun m x1 x2 x3 x4=>h m (by walk_at "o") (by walk_at "o") x3 (x4.imp (fun q=>by walk_at "o") id)
   by_cases hjx:j<a
   ·exact hs i j hij hjx
   ·have hj':j=a:=by walk_at "o"
    subst hj'
    by_cases hi':i=j
    ·subst hi';exact xG _
    ·exact KeyOrd.kle_trans (hs i (j-1) (by walk_at "o") (by walk_at "o")) hless
theorem a3z {p:Array Nat}(hB:PB n p){Q:Nat×Array Nat->Prop}{a m:Nat}(h1:1<=a)(ha:a<=m)(hm:m<=n)(hs:NoIn f p a)(h:∀k q,PB n q->1<=k->k<=m->SoTo f q k->Q (k,q)):TWp n (ltK f) (kas_tail3 a m p) Q:=by
 have hsz:a<=p.size:=by rw[hB.size];walk_at "o"
 refine O6 _ (a4a (hB.rev 0 a) (m-a) a h1 (fun i j hij hj=>?_) fun k x1 x2 x3 _=>h k _ (hB.rev 0 a) (by walk_at "o") (by walk_at "o") x3)
 rw[a1m hsz,a1m hsz,if_pos (by walk_at "o"),if_pos (by walk_at "o")]
 exact hs _ _ (by walk_at "o") (by walk_at "o")
theorem a0S {Q:Array Nat×Nat×Nat->Prop}{m:Nat}(hm:m<=n):∀(c:Nat) (p:Array Nat) (a q:Nat),a+c=m->PB n p->1<=a->NoIn f p a->q+1<=a->(∀i,a-(q+1)<=i->i<a->Ky f p i=Ky f p (a-1))->
  (∀k r p',PB n p'->a<=k->k<=m->NoIn f p' k->r+1<=k->(∀i,k-(r+1)<=i->i<k->Ky f p' i=Ky f p' (k-1))->Q (p',k,r))->TWp n (ltK f) (kas_desc c p a q) Q
 | 0,p,a,q,hc,hB,h1,hs,hq,he,h=>h a q p hB (zE _) (by walk_at "o") hs hq he
 | c+1,p,a,q,hc,hB,h1,hs,hq,he,h=>by
  have hsz:a<=p.size:=by rw[hB.size];walk_at "o"
  refine⟨hB.lt _,hB.lt _,?_⟩;cases hless:O.blt (Ky f p a) (Ky f p (a-1))
  case true=>
   rw[show ltK f (p.getD a 0) (p.getD (a-1) 0)=true from hless];dsimp only;rw[if_pos rfl];have step1:∀xs:Array Nat,(∀k,Ky f xs k=Ky f p k)->NoIn f xs (a+1):=by
    intro xs hk i j hij hj;rw[hk,hk]
    by_cases hjx:j<a
    ·exact hs i j hij hjx
    ·have hj':j=a:=by walk_at "o"
     subst hj'
     by_cases hi':i=j
     ·subst hi';exact xG _
     ·exact KeyOrd.kle_trans (KeyOrd.kle_of_klt hless) (hs i (j-1) (by walk_at "o") (by walk_at "o"))
   by_cases hneq:q>0
   ·rw[if_pos hneq];exact a0S hm c _ (a+1) 0 (by walk_at "o") (hB.rev _ _) (by walk_at "o") (step1 _ (A4 hsz he)) (by walk_at "o") (fun i h1 h2=>by congr 1;walk_at "o") fun k r p' x1 x2=>h k r p' x1 (by walk_at "o")
   ·rw[if_neg hneq];exact a0S hm c _ (a+1) 0 (by walk_at "o") hB (by walk_at "o") (step1 _ (fun _=>rfl)) (by walk_at "o") (fun i h1 h2=>by congr 1;walk_at "o") fun k r p' x1 x2=>h k r p' x1 (by walk_at "o")
  case false=>
   rw[show ltK f (p.getD a 0) (p.getD (a-1) 0)=false from hless];dsimp only;rw[if_neg (by simp)]
   refine⟨hB.lt _,hB.lt _,?_⟩;cases hlarger:O.blt (Ky f p (a-1)) (Ky f p a)
   case true=>
    rw[show ltK f (p.getD (a-1) 0) (p.getD a 0)=true from hlarger];dsimp only;rw[if_pos rfl];exact h a q p hB (zE _) (by walk_at "o") hs hq he
   case false=>
    rw[show ltK f (p.getD (a-1) 0) (p.getD a 0)=false from hlarger];dsimp only;rw[if_neg (by simp)]
    have heqx:Ky f p a=Ky f p (a-1):=KeyOrd.kle_antisymm hlarger hless;refine a0S hm c p (a+1) (q+1) (by walk_at "o") hB (by walk_at "o") (fun i j hij hj=>?_) (by walk_at "o") (fun i h1 h2=>?_) fun k r p' x1 x2=>h k r p' x1 (by walk_at "o")
    ·by_cases hjx:j<a
     ·exact hs i j hij hjx
     ·have hj':j=a:=by walk_at "o"
      subst hj'
      by_cases hi':i=j
      ·subst hi';exact xG _
      ·rw[heqx];exact hs i (j-1) (by walk_at "o") (by walk_at "o")
    ·rw[show a+1-1=a by walk_at "o"]
     by_cases hix:i=a
     ·subst hix;rfl
     ·rw[heqx];exact he i (by walk_at "o") (by walk_at "o")
theorem a0D {p:Array Nat}(hB:PB n p){Q:Nat×Array Nat->Prop}{a m:Nat}(ha:a+1<=m)(hm:m<=n)(hs:NoIn f p (a+1))(h:∀k q,PB n q->1<=k->k<=m->SoTo f q k->Q (k,q)):TWp n (ltK f) (kas_descPart a m p) Q:=by
 refine O6 _ (a0S hm (m-(a+1)) p (a+1) 0 (by walk_at "o") hB (by walk_at "o") hs (by walk_at "o") (fun i h1 h2=>by congr 1;walk_at "o") fun k r p' hB' x2 x3 hs' x5 he=>?_)
 have hsz:k<=p'.size:=by rw[hB'.size];walk_at "o"
 dsimp only
 by_cases hneq:r>0
 ·rw[if_pos hneq];refine a3z (hB'.rev _ _) (by walk_at "o") x3 hm (fun i j hij hj=>?_) h
  rw[A4 hsz he,A4 hsz he];exact hs' i j hij hj
 ·rw[if_neg hneq];exact a3z hB' (by walk_at "o") x3 hm hs' h
theorem a8G {p:Array Nat}(hB:PB n p){Q:Nat×Array Nat->Prop}{m:Nat}(h1:1<=m)(hm:m<=n)(h:∀k q,PB n q->1<=k->k<=m->SoTo f q k->Q (k,q)):TWp n (ltK f) (kas_count m p) Q:=by
 refine O6 _ (a4a hB (m-1) 1 (zE 1) (fun i j hij hj=>by have:i=j:=(by walk_at "o");subst this;exact xG _) fun a ha1 ha2 hsn hor=>?_)
 by_cases hnn:a=m
 ·rw[if_pos (by simpa using hnn)]
  exact h a p hB ha1 (by walk_at "o") hsn
 ·rw[if_neg (by simpa using hnn)]
  have hlt:O.klt (Ky f p a) (Ky f p (a-1)):=hor.resolve_left (by walk_at "o")
  by_cases hgt:a>1
  ·rw[if_pos hgt];refine⟨hB.lt _,hB.lt _,?_⟩;cases hrose:O.blt (Ky f p 0) (Ky f p (a-1))
   case true=>
    rw[show ltK f (p.getD 0 0) (p.getD (a-1) 0)=true from hrose];dsimp only;rw[if_pos rfl];exact h a p hB ha1 (by walk_at "o") hsn
   case false=>
    rw[show ltK f (p.getD 0 0) (p.getD (a-1) 0)=false from hrose];dsimp only;rw[if_neg (by simp)]
    have hsz:a<=p.size:=by rw[hB.size];walk_at "o"
    have hall:∀k,0<=k->k<a->Ky f p k=Ky f p (a-1):=by
     intro k _ hk;have a1:=hsn 0 k (by walk_at "o") hk
     have a2:=hsn k (a-1) (by walk_at "o") (by walk_at "o")
     exact KeyOrd.kle_antisymm a2 (KeyOrd.kle_trans hrose a1)
    refine a0D (hB.rev _ _) (by walk_at "o") hm (fun i j hij hj=>?_) h
    rw[A4 hsz hall,A4 hsz hall]
    by_cases hjn:j<a
    ·rw[hall i (by walk_at "o") (by walk_at "o"),hall j (by walk_at "o") hjn];exact xG _
    ·have hj':j=a:=by walk_at "o"
     subst hj'
     by_cases hi':i=j
     ·subst hi';exact xG _
     ·rw[hall i (by walk_at "o") (by walk_at "o")];exact KeyOrd.kle_of_klt hlt
  ·rw[if_neg hgt];have hn1':a=1:=by walk_at "o"
   subst hn1';refine a0D hB (by walk_at "o") hm (fun i j hij hj=>?_) h
   by_cases hi':i=j
   ·subst hi';exact xG _
   ·have hi0:i=0:=by walk_at "o"
    have hj1:j=1:=by walk_at "o"
    subst hi0;subst hj1;exact KeyOrd.kle_of_klt hlt
theorem a0Z {p:Array Nat}(hB:PB n p){Q:Nat->Prop}{k:Nat}(hk:k<n)(hs:SoTo f p k)
  (h:∀l,l<=k->(∀i,i<l->O.kle (Ky f p i) (Ky f p k))->(∀i,l<=i->i<k->O.klt (Ky f p k) (Ky f p i))->Q l):
  ∀(c l r:Nat),l<=r->r<=k->r-l<=c->(∀i,i<l->O.kle (Ky f p i) (Ky f p k))->(∀i,r<=i->i<k->O.klt (Ky f p k) (Ky f p i))->TWp n (ltK f) (kas_place p k c l r) Q
 | 0,l,r,hlr,hrk,hc,hlo,hhi=>h l (by omega) hlo (fun i h1 h2=>hhi i (by omega) h2)
 | c+1,l,r,hlr,hrk,hc,hlo,hhi=>by
  unfold kas_place
  by_cases hge:l≥r
  ·rw[if_pos hge]
   have:l=r:=by omega
   subst this;exact h l hrk hlo hhi
  ·rw[if_neg hge];refine⟨hB.lt _,hB.lt _,?_⟩;cases hless:O.blt (Ky f p k) (Ky f p ((l+r)/2))
   case true=>
    rw[show ltK f (p.getD k 0) (p.getD ((l+r)/2) 0)=true from hless];dsimp only;rw[if_pos rfl];exact a0Z hB hk hs h c l ((l+r)/2) (by omega) (by omega) (by omega) hlo fun i h1 h2=>KeyOrd.klt_of_klt_of_kle hless (hs _ _ h1 h2)
   case false=>
    rw[show ltK f (p.getD k 0) (p.getD ((l+r)/2) 0)=false from hless];dsimp only;rw[if_neg (by simp)]
    exact a0Z hB hk hs h c ((l+r)/2+1) r (by omega) (by omega) (by omega) (fun i h1=>KeyOrd.kle_trans (hs i ((l+r)/2) (by omega) (by omega)) (show O.kle _ _ from hless)) hhi
theorem a7b {Q:Array Nat->Prop}(h:∀p,PB n p->SoTo f p n->Q p):∀(c k:Nat) (p:Array Nat),c+k=n->PB n p->SoTo f p k->TWp n (ltK f) (kas_bin c p k) Q
 | 0,k,p,hc,hB,hs=>h p hB (by rw[<-hc];rw[Nat.zero_add];exact hs)
 | c+1,k,p,hc,hB,hs=>by
  refine O6 _ (a0Z hB (by walk_at "o") hs (fun l hlk hlo hhi=>?_) k 0 k (by walk_at "o") (by walk_at "o") (by walk_at "o") (fun i hi=>by walk_at "o") fun i h1 h2=>by walk_at "o")
  refine a7b h c (k+1) _ (by walk_at "o") (hB.bub _ _) fun i j hij hj=>?_
  have hks:k<p.size:=by rw[hB.size];walk_at "o"
  rw[a3g hks (by walk_at "o"),a3g hks (by walk_at "o"),show k-(k-l)=l by walk_at "o"]
  repeat' split
  all_goals first
   | (exfalso;walk_at "o")
   | exact xG _
   | exact hlo _ (by walk_at "o")
   | exact KeyOrd.kle_of_klt (hhi _ (by walk_at "o") (by walk_at "o"))
   | exact hs _ _ (by walk_at "o") (by walk_at "o")
theorem a9t {Q:Array Nat->Prop}(hn:1<=n)(h:∀p,PB n p->SoTo f p n->Q p):TWp n (ltK f) (kas_sort n) Q:=by
 refine O6 _ (a8G ⟨Array.Perm.refl _,hn⟩ hn (zE _) fun k q hB x1 x2 hs=>?_);dsimp only
 split
 ·rw[show max k 1=k by walk_at "o"]
  exact a7b h (n-k) k q (by walk_at "o") hB hs
 ·exact h q hB (by rw[show n=k by walk_at "o"];exact hs)
end
def DRaw (h:Heap) (d:Addr) (es:Array DictEntry) (ep:Nat):Prop:=∃o,h.get? d=some o/\o.ExactDict/\o.data= .dict es ep
theorem DRaw.typeIs {s:Shared}{d:Addr}{es:Array DictEntry}{ep:Nat}(x:DRaw s.heap d es ep):s.TypeIs (.ref d) "dict":=let ⟨o,e,c,_⟩:=x;⟨o,e,c.1⟩
theorem DRaw.lt {h:Heap}{d:Addr}{es:Array DictEntry}{ep:Nat}(x:DRaw h d es ep):d<h.objs.size:=let ⟨_,e,_⟩:=x;zW e
theorem DRaw.on {h h':Heap}{d:Addr}{es:Array DictEntry}{ep:Nat}(x:DRaw h d es ep)(k:∀o,h.get? d=some o->h'.get? d=some o):DRaw h' d es ep:=let ⟨o,e,r⟩:=x;⟨o,k o e,r⟩
section
variable {prog:Program}{w:World}{A:Around}{E:Value->Shared->Prop}{s:Shared}{it d:Addr}{es:Array DictEntry}{i ep:Nat}
theorem b02 {Q:Value->Shared->Prop}(ns:(d==sysModules)=false)(hm:DRaw s.heap d es ep)
  (q:Q (.ref s.heap.objs.size) {s with heap:=s.heap.push {cls:=.type "dict_keyiterator",data:=.fields #[.ref d,.int 0 0,.int es.size 0,.int ep 0]}}):wpAny (model prog w) A (pyIter (.ref d)) Q E s:=by
 obtain⟨o,g0,gx,gd⟩:=id hm;have T:=hm.typeIs;refine wpAny_pyIter_slot T F.slot_dict_iter (qO F.slot_dict_iter T F.entry_dict_iter ?_ (F.args_dict_iter_1 _));unfold Builtin.«dict.__iter__»;refine zA ?_;unfold Builtin.Dict.dictSlotNone;refine zA (wpAny_notOrdered_dict T (zB ?_));show wpAny _ _ (Builtin.Dict.showsAll d >>=_) _ _ s;unfold Builtin.Dict.showsAll;rw[if_neg (by rw[ns];simp)]
 refine zA (zB (zA (wpAny_dictEntries g0 gd (zA (wpAny_dictEpoch g0 gd ?_)))));refine zA (qD (zB ⟨_,rfl,"dict_keyiterator",_,⟨_,zS _ rfl,rfl⟩,F.slot_dict_keyiterator_next.lookup,?_⟩));simpa [rawInt] using q
theorem b0H {Q:Option Value->Shared->Prop}{e:DictEntry}(hit:s.heap.IsKeyIter it d i es.size ep)(hm:DRaw s.heap d es ep)(he:es[i]? =some e)
  (q:∀h',h'.IsKeyIter it d (i+1) es.size ep->Heap.SameBut it s.heap h'->Q (some e.key) {s with heap:=h'}):wpAny (model prog w) A (pyNext (.ref it)) Q E s:=by
 obtain⟨o,t0,tc,td⟩:=id hit;obtain⟨od,g0,gx,gd⟩:=id hm;unfold pyNext;refine zA (wpAny_attempt (qE (name:=Str.ofString "__next__") hit.typeIs jV (qO jV hit.typeIs F.entry_dict_keyiterator_next ?_ (F.args_dict_keyiterator_next_1 _))));refine zA (zB (zA (zA ?_)))
 first|refine zA (xK hit.typeIs (zB (zA (wpAny_fieldsOf t0 td ?_))))|refine zA (yE hit.typeIs (zB (zA (wpAny_fieldsOf t0 td ?_))))
 have own:Builtin.Dict_items.ownsTuple "dict_keyiterator"=false:=by decide
 simp only[own,jI,jW];show wpAny _ _ (if(Value.ref d==Value.none)=true then _ else _) _ _ s;rw[if_neg (show ¬((Value.ref d==Value.none)=true) from zP)];refine zA (zB (zA (wpAny_dictEntries g0 gd ?_)));rw[if_neg (by simp)]
 refine zA (zB (zA (wpAny_dictEpoch g0 gd ?_)));rw[if_neg (by simp)]
 refine zB ?_;have lt:i<es.size:=by
  rcases Nat.lt_or_ge i es.size with z|z
  ·exact z
  ·rw[xR z] at he;cases he
 simp only[show ¬((i:Int)<0) from by walk_at "o",jW,qQ,he]
 refine zA ?_
 first|refine zA (xK hit.typeIs (zB (zA (wpAny_isOneOf_keyiter hit.typeIs ?_))))|refine zA (yE hit.typeIs (zB (zA (wpAny_isOneOf_keyiter hit.typeIs ?_))))
 show wpAny _ _ (setField (.ref it) 1 (rawInt ((i:Int)+1)) >>=_) _ _ s;refine zA (wpAny_setField t0 td (by simp) ?_)
 have up:(s.heap.update it (PySem.Obj.mapFields (·.setIfInBounds 1 (rawInt ((i:Int)+1))))).IsKeyIter it d (i+1) es.size ep:=⟨_,xL _ t0 (Obj.isFreed_of_fields (Obj.data_mapFields td _)),(Obj.cls_mapFields ..).trans tc,by rw[Obj.data_mapFields td];simp[rawInt]⟩
 refine zA (qI (zA (wpAny_isOneOf_keyiter (s:={s with heap:=s.heap.update it (PySem.Obj.mapFields (·.setIfInBounds 1 (rawInt ((i:Int)+1))))}) up.typeIs ?_)))
 show wpAny _ _ (pure e.key) _ _ _;exact zB (zB ⟨_,rfl,zB (q _ up (qZ ..))⟩)
theorem b1G {Q:Option Value->Shared->Prop}(hh:A.handled=none)(hit:s.heap.IsKeyIter it d i es.size ep)(hm:DRaw s.heap d es ep)(he:es[i]? =none)
  (q:∀h',Heap.ExtBut it s.heap h'->Q none {s with heap:=h'}):wpAny (model prog w) A (pyNext (.ref it)) Q E s:=by
 obtain⟨o,t0,tc,td⟩:=id hit;obtain⟨od,g0,gx,gd⟩:=id hm;unfold pyNext;refine zA (wpAny_attempt (qE (name:=Str.ofString "__next__") hit.typeIs jV (qO jV hit.typeIs F.entry_dict_keyiterator_next ?_ (F.args_dict_keyiterator_next_1 _))));refine zA (zB (zA (zA ?_)))
 first|refine zA (xK hit.typeIs (zB (zA (wpAny_fieldsOf t0 td ?_))))|refine zA (yE hit.typeIs (zB (zA (wpAny_fieldsOf t0 td ?_))))
 have own:Builtin.Dict_items.ownsTuple "dict_keyiterator"=false:=by decide
 simp only[own,jI,jW];show wpAny _ _ (if(Value.ref d==Value.none)=true then _ else _) _ _ s;rw[if_neg (show ¬((Value.ref d==Value.none)=true) from zP)];refine zA (zB (zA (wpAny_dictEntries g0 gd ?_)));rw[if_neg (by simp)]
 refine zA (zB (zA (wpAny_dictEpoch g0 gd ?_)));rw[if_neg (by simp)]
 refine zB ?_;simp only[show ¬((i:Int)<0) from by walk_at "o",jW,qQ,he]
 refine zA ?_
 first|refine zA (xK hit.typeIs (zB ?_))|refine zA (yE hit.typeIs (zB ?_))
 show wpAny _ _ (setField (.ref it) 0 .none >>=_) _ _ s;refine zA (wpAny_setField t0 td (by simp) ?_)
 show wpAny _ _ (newExc (.type "StopIteration") [] >>=_) _ _ _;refine zA ?_;simp only[newExc,newTuple];refine zA (qD ?_ (by size_fits))
 refine zA (m:=firstArgMember _ _) (wpAny_of_eq (a:=Value.none) (by first|rfl|(simp only[firstArgMember];rfl)) (qD ?_ (by size_fits)))
 simp only[raiseNew];refine zA (wpAny_handled ?_);rw[show A.in1.handled=none from hh];refine zA (zB (wpAny_throw ?_));refine zA (wpAny_isInstance (b:=true) (T:="StopIteration") ⟨_,zS _ rfl,rfl⟩ isSubtype_stop ?_);exact zB (q _ (((qZ ..).extBut.push _).push _))
theorem a8D (hh:A.handled=none)(I d:Addr)(hne:d≠I)(es:Array DictEntry)(ep:Nat):
  Walks prog w A I [I,d] [I] es.size (fun i v=>∃e,es[i]? =some e/\v=e.key) (fun i h=>h.IsKeyIter I d i es.size ep/\DRaw h d es ep) where
 sub:=fun b hb=>by simp at hb;simp[hb]
 frame:=fun _ _ _ st hk=>⟨st.1.at fun o e=>hk I (by simp) o e,st.2.on fun o e=>hk d (by simp) o e⟩
 item:=fun i s Q E hi st hQ=>b0H st.1 st.2 (e:=es[i]) (by simp[hi]) fun h' h1 h2=>hQ _ h' s.toks ⟨_,by simp[hi],rfl⟩ ⟨h1,st.2.on fun o e=>(h2.2 d hne).trans e⟩ fun b o hb e=>(h2.2 b (fun z=>hb (by simp[z]))).trans e
 done:=fun s Q E st hQ=>b1G hh st.1 st.2 (by simp) fun h' x=>hQ h' s.toks fun b o hb e=>x b o (fun z=>hb (by simp[z])) e
 self:=fun _ _ _ _ st hQ=>wpAny_pyIter_keyiter st.1 hQ
theorem a7h (ns:(d==sysModules)=false):KdlSrc prog w "dict" d d es.size (fun i v=>∃e,es[i]? =some e/\v=e.key) (fun h=>DRaw h d es ep) where
 type:=fun _ x=>x.typeIs
 there:=fun _ x=>⟨x.lt,x.lt⟩
 keep:=fun _ _ x hk=>x.on fun o e=>hk d (.inl rfl) o e
 notList:=by decide
 notTuple:=by decide
 hint:=fun _ _ _ _ x q=>kdl_hint_dict x.typeIs q
 iter:=fun _ _ hh x=>⟨_,_,(fun _ _ q=>b02 ns x q),a8D hh _ d (zT x.lt) es ep,⟨⟨_,zS _ rfl,rfl,rfl⟩,x.on fun o e=>zD _ e⟩⟩
end
theorem a6P:∀a:List Int,HT.lexLt a a=false
 | []=>rfl
 | x::a=>by rw[HT.lexLt_cons,if_pos rfl];exact a6P a
theorem a3Q:∀a b c:List Int,HT.lexLt a b=true->HT.lexLt b c=true->HT.lexLt a c=true
 | [],[],_,h,_=>by cases h
 | [],_::_,[],_,h=>by cases h
 | [],_::_,_::_,_,_=>rfl
 | _::_,[],_,h,_=>by cases h
 | _::_,_::_,[],_,h=>by cases h
 | x::a,y::b,z::c,h,h'=>by
  rw[HT.lexLt_cons] at h h' ⊢
  by_cases e1:x=y
  ·by_cases e2:y=z
   ·rw[if_pos e1] at h;rw[if_pos e2] at h';rw[if_pos (e1.trans e2)];exact a3Q a b c h h'
   ·rw[if_neg e2] at h';rw[if_neg (fun q=>e2 (e1.symm.trans q)),e1];exact h'
  ·rw[if_neg e1] at h;have h1:=xI h
   by_cases e2:y=z
   ·rw[if_neg (fun q=>e1 (q.trans e2.symm)),<-e2];exact h
   ·rw[if_neg e2] at h';have h2:=xI h';rw[if_neg (by omega)]
    exact qL (by omega)
theorem a7C:∀a b c:List Int,HT.lexLt a c=true->HT.lexLt a b=true\/HT.lexLt b c=true
 | [],[],_,h=>.inr h
 | [],_::_,_,_=>.inl rfl
 | _::_,_,[],h=>by cases h
 | _::_,[],_::_,_=>.inr rfl
 | x::a,y::b,z::c,h=>by
  rw[HT.lexLt_cons] at h ⊢;rw[HT.lexLt_cons]
  by_cases e1:x=y
  ·by_cases e2:y=z
   ·rw[if_pos (e1.trans e2)] at h;rw[if_pos e1,if_pos e2];exact a7C a b c h
   ·rw[if_neg (fun q=>e2 (e1.symm.trans q))] at h;rw[if_neg e2,<-e1];exact .inr h
  ·rw[if_neg e1]
   by_cases e2:x=z
   ·have e3:¬y=z:=fun q=>e1 (e2.trans q.symm);rw[if_neg e3];rcases Int.lt_or_gt_of_ne e1 with q|q
    ·exact .inl (qL q)
    ·exact .inr (qL (by omega))
   ·rw[if_neg e2] at h;have h1:=xI h;rcases Int.lt_or_gt_of_ne e1 with q|q
    ·exact .inl (qL q)
    ·rw[if_neg (show ¬y=z by omega)];exact .inr (qL (by omega))
theorem a3U:∀a b:List Int,HT.lexLt a b=false->HT.lexLt b a=false->a=b
 | [],[],_,_=>rfl
 | [],_::_,h,_=>by cases h
 | _::_,[],_,h=>by cases h
 | x::a,y::b,h,h'=>by
  rw[HT.lexLt_cons] at h h'
  by_cases e:x=y
  ·rw[if_pos e] at h;rw[if_pos e.symm] at h';rw[e,a3U a b h h']
  ·rw[if_neg e] at h;rw[if_neg (fun q=>e q.symm)] at h';have h1:=of_decide_eq_false h;have h2:=of_decide_eq_false h';walk_at "o"
def lexO:KeyOrd:=⟨List Int,HT.lexLt,a6P,a3Q,a7C,a3U⟩
inductive Tups (h:Heap):List Value->List (List Int)->Prop where
 | nil:Tups h [] []
 | cons {a:Addr} {its:Array Value} {k:List Int} {vs:List Value} {ks:List (List Int)} (t:IsTup h a its) (i:IntsAre its.toList k) (ne:k≠[]) (r:Tups h vs ks):Tups h (.ref a::vs) (k::ks)
theorem Tups.len {h:Heap}{vs:List Value}{ks:List (List Int)}(t:Tups h vs ks):vs.length=ks.length:=by
 induction t with
 | nil=>rfl
 | cons _ _ _ _ ih=>simp[ih]
theorem Tups.on {h h':Heap}{vs:List Value}{ks:List (List Int)}(t:Tups h vs ks)(k:∀a o,(.ref a)∈vs->h.get? a=some o->h'.get? a=some o):Tups h' vs ks:=by
 induction t with
 | nil=>exact .nil
 | cons x i ne r ih=>
  obtain⟨o,e,c⟩:=x;exact .cons ⟨o,k _ o zJ e,c⟩ i ne (ih fun a o m e=>k a o (zI _ m) e)
theorem Tups.at {h:Heap}{vs:List Value}{ks:List (List Int)}(t:Tups h vs ks):∀{i:Nat},i<vs.length->∃a its,vs.getD i .none= .ref a/\IsTup h a its/\IntsAre its.toList (ks.getD i [])/\ks.getD i []≠[]:=by
 induction t with
 | nil=>intro i hi;simp at hi
 | cons x i ne r ih=>
  intro j hj;cases j with
  | zero=>exact⟨_,_,rfl,x,i,ne⟩
  | succ j=>exact ih (i:=j) (by simpa using hj)
section
variable {prog:Program}{w:World}{A:Around}{E:Value->Shared->Prop}{s:Shared}{h₀:Heap}{L D:Addr}{m:Str->Option Value}{vs:List Value}{ks:List (List Int)}
theorem b0I {fin:Bool}{Q:Bool->Shared->Prop}:∀{us ws:List Value} {ns ms:List Int} {i:Nat},IntsAre us ns->IntsAre ws ms->fin=decide (us.length<ws.length)->
  Q (HT.lexLt ns ms) s->KatLex prog w A true fin Q (us.zip ws) i s
 | [],[],_,_,i,h1,h2,ef,q=>by
  cases h1;cases h2;rw[zip_nil_left];exact kat_nil (by rw[ef];exact q)
 | [],_::_,_,_,i,h1,h2,ef,q=>by
  cases h1;cases h2;rw[zip_nil_left];exact kat_nil (by rw[ef];simpa [HT.lexLt] using q)
 | _::_,[],_,_,i,h1,h2,ef,q=>by
  cases h1;cases h2;rw[List.zip_nil_right];exact kat_nil (by rw[ef];simpa [HT.lexLt] using q)
 | _::us,_::ws,_,_,i,h1,h2,ef,q=>by
  cases h1 with
  | cons a t h1=>
   cases h2 with
   | cons c u h2=>
    rw[jZ];rw[HT.lexLt_cons] at q;refine kat_cons (SeqAt.EqAt.int_int a t c u prog w _ _ ?_)
    by_cases e:a=c
    ·rw[if_pos e] at q;rw[show(a==c)=true by simpa using e]
     exact kat_yes (b0I h1 h2 (by rw[ef];simp) q)
    ·rw[if_neg e] at q;rw[show(a==c)=false by simpa using e]
     refine kat_no ?_;cases hb:(true&&i==0) with
     | true=>exact oneLt_int q
     | false=>exact kat_one _ _ (lt_int q)
theorem katTups {h:Heap}{vs:List Value}{ks:List (List Int)}(t:Tups h vs ks):∃fs,KatTups h vs fs/\fs.length=ks.length/\∀v∈fs,∃(i:Int) (u:Tok),v= .int i u:=by
 induction t with
 | nil=>exact⟨[],.nil,rfl,fun v hv=>by cases hv⟩
 | @cons a its k vs ks x i ne r ih=>
  obtain⟨fs,h1,h2,h3⟩:=ih;obtain⟨o,e,c,n,d⟩:=x;obtain⟨its⟩:=its;cases i with
  | nil=>exact absurd rfl ne
  | cons n0 t0 r'=>exact⟨_,.cons e c d (by rfl) h1,by simp[h2],fun v hv=>(zX.mp hv).elim (fun z=>⟨_,_,z⟩) (h3 v)⟩
theorem b1t {s:Shared}(T:Tups s.heap vs ks)(i j:Nat)(C:Bool->Shared->Prop)(hi:i<vs.length)(hj:j<vs.length)(q:C (HT.lexLt (ks.getD i []) (ks.getD j [])) s):kas_ask prog w A (tuples' true) vs i j C s:=by
 obtain⟨a,its,ea,⟨o,h1,h2,n,h3⟩,ia,_⟩:=T.at hi;obtain⟨b,its2,eb,⟨o2,g1,g2,n2,g3⟩,ib,_⟩:=T.at hj;unfold kas_ask;rw[ea,eb];exact kat_lt h1 h3 g1 g3 (b0I ia ib (by simp) q)
theorem a8K {Q:Value->Shared->Prop}(F:Fr h₀ L s.heap m)(hD:s.heap.get? D=some (listOf vs.toArray 0))(hDL:D≠L)(hD0:h₀.get? D=none)(T:Tups s.heap vs ks)(nD:Value.ref D∉vs)(nL:Value.ref L∉vs)(k0:∀b o,h₀.get? b=some o->s.heap.get? b=some o)(h2:2<=vs.length)(h64:vs.length<64)
  (q:∀(h':Heap) (p:Array Nat) (e:Nat),Fr h₀ L h' m->(∀b o,b≠L->b≠D->s.heap.get? b=some o->h'.get? b=some o)->h'.get? D=some (listOf (p.toList.map fun i=>vs.getD i .none).toArray e)->PB vs.length p->SoTo (O:=lexO) (fun i=>ks.getD i []) p vs.length->Q .none {s with heap:=h'}):
  wpAny (model prog w) A (call (.builtin "list.sort") [.ref D]) Q E s:=by
 have kept:=fun{h':Heap} (F':Fr h₀ L h' m) (N':News h₀ L h' (L2.rest h₀ s.heap L D))=>L2.a31 (d:=D) k0 F' N';refine kat_lsort (vs:=vs) F (L2.b1M hDL hD0 hD) (.head L2.a7G) (by simp) h2 h64 fun e1 h' F' N'=>?_
 have K':=kept F' fun p hp=>N' p (zI _ hp);have T':Tups h' vs ks:=T.on fun a o ma e=>K' a o (fun z=>nL (z▸ma)) (fun z=>nD (z▸ma)) e;obtain⟨fs,f1,f2,f3⟩:=katTups T';refine kat_kind (s:={s with heap:=h'}) (T:=.type "int") f1 (by rw[f2,<-T.len];walk_at "o") (fun v hv=>by obtain⟨i,u,rfl⟩:=f3 v hv;exact Looks.of_pure rfl) (by decide) ?_
 have tb:(Value.type "int" != Value.type "tuple")=true:=by decide
 rw[tb];refine a7n (s:={s with heap:=h'}) (n:=vs.length) (lt:=ltK (O:=lexO) fun i=>ks.getD i []) (fun i j C hi hj c=>b1t (s:={s with heap:=h'}) T' i j C hi hj c) _ (a9t (by walk_at "o") fun p hp hs=>?_)
 refine KasFin.intro F' N' (.head L2.a7G) fun h3 c F3 N3=>?_;exact q h3 p c F3 (kept F3 fun p hp=>N3 p (zI _ hp)) (N3 _ zJ).1 hp hs
theorem a5Q {Q:Value->Shared->Prop}(hD:s.heap.get? D=some (listOf vs.toArray 0))(h2:vs.length<2)
  (q:∀(h':Heap) (e:Nat),(∀b o,b≠D->s.heap.get? b=some o->h'.get? b=some o)->h'.get? D=some (listOf vs.toArray e)->Q .none {s with heap:=h'}):
  wpAny (model prog w) A (call (.builtin "list.sort") [.ref D]) Q E s:=by
 refine qO slot_list_sort ⟨_,hD,rfl⟩ entry_list_sort ?_ (args_list_sort _);rw[list_sort_plain];have lt:D<s.heap.objs.size:=zW hD;refine zA (listItems_at hD rfl (zA (listUpdate_at hD rfl ?_)));obtain⟨e1,k1⟩:∃e1,(s.heap.update D (PySem.Obj.mapSeq fun _=> #[])).get? D=some (seqObj "list" #[] e1):=⟨_,yP hD (fun _=> #[])⟩;refine zA (seqEpoch_at k1 rfl (zA (wpAny_newTuple (zA (wpAny_newList (qI ?_))))));have k2:(((s.heap.update D (PySem.Obj.mapSeq fun _=> #[])).push (seqObj "tuple" vs.toArray 0)).push (seqObj "list" #[] 0)).get? D=some (seqObj "list" #[] e1):=zD _ (zD _ k1);show wpAny (model prog w) _ _ _ E {s with heap:=((s.heap.update D (PySem.Obj.mapSeq fun _=> #[])).push (seqObj "tuple" vs.toArray 0)).push (seqObj "list" #[] 0)}
 dsimp only;have sz:vs.toArray.size<2:=by simpa using h2
 rw[if_pos sz,if_pos sz];refine zA (zB ?_);rw[StateT.run_pure];refine zA (zB ?_);dsimp only;have out:(arrOf (SortSt.mk' general' (vs.toArray.zip vs.toArray) #[] 7 none)).map (·.2)=vs.toArray:=by
  show(vs.toArray.zip vs.toArray).map (·.2)=vs.toArray;have e:(vs.toArray.zip vs.toArray)=(vs.zip vs).toArray:=by simp
  rw[e,List.map_toArray];congr 1;exact List.map_snd_zip (zE _)
 rw[out];refine zA (seqEpoch_at k2 rfl (zA (listUpdate_at k2 rfl ?_ (hsz2:=by rw[jM];walk_at "o"))))
 simp only[bne_self_eq_false,jI,jW];obtain⟨e2,k3⟩:∃e2,((((s.heap.update D (PySem.Obj.mapSeq fun _=> #[])).push (seqObj "tuple" vs.toArray 0)).push (seqObj "list" #[] 0)).update D (PySem.Obj.mapSeq fun _=>vs.toArray)).get? D=some (seqObj "list" vs.toArray e2):=⟨_,yP k2 (fun _=>vs.toArray)⟩;refine zB ⟨_,rfl,q _ e2 (fun b o hb e=>?_) k3⟩;rw[xN _ _ _ _ hb];refine zD _ (zD _ ?_);rw[xN _ _ _ _ hb];exact e
end
abbrev kleB (a b:List Int):Bool:=!HT.lexLt b a
def sortK (ks:List (List Int)):List (List Int):=ks.mergeSort kleB
theorem m8 (ks:List (List Int)):(sortK ks).Perm ks:=List.mergeSort_perm ks _
theorem P4 (ks:List (List Int)):(sortK ks).Pairwise fun a b=>HT.lexLt b a=false:=by
 have:=List.pairwise_mergeSort (le:=kleB) (fun a b c h1 h2=>by
  simp only[kleB,Bool.not_eq_true'] at *;exact KeyOrd.kle_trans (O:=lexO) h1 h2) (fun a b=>by
  simp only[kleB,Bool.or_eq_true,Bool.not_eq_true'];cases q:HT.lexLt b a with
  | false=>exact .inl rfl
  | true=>exact .inr (KeyOrd.klt_asymm (O:=lexO) q)) ks
 exact this.imp fun h=>by simpa [kleB] using h
theorem a3a:∀{l1 l2:List (List Int)},l1.Perm l2->(l1.Pairwise fun a b=>HT.lexLt b a=false)->(l2.Pairwise fun a b=>HT.lexLt b a=false)->l1=l2
 | [],l2,h,_,_=>(List.nil_perm.mp h).symm
 | a::l1,[],h,_,_=>by have:=h.length_eq;simp at this
 | a::l1,b::l2,h,h1,h2=>by
  have h1':=pairwise_cons.mp h1;have h2':=pairwise_cons.mp h2;have e:a=b:=by
   have ma:a∈b::l2:=h.mem_iff.mp zJ;have mb:b∈a::l1:=h.mem_iff.mpr zJ;rcases zX.mp ma with z|z
   ·exact z
   ·rcases zX.mp mb with y|y
    ·exact y.symm
    ·exact a3U a b (h2'.1 a z) (h1'.1 b y)
  subst e;rw[a3a ((List.perm_cons a).mp h) h1'.2 h2'.2]
inductive Al (K:PySem.W.Frag) (H:Hp):List Addr->List (List Int)->Prop where
 | nil:Al K H [] []
 | cons {a:Addr} {k:List Int} {as:List Addr} {ks:List (List Int)} (q:SqT K H a (k.map V.int)) (r:Al K H as ks):Al K H (a::as) (k::ks)
section
variable {K:PySem.W.Frag}{H:Hp}
theorem Al.len {as:List Addr}{ks:List (List Int)}(h:Al K H as ks):as.length=ks.length:=by
 induction h with
 | nil=>rfl
 | cons _ _ ih=>simp[ih]
theorem Al.at {as:List Addr}{ks:List (List Int)}(h:Al K H as ks):∀{i:Nat},i<as.length->SqT K H (as.getD i 0) ((ks.getD i []).map V.int):=by
 induction h with
 | nil=>intro i hi;simp at hi
 | cons q r ih=>
  intro i hi;cases i with
  | zero=>exact q
  | succ i=>exact ih (i:=i) (by simpa using hi)
theorem Al.pick {as:List Addr}{ks:List (List Int)}(h:Al K H as ks):∀{l:List Nat},(∀i∈l,i<as.length)->Al K H (l.map fun i=>as.getD i 0) (l.map fun i=>ks.getD i [])
 | [],_=>.nil
 | i::l,hl=>.cons (h.at (hl i zJ)) (h.pick fun j hj=>hl j (zI _ hj))
theorem Al.den {O:Av}{as:List Addr}{ks:List (List Int)}(h:Al K H as ks):DenL K O H (ks.map tupI) (as.map V.ref):=by
 induction h with
 | nil=>exact k5
 | cons q r ih=>
  refine j8 ?_ ih;unfold tupI;rw[Den];exact⟨_,_,rfl,q,F9 _⟩
end
theorem a0h {K:PySem.W.Frag}{O:Av}{H:Hp}:∀{ds:List D} {ks:List (List Int)} {vs:List V},tupsOf ds=some ks->DenL K O H ds vs->∃as,vs=as.map V.ref/\Al K H as ks
 | [],ks,vs,e,l=>by rw[DenL] at l;subst l;cases e;exact⟨[],rfl,.nil⟩
 | d::ds,ks,vs,e,l=>by
  rw[DenL] at l;obtain⟨v,r,rfl,h,l⟩:=l;cases d<;>simp only[tupsOf] at e<;>try cases e
  rename_i xs;cases e1:intsOf xs with
  | none=>rw[e1] at e;cases e
  | some k=>
   rw[e1] at e;simp only[bind_some] at e;cases e2:tupsOf ds with
   | none=>rw[e2] at e;cases e
   | some ks'=>
    rw[e2] at e;cases e;obtain⟨as,rfl,a⟩:=a0h e2 l;rw[u7 e1,Den] at h;obtain⟨p,us,rfl,q,lu⟩:=h;rw[q9 lu] at q;exact⟨p::as,rfl,.cons q a⟩
section
variable {X:Cx}{pins:List (Addr×PySem.Obj)}{σ:L2.St}{H:Hp}{s:Shared}
theorem Al.tups {as:List Addr}{ks:List (List Int)}(I:Inv X pins σ H s)(h:Al X.K H as ks)(ne:∀k∈ks,k≠[]):Tups s.heap (as.map Value.ref) ks:=by
 induction h with
 | nil=>exact .nil
 | cons q r ih=>
  obtain⟨its,r1,p1,_⟩:=I.tuple q;exact .cons p1 (J4 r1) (ne _ zJ) (ih fun k hk=>ne k (zI _ hk))
theorem a1e:∀as:List Addr,Vals (as.map V.ref) (as.map Value.ref)
 | []=>.nil
 | a::as=>.cons rfl (a1e as)
theorem P2:∀{as:List Addr} {us:List Value},Vals (as.map V.ref) us->us=as.map Value.ref
 | [],us,r=>by cases r;rfl
 | a::as,us,r=>by
  cases r with
  | cons h t=>cases h;rw[P2 t];rfl
theorem a1t {A:Around}{E:Value->Shared->Prop}{as:List Addr}{ks:List (List Int)}{Q:VK}(I:Inv X pins σ H s)(a:Al X.K H as ks)(ne:∀k∈ks,k≠[])(h64:ks.length<64)
  (q:∀l bs,H l=none->Al X.K H bs (sortK ks)->Q (.ref l) (upd H l (.lst (bs.map V.ref)))):
  wpAny (model X.prog X.w) A (call (.builtin "list.sort") [.ref s.heap.objs.size]) (fun _ s'=>EP X pins σ Q (.ref s.heap.objs.size) s') E {s with heap:=s.heap.push (PySem.W.listOf (as.map Value.ref).toArray 0)}:=by
 have I2:Inv X pins σ H {s with heap:=s.heap.push (PySem.W.listOf (as.map Value.ref).toArray 0)}:=I.kept (t':=s.toks) fun b o e=>zD _ e
 obtain⟨m,F⟩:=I2.fr;have T:=a.tups I2 ne;have fr:H s.heap.objs.size=none:=I.hok.fresh (zE _);have hD:(s.heap.push (PySem.W.listOf (as.map Value.ref).toArray 0)).get? s.heap.objs.size=some (PySem.W.listOf (as.map Value.ref).toArray 0):=zS _ rfl;have dL:s.heap.objs.size≠X.env.locals:=Nat.ne_of_gt I.lt;have al:=a.len;have fin:∀(h':Heap) (p:List Nat) (ec:Nat),Fr X.base X.env.locals h' m->(∀b o,b≠X.env.locals->b≠s.heap.objs.size->(s.heap.push (PySem.W.listOf (as.map Value.ref).toArray 0)).get? b=some o->h'.get? b=some o)->
   h'.get? s.heap.objs.size=some (PySem.W.listOf (p.map fun i=>Value.ref (as.getD i 0)).toArray ec)->p.Perm (List.range ks.length)->((p.map fun i=>ks.getD i []).Pairwise fun a b=>HT.lexLt b a=false)->EP X pins σ Q (.ref s.heap.objs.size) {s with heap:=h'}:=fun h' p ec F' kp hD' pp ps=>by
  have lt:∀i∈p,i<as.length:=fun i hi=>by have:=pp.mem_iff.mp hi;rw[al];simpa using this
  have ek:(p.map fun i=>ks.getD i [])=sortK ks:=by
   refine a3a (((pp.map _).trans ?_).trans (m8 ks).symm) ps (P4 ks)
   have:(List.range ks.length).map (fun i=>ks.getD i [])=ks:=by
    apply xT;intro i
    by_cases hi:i<ks.length
    ·rw[zV,jU hi];simp[hi]
    ·rw[jA (by simp;walk_at "o"),jA (by walk_at "o")]
   rw[this]
  have pk:=a.pick lt;rw[ek] at pk;have kept:∀b o,b≠X.env.locals->s.heap.get? b=some o->h'.get? b=some o:=fun b o hb e=>kp b o hb (zT (zW e)) (zD _ e);have nD:∀b o,s.heap.get? b=some o->b≠s.heap.objs.size:=fun b o e=>zT (zW e);have nH:∀b u,H b=some u->b≠s.heap.objs.size:=fun b u e=>m4 e fr;have nLH:∀b u,H b=some u->b≠X.env.locals:=fun b u e z=>by rw[z,I.free] at e;cases e
  refine⟨.ref s.heap.objs.size,upd H s.heap.objs.size (.lst ((p.map fun i=>as.getD i 0).map V.ref)),?_,rfl,q _ _ fr pk⟩;refine I.step (g':=s.gens) (t':=s.toks) (d':=s.drawn) (ch:=[]) (fun _ z=>nomatch z) (fun b o hL _ _ e _=>kept b o hL e) (fun b o hL _ _ e _=>⟨o.slots,kept b o hL e⟩) (fun b o _ e n=>by rw[g8 (nD b o e)];exact n) (fun b o _ e=>?_)
   (fun b xs e=>by rw[g8 (nH _ _ e)];exact e) (fun b o u e=>by rw[g8 (nH _ _ e)];exact e) (fun b ps e=>⟨#[],by rw[g8 (nH _ _ e),e];simp⟩) (fun m' hm=>?_) (fun b u e=>?_) I.bare
  ·by_cases hL:b=X.env.locals
   ·obtain⟨o',_,_,e',_⟩:=F'.ns;rw[hL];exact⟨o',e'⟩
   ·exact⟨o,kept b o hL e⟩
  ·have e1:m'=m:=by
    have z1:(s.heap.push (PySem.W.listOf (as.map Value.ref).toArray 0)).Ns X.env.locals m':=by
     obtain⟨o,es,ep,e,r⟩:=hm;exact⟨o,es,ep,zD _ e,r⟩
    rw[z1.eq_nsMap,F.ns.eq_nsMap]
   rw[e1];exact F'.ns
  ·by_cases hb:b=s.heap.objs.size
   ·subst hb;rw[p9] at e;cases e;refine⟨?_,(p.map fun i=>as.getD i 0).map Value.ref,ec,a1e _,?_⟩
    ·rw[zC,zC,pp.length_eq,length_range,jM];walk_at "o"
    ·rw[hD'];simp[qF,Function.comp_def]
   ·rw[g8 hb] at e
    refine(I.hok b u e).stay (fun c v hc z=>kept c v (by
     rcases hc with w|w
     ·rw[w];exact nLH b u e
     ·exact nLH c _ w) z) (fun c z=>by rw[g8 (nH _ _ z)];exact z) fun c ys z=>by rw[g8 (nH _ _ z)];exact z
 have gr:∀p:List Nat,(∀i∈p,i<as.length)->(p.map fun i=>(as.map Value.ref).getD i .none)=p.map fun i=>Value.ref (as.getD i 0):=fun p hp=>jL fun i hi=>by simp[hp i hi]
 have tp:∀{vs:List Value} {ks:List (List Int)},Tups s.heap vs ks->∀a,Value.ref a∈vs->∃its,IsTup s.heap a its:=fun{vs ks} t=>by
  induction t with
  | nil=>intro a z;cases z
  | cons x i ne r ih=>
   intro a z;rcases zX.mp z with z|z
   ·cases z;exact⟨_,x⟩
   ·exact ih a z
 have tp:=tp (a.tups I ne)
 by_cases h2:ks.length<2
 ·refine a5Q hD (by rw[zC,al];exact h2) fun h' e kp hD'=>fin h' (List.range ks.length) e ⟨?_,fun b o eb=>kp b o (fun z=>?_) (F.keep b o eb),F.above⟩ (fun b o _ hb eb=>kp b o hb eb) ?_ (xP _) ?_
  ·obtain⟨o,es,ep,e1,r⟩:=F.ns;exact⟨o,es,ep,kp _ o (qT dL) e1,r⟩
  ·have:=I.bk b o eb
   exact absurd (zW this) (by rw[z];exact jD _)
  ·rw[hD',<-al];congr 3;apply xT;intro i
   by_cases hi:i<as.length
   ·rw[zV,zV,jU hi];simp[hi]
   ·rw[jA (by simp;walk_at "o"),jA (by simp;walk_at "o")]
  ·match ks,h2 with
   | [],_=>exact .nil
   | [k],_=>exact List.pairwise_singleton _ _
 ·refine a8K F hD dL ?_ T (fun z=>?_) (fun z=>?_) F.keep (by rw[zC,al];walk_at "o") (by rw[zC,al];walk_at "o") fun h' p e F' kp hD' hp hs=>?_
  ·cases q0:X.base.get? s.heap.objs.size with
   | none=>rfl
   | some o=>exact absurd (zW (I.bk _ o q0)) (jD _)
  ·obtain⟨its,o,e1,_⟩:=tp _ z;exact absurd (zW e1) (jD _)
  ·obtain⟨its,o,e1,_,n,d1⟩:=tp _ z;obtain⟨m2,⟨o2,es,ep,e2,d2,_⟩,_⟩:=id I.loc;rw[e1] at e2;cases e2;rw[d1] at d2;cases d2
  ·have pp:p.toList.Perm (List.range ks.length):=by
    have:=Array.perm_iff_toList_perm.mp hp.perm
    rw[zC,al] at this;simpa using this
   have sz:p.size=ks.length:=by rw[hp.size,zC,al]
   refine fin h' p.toList e F' kp ?_ pp ?_
   ·rw[hD',gr p.toList fun i hi=>by have:=pp.mem_iff.mp hi;rw[al];simpa using this]
   ·rw[List.pairwise_iff_getElem];intro i j hi hj hij;have hj':j<p.size:=by simpa using hj
    have hi':i<p.size:=by simpa using hi
    have z:=hs i j (Nat.le_of_lt hij) (by rw[zC,al,<-sz];exact hj')
    simp only[getElem_map,Array.getElem_toList];unfold Ky at z;have g1:p.getD i 0=p[i]:=by simp[Array.getD,hi']
    have g2:p.getD j 0=p[j]:=by simp[Array.getD,hj']
    rw[g1,g2] at z;exact z
end
def SrcT (K:PySem.W.Frag) (H:Hp) (p:Addr) (ks:List (List Int)):Prop:=(∃as,SqL K H p (as.map V.ref)/\Al K H as ks)\/∃vs,H p=some (.dT ((ks.map fun k=>k.map Sum.inl).zip vs))/\ks.length=vs.length
theorem b4j (k:List Int):(k.map (Sum.inl:Int->Key)).map kV=k.map V.int:=by rw[qF];rfl
theorem b3t {K:PySem.W.Frag}{H:Hp}:∀{ks:List (List Int)} {vs:List V} {xs:List (List Key×Addr×Value)},ks.length=vs.length->KT H ((ks.map fun k=>k.map Sum.inl).zip vs) xs->Al K H (xs.map (·.2.1)) ks
 | [],vs,xs,hl,r=>by
  rw[xW,zip_nil_left] at r;cases r;exact .nil
 | k::ks,[],xs,hl,r=>by simp at hl
 | k::ks,v::vs,xs,hl,r=>by
  rw[zH,jZ] at r;cases r with
  | cons h t=>
   obtain⟨h1,h2,_⟩:=h;rw[zH];refine .cons (.inl (.inl ?_)) (b3t (by simpa using hl) t)
   rw[h2,b4j]
section
variable {X:Cx}{e:Expr}{pos p:Pos}{fa:FA}
theorem a0O (hc:X.calm=true):CallR X (.builtin "sorted") (fun xs H Q=>∃p ks,xs=[.ref p]/\SrcT X.K H p ks/\ks.length<64/\(∀k∈ks,k≠[])/\∀l bs,H l=none->Al X.K H bs (sortK ks)->Q (.ref l) (upd H l (.lst (bs.map V.ref)))):=by
 intro pins s σ H xs us Q I r h;obtain⟨p,ks,rfl,src,h64,ne,q⟩:=h;obtain⟨u,rfl,ru⟩:=vals1 r;cases ru;refine yA kind_sorted plain_sorted entry_sorted (args_sorted1 _) ?_;unfold Builtin.«sorted»;refine zA (m:=checkCount "sorted" 1 1 _) (zB ?_);rcases src with ⟨as,hq,al⟩|⟨vs,hq,hl⟩
 ·have len:=al.len;obtain⟨its,rv,⟨o,m,h1,h2,_,h4⟩,hz⟩:=I.list hq;have ei:=P2 rv;subst ei;have hL:s.heap.IsList p (as.map Value.ref).toArray:=⟨o,h1,h2,m,h4⟩;have sz:(as.map Value.ref).length<=sizeLine:=by rw[zC,len,jM];walk_at "o"
  refine zA (collect_list hL ?_ sz);refine zA (wpAny_newList ?_ sz);have I1:Inv X pins σ H {s with heap:=(s.heap.push (seqObj "list" #[] 0)).update s.heap.objs.size (PySem.Obj.mapSeq (· ++ (as.map Value.ref).toArray))}:=I.kept (t':=s.toks) fun b o e=>by
   rw[xN _ _ _ _ (zT (zW e))];exact zD _ e
  refine zA (qI (zF (a1t I1 al ne h64 q) (fun _ s' x=>?_) fun _ _ z=>z));exact zB ⟨_,rfl,x⟩
 ·obtain⟨z,hs,xs,rel,o,es,h1,h2,h3,h4,h5⟩:=(show ObjOk X.prog X.w H s.heap p (.dT ((ks.map fun k=>k.map Sum.inl).zip vs)) from I.hok p _ hq);have al:=b3t (K:=X.K) hl rel;have len:=al.len;have sz:es.size=ks.length:=by rw[<-len,zC,<-jY,h4,zC]
  have szl:es.size<=sizeLine:=by rw[sz,jM];walk_at "o"
  refine zA (PySem.W.kdu_collect (a7h (es:=es) hs) (show X.A.in1.handled=none from I.ok.hd hc) ⟨o,h1,h2,h3⟩ szl fun h' tk acc hk hacc=>?_);have ea:acc.toList=(xs.map (·.2.1)).map Value.ref:=by
   have e0:(xs.map (·.2.1)).map Value.ref=es.toList.map (·.key):=by rw[h4,qF,qF];rfl
   rw[e0];apply xT;intro i;rw[xA,zV,xA]
   by_cases hi:i<es.size
   ·have hi2:i<acc.size:=by rw[hacc.1];exact hi
    obtain⟨e,he,hv⟩:=hacc.2 i acc[i] (by simp[hi2])
    rw[he,Array.getElem?_eq_getElem hi2,hv];rfl
   ·rw[xR (by rw[hacc.1];walk_at "o"),xR (by walk_at "o")];rfl
  rw[ea];refine zA (wpAny_newList ?_ (by rw[zC,len,<-sz];exact szl))
  have I1:Inv X pins σ H {s with heap:=h',toks:=tk}:=I.kept (t':=tk) hk
  refine zA (qI (zF (a1t I1 al ne h64 q) (fun _ s' x=>?_) fun _ _ z=>z));exact zB ⟨_,rfl,x⟩
def inlK:List Key->Option (List Int)
 | []=>some []
 | Sum.inl i::k=>(inlK k).map fun j=>i::j
 | Sum.inr _::_=>none
def inlKs:List (List Key)->Option (List (List Int))
 | []=>some []
 | k::ks=>(inlK k).bind fun j=>(inlKs ks).map fun js=>j::js
theorem a6t:∀{k:List Key} {j:List Int},inlK k=some j->k=j.map Sum.inl
 | [],j,e=>by cases e;rfl
 | Sum.inr _::_,j,e=>by cases e
 | Sum.inl i::k,j,e=>by
  rw[inlK] at e;cases e1:inlK k with
  | none=>rw[e1] at e;cases e
  | some js=>rw[e1] at e;cases e;rw[zH,<-a6t e1]
theorem a48:∀{ks:List (List Key)} {js:List (List Int)},inlKs ks=some js->ks=js.map fun k=>k.map Sum.inl
 | [],js,e=>by cases e;rfl
 | k::ks,js,e=>by
  rw[inlKs] at e;cases e1:inlK k with
  | none=>rw[e1] at e;cases e
  | some j=>
   cases e2:inlKs ks with
   | none=>rw[e1,e2] at e;cases e
   | some js'=>rw[e1,e2] at e;cases e;rw[zH,<-a48 e2,<-a6t e1]
def keysOf:D->Option (List (List Int))
 | .dT ks _=>inlKs ks
 | .lst ds=>tupsOf ds
 | _=>none
def gSortT (d:D):Option W:=(keysOf d).bind fun ks=>if ks.length<64/\(∀k∈ks,k≠[]) then some (.o (.lst ((sortK ks).map tupI))) else none
def gSort (d:D):Option W:=match gSortI d with
 | some w=>some w
 | none=>gSortT d
theorem a5W {K:PySem.W.Frag}{A:Av}{H:Hp}{d:D}{ks:List (List Int)}{v:V}(e:keysOf d=some ks)(h:DenR K A H d v):∃p,v= .ref p/\SrcT K H p ks:=by
 cases d with
 | dT js xs=>
  obtain⟨a,vs,rfl,hq,hl,l⟩:=h;have ej:=a48 e;subst ej;exact⟨a,rfl,.inr ⟨vs,hq,by rw[<-c6 l,<-hl,zC]⟩⟩
 | lst ds=>
  obtain⟨a,vs,rfl,hq,l⟩:=h;obtain⟨as,rfl,al⟩:=a0h e l;exact⟨a,rfl,.inl ⟨as,hq,al⟩⟩
 | _=>cases e
theorem a89:PrA X (k1 gSortT) (fun xs H Q=>∃p ks,xs=[.ref p]/\SrcT X.K H p ks/\ks.length<64/\(∀k∈ks,k≠[])/\∀l bs,H l=none->Al X.K H bs (sortK ks)->Q (.ref l) (upd H l (.lst (bs.map V.ref)))):=pr1 fun A d w v H Q e h q=>by
 unfold gSortT at e;cases e1:keysOf d with
 | none=>rw[e1] at e;cases e
 | some ks=>
  rw[e1] at e;simp only[bind_some] at e;split at e
  ·rename_i hl;cases e;obtain⟨a,rfl,src⟩:=a5W e1 h;exact⟨a,ks,rfl,src,hl.1,hl.2,fun l bs hp al=>q _ _ (j7 hp _) (v7 hp al.den)⟩
  ·cases e
theorem a0E:PrA X (k1 gSort) (fun xs H Q=>(∃(p:Addr) (ns:List Int),xs=[.ref p]/\SqL X.K H p (ns.map V.int)/\ns.length<64/\∀l,H l=none->Q (.ref l) (upd H l (.lst ((sortI ns).map V.int))))\/
  ∃p ks,xs=[.ref p]/\SrcT X.K H p ks/\ks.length<64/\(∀k∈ks,k≠[])/\∀l bs,H l=none->Al X.K H bs (sortK ks)->Q (.ref l) (upd H l (.lst (bs.map V.ref)))):=fun A ds w vs H Q hA e l q=>by
 match ds,e,l with
 | [d],e,l=>
  have e:gSort d=some w:=e;unfold gSort at e;cases e1:gSortI d with
  | some w'=>rw[e1] at e;cases e;exact .inl (b0Z A [d] w vs H Q hA e1 l q)
  | none=>rw[e1] at e;exact .inr (a89 A [d] w vs H Q hA e l q)
theorem D2 {k:Nat}(hr:Room k X.A)(hc:X.calm=true)(hm:X.mg "sorted"=none)(ha:QA X [e] fa)(hv:bootBuiltins "sorted"=some (.builtin "sorted"):=by rfl)(hg:Gl X "sorted":=by rfl)
  (he:starEach [e] X.env=(false,eval e X.env)::starEach [] X.env:=by rfl):QX X (.Call (.Name "sorted" p) [e] [] pos) (fCall (k1 gSort) fa):=a2h (a0w.or (a0O hc)) a0E hv hm ha hg (by decide) (by decide) he rfl
end
section
variable {prog:Program}{w:World}{A:Around}{R:Result->Shared->Prop}{s:Shared}
theorem a5M {kx vx tg iter:Expr}{ifs:List Expr}{scope:Scope}{pos:Pos}{it:Value}{D:Addr}{env:Env}(I:Nat->Shared->Prop)
  (turn:∀n s,I n s->wpAny (model prog w) A (pyNext it) (fun r s1=>match r with
   | none=>R (.ok .next) s1
   | some v=>wpAny (model prog w) A (letOwnedTupleGo tg it v) (fun _ s2=>wpAny (model prog w) A (assign tg env v) (fun _ s3=>
     wpAny (model prog w) A (forIn ifs true fun c r=>if r=true then do let ok <-isTrue c env (eval c env);pure (ForInStep.yield ok) else pure (ForInStep.yield r)) (fun ok s4=>
      if ok=true then wpAny (model prog w) A (eval kx env) (fun kv s5=>wpAny (model prog w) A (eval vx env) (fun vv s6=>wpAny (model prog w) A (dictSet D kv vv) (fun _ s7=>∃m,m<n/\I m s7) Fa s6) Fa s5) Fa s4
      else ∃m,m<n/\I m s4) Fa s3) Fa s2) Fa s1) Fa s)
  (n:Nat) (h:I n s):codeAny (model prog w) A (.compLoop (.DictComp kx vx [⟨tg,iter,ifs,0⟩] scope pos) 0 it (.ref D) env) R s:=by
 refine codeAny_loop rfl I (fun n s hI=>?_) n h;show wpAny _ A ((compTurn (.DictComp kx vx [⟨tg,iter,ifs,0⟩] scope pos) 0 it (.ref D) env).onRaise (fun x=>do noteFrame x env;theTreesLotGoes x)) _ _ s
 refine wpAny_noted ?_;rw[compTurn_dict];refine zA (jO (zA (zF (turn n s hI) (fun r s1 h1=>?_) fun _ _ z=>z.elim)));cases r with
 | none=>exact zB h1
 | some v=>
  refine zA (zF h1 (fun _ s2 h2=>zA (zF h2 (fun _ s3 h3=>zA (zF h3 (fun ok s4 h4=>?_) fun _ _ z=>z.elim)) fun _ _ z=>z.elim)) fun _ _ z=>z.elim);cases ok with
  | true=>
   rw[if_pos rfl] at h4 ⊢;exact zA (zA (zF h4 (fun kv s5 h5=>zA (qI (zF h5 (fun vv s6 h6=>zA (jO (qI (zF h6 (fun _ s7 h7=>zB ⟨rfl,h7⟩) fun _ _ z=>z.elim)))) fun _ _ z=>z.elim))) fun _ _ z=>z.elim))
  | false=>
   rw[if_neg zP] at h4 ⊢
   first|exact zB ⟨rfl,h4⟩|exact zA (zB (zB ⟨rfl,h4⟩))
end
section
variable {X:Cx}{pins:List (Addr×PySem.Obj)}{σ:L2.St}{H:Hp}{s:Shared}{a b:Addr}{v:V}{r:Value}{A:Around}{E:Value->Shared->Prop}
theorem a74 {kvs:List (List Key×V)}{k:List Key}{Q:Unit->Shared->Prop}(hu:A.units+1<cLine)(I:Inv X pins σ H s)(e:H a=some (.dT kvs))(eb:H b=some (.tup (k.map kV)))(l:kvs.length<sizeLine)(rv:RelV v r)(h:∀s',Inv X pins σ (upd H a (.dT (putK kvs k v))) s'->Q () s'):
  wpAny (model X.prog X.w) A (dictSet a (.ref b) r) Q E s:=by
 obtain⟨z,hd,xs,rel,dd⟩:=a6a I.hok (.inl e);have hz:xs.length<=sizeLine:=by rw[<-xJ rel];exact z
 have hl:(putK kvs k v).length<=sizeLine:=by have:=V9 kvs k v;walk_at "o"
 refine a28 (show A.units<cLine from Nat.lt_of_succ_lt hu) (a5F I.hok eb) dd hz fun h' dd' hs=>h _ ?_;obtain⟨q,es,hq,h2,h3,h4,_,h5⟩:=dd';refine a4s I (by rw[e];exact True.intro) hs ⟨q,hq⟩ ⟨hl,hd,_,(rel.put k eb rv).keeps fun c ys ec=>?_,q,es,hq,h2,by rw[xJ (rel.put k eb rv)];exact h3,h4,h5⟩
 rw[g8 (b2U ec e (fun z=>nomatch z))];exact ec
end
def putTo (k j:Nat) (p:List W×Ev):Option Ev:=(takeAll p.2 p.1).bind fun q=>(dkeys q.1).bind fun kk=>match q.2[j]? with
 | some (some (.v d))=>match ownAt q.2 k with
  | some (.dT ks zs)=>if ks.length<lim/\q.1.length<=lim then some (setOwn q.2 k (.dT (putKs ks kk) (putX ks zs kk d))) else none
  | _=>none
 | _=>none
def turnCD (k:Nat) (gf:FG) (t:FT) (fa:FA) (j:Nat):D->Ev->Option Ev:=fun x ρ=>(gf x ρ).bind fun ρ1=>(t ρ1).bind fun p=>if p.1=true then(fa p.2).bind (putTo k j) else some p.2
def fDComp (fi:FI) (li:Option (Nat×Nat)) (js:List (Option Nat)) (gf:FG) (t:FT) (fa:FA) (j:Nat):FX:=fun ρ=>(fi ρ).bind fun p=>if liB li p.2=true then
  (loopC (turnCD js.length gf t fa j) p.1 (capE (li.map (·.2)) js p.2++[some (.l (.dT [] []))])).bind fun ρe=>match ownAt ρe js.length with
   | some (.dT kz ys)=>backG li js ρe p.2 (.dT kz ys)
   | _=>none
 else none
section
variable {X:Cx}{pins:List (Addr×PySem.Obj)}{σ:L2.St}{H2:Hp}{s2:Shared}{scope:Scope}{cl:List (Str×Addr)}{N:List Str}{js:List (Option Nat)}{fp:List Addr}{it:Addr}{tn:Nat->Heap->Prop}{J:It}{vx tg iter:Expr}{es:List Expr}{kt:Nat}{kp0:Pos}{fa:FA}{j:Nat}{ifs:List Expr}{pos:Pos}{P:List (D×V)}{O:Av}{L:List (Option Nat×Addr)}{ρ ρe:Ev}{xs:List D}{gf:FG}{t:FT}{Qq:Value->Shared->Prop}{use:Option (Value->Sem Unit)}{li:Option (Nat×Nat)}
theorem a79 (hcalm:X.calm=true)(I2:Inv X pins σ H2 s2)(T:Turn X.prog X.w X.K tg J fp it tn)(st2:tn 0 s2.heap)(f2:∀y∈fp,FpOk X pins H2 y)(b:Blk X scope cl N js)(r:Rep X P O L ρ σ H2)(hl:LiOk li js ρ)(wk:Wks X.K P xs J)
  (hg:∀C,QG (blk X scope cl s2 H2 fp C (N++[accN])) tg gf) (ht:∀C,Tst (blk X scope cl s2 H2 fp C (N++[accN])) ifs t) (hu:X.A.units+1<cLine) (hka:∀C,QA (blk X scope cl s2 H2 fp C (N++[accN])) es fa) (hv:∀C,PE (blk X scope cl s2 H2 fp C (N++[accN])) vx (tVar j))
  (e:loopC (turnCD js.length gf t fa j) xs (capE (li.map (·.2)) js ρ++[some (.l (.dT [] []))])=some ρe)
  (fin:∀(Dd C:Addr) (σe:L2.St) (He:Hp) (s1:Shared),H2 Dd=none->s2.heap.objs.size<=C->Inv (blk X scope cl s2 H2 fp C (N++[accN])) [] σe He s1->Rep (blk X scope cl s2 H2 fp C (N++[accN])) P (fun b=>AvO O ρ σ b/\¬Capd ρ σ js b) ((some js.length,Dd)::lentL li σ) ρe σe He->
   compPost (model X.prog X.w) X.A X.xe use Qq (.ref Dd) C (.ok .next) s1):
  wpAny (model X.prog X.w) X.A newDict (fun acc s3=>wpAny (model X.prog X.w) X.A (newFunctionEnv scope X.env.globals cl [] X.env.qual none .none (some X.env)) (fun cenv s4=>
   codeAny (model X.prog X.w) X.A (.compStart (.DictComp (.Tuple es kt kp0) vx [⟨tg,iter,ifs,0⟩] scope pos) 0 (.ref it) acc {cenv with scope:=relabel scope X.env}) (compPost (model X.prog X.w) X.A X.xe use Qq acc cenv.locals) s4) X.xe s3) X.xe s2:=
 a3n (new:=newDict) (ob0:={cls:=.type "dict",dict:=none,data:=.dict #[]}) (o0:=.dT []) (d0:=.dT [] []) (stp:=fun ρ=>(fa ρ).bind (putTo js.length j)) (el:=fun env a s K=>wpAny (model X.prog X.w) X.A (eval (.Tuple es kt kp0) env) (fun kv s5=>wpAny (model X.prog X.w) X.A (eval vx env) (fun vv s6=>wpAny (model X.prog X.w) X.A (dictSet a kv vv) (fun _ s7=>K s7) Fa s6) Fa s5) Fa s)
  (fun h=>qD h) (fun _ _ _ e=>⟨[],e,rfl,k5⟩) (I2.hok.laid (fun y o e=>zD _ e) (zE _) (a5D s2.heap I2.big)) (fun I t n h=>a5M I t n h) codeAny_compStart_dict
  (fun{C Dd qs σ6 H7 s7 O' L' ρ2 ρt K} hL I7 rp7 e1 back=>by
   obtain⟨⟨ws0,ρ3⟩,e4,e1⟩:=obs e1;simp only[putTo] at e1;obtain⟨⟨ds,ρ4⟩,e5,e1⟩:=obs e1;dsimp only at e1;cases e6:dkeys ds with
   | none=>rw[e6] at e1;cases e1
   | some kk=>
    rw[e6] at e1;simp only[bind_some] at e1;split at e1
    ·rename_i d e7;split at e1
     ·rename_i kz zs e8;split at e1
      ·rename_i hl;cases e1;refine zF (a55 (hka C).to _ s7 σ6 H7 (fun v H9=>∃p H8,v= .ref p/\Rep (blk X scope cl s2 H2 fp C (N++[accN])) P O' L' ρ4 σ6 H8/\H8 p=none/\H9=upd H8 p (.tup (kk.map kV))) I7 ⟨P,O',L',ρ2,ws0,ρ3,rp7,e4,fun us H8 r8 l8=>?_⟩) (fun u8 s8 ⟨v8,H9,I9,r9,p,H8,ev8,rp8,hp8,eh9⟩=>?_) fun _ _ z=>z
       ·obtain⟨r9,l9,_⟩:=n8 r8 e5 l8;refine⟨?_,fun p hp=>⟨p,H8,rfl,r9,hp,by rw[X3 e6 l9]⟩⟩
        rw[<-c6 l9];exact qC hl.2 t7
       ·subst ev8 eh9;cases(show u8=Value.ref p from r9);have rp9:=rp8.grow (j7 hp8 (.tup (kk.map kV)));obtain⟨v10,sv,dv⟩:=rp9.slot j _ e7;refine zF (hv C _ s8 σ6 _ (fun v H10=>v=v10/\H10=upd H8 p (.tup (kk.map kV))) I9 ⟨v10,sv,rfl,rfl⟩) (fun u10 s10 ⟨v11,H10,I10,r10,ev11,eh10⟩=>?_) fun _ _ z=>z;subst ev11 eh10;obtain⟨d0,q1,q2⟩:=rp9.lnd js.length Dd hL;have e8':=e8;unfold ownAt at e8';rw[q1] at e8';cases e8';obtain⟨a,h1,vs,h4,hkl,lz⟩:=rp9.obj q1 rfl;rw[q2] at h1;cases h1;have hlv:kz.length=vs.length:=by rw[hkl,c6 lz]
        have kl:(kz.zip vs).length<sizeLine:=by
         rw[List.length_zip,hlv,Nat.min_self,<-hlv];exact zK hl.1 t7
        refine a74 (X:=(blk X scope cl s2 H2 fp C (N++[accN]))) (A:=X.A) hu I10 h4 (k:=kk) (b:=p) p9 kl r10 fun s11 I11=>?_;rw[a6H hlv] at I11;have g0:∀u,Go (AvO O' ρ4 σ6) (AvO O' ρ4 σ6) (fun b=>b=Dd) (upd H8 p (.tup (kk.map kV))) (upd (upd H8 p (.tup (kk.map kV))) Dd u):=fun u=>⟨fun b o eb nb=>by rw[g8 nb];exact eb,fun b z=>by rw[z];exact⟨.inr ⟨js.length,_,_,q1,rfl,q2⟩,_,h4,trivial⟩,fun b z=>.inl z⟩
        exact back I11 (rp9.mut (d:=.dT (putKs kz kk) (putX kz zs kk d)) e8 q2 (fun b o eb nb=>by rw[g8 nb];exact eb) ⟨_,p9,a1D hkl,w4 (g0 _) _ _ (a5t lz dv)⟩)
      ·cases e1
     ·cases e1
    ·cases e1) hcalm I2 T st2 f2 b r hl wk.b hg ht e fin
end
section
variable {X:Cx}{pins:List (Addr×PySem.Obj)}{σ σe:L2.St}{H2 He:Hp}{s2:Shared}{scope:Scope}{cl:List (Str×Addr)}{N:List Str}{js:List (Option Nat)}{fp:List Addr}{Dd C:Addr}{vx tg iter:Expr}{es:List Expr}{kt:Nat}{kp0:Pos}{fa:FA}{j:Nat}{kz:List (List Key)}{ifs:List Expr}{pos:Pos}{P:List (D×V)}{O:Av}{L:List (Option Nat×Addr)}{ρ ρe:Ev}{w:W}{ys:List D}{fi:FI}{gf:FG}{t:FT}{li:Option (Nat×Nat)}
theorem a8d {Q:VK}{Qq:Value->Shared->Prop}{use:Option (Value->Sem Unit)}{H:Hp}{s:Shared}{newPos:Pos}(hc:X.calm=true)(b:Blk X scope cl N js)(hj:liJ li js=true)(hi:QI X tg iter fi)
  (hg:∀s2 H2 fp C,QG (blk X scope cl s2 H2 fp C (N++[accN])) tg gf) (ht:∀s2 H2 fp C,Tst (blk X scope cl s2 H2 fp C (N++[accN])) ifs t) (hu:X.A.units+1<cLine) (hka:∀s2 H2 fp C,QA (blk X scope cl s2 H2 fp C (N++[accN])) es fa) (hv:∀s2 H2 fp C,PE (blk X scope cl s2 H2 fp C (N++[accN])) vx (tVar j)) (hs:∀x,foldedSetIterable iter X.env x=pure x)
  (I:Inv X pins σ H s) (h:tX X (fDComp fi li js gf t fa j) σ H Q)
  (fin:∀(C:Addr) (v:V) (He:Hp) (s1:Shared),Q v He->(∀h9:Heap,(∀y,y≠C->h9.get? y=s1.heap.get? y)->Inv X pins σ He {s1 with heap:=h9})->FpOk X pins He C->(∃m,s1.heap.Ns C m)->∀vv,RelV v vv->compPost (model X.prog X.w) X.A X.xe use Qq vv C (.ok .next) s1):
  wpAny (model X.prog X.w) X.A (comprehension (.DictComp (.Tuple es kt kp0) vx [⟨tg,iter,ifs,0⟩] scope pos) scope X.env newPos newDict false (eval iter X.env) use) Qq X.xe s:=by
 obtain⟨P,O,L,ρ,w,ρ',r,e,q⟩:=h;unfold fDComp at e;obtain⟨⟨xs,ρ1⟩,e1,e⟩:=obs e;dsimp only at e;split at e
 ·rename_i hb;cases e2:loopC (turnCD js.length gf t fa j) xs (capE (li.map (·.2)) js ρ1++[some (.l (.dT [] []))]) with
  | none=>rw[e2] at e;cases e
  | some ρe=>
   rw[e2] at e;simp only[bind_some] at e;split at e
   ·rename_i kz ys ey;have hl:=b2p hj hb;refine wpAny_comprehension_free rfl hs b.clos b.kind b.nms ?_;refine zF (hi.to pins s σ H _ I ⟨P,O,L,ρ,xs,ρ1,r,e1,fun J H1 P' r1 hh wk=>(⟨P',r1,hh,wk⟩:∃P',Rep X P' O L ρ1 σ H1/\Holds P' P/\Wks X.K P' xs J)⟩) (fun v s1 h1=>zF h1 (fun itv s2 h2=>?_) fun _ _ z=>z) fun _ _ z=>z;obtain⟨it,fp,tn,J,H2,rfl,I2,T,st2,f2,P',r1,hh,wk⟩:=h2;refine a79 hc I2 T st2 f2 b r1 hl wk (hg s2 H2 fp) (ht s2 H2 fp) hu (hka s2 H2 fp) (hv s2 H2 fp) e2 fun Dd C σe He s3 hn leC I1 rp=>?_;obtain⟨Hx,rx,sx,dx⟩:=a4i r1 hl hn rp ey e;obtain⟨m,hm,_⟩:=id I1.loc;refine fin C (.ref Dd) He s3 (q _ Hx He (rx.holds hh) sx dx) (fun h9 k9=>a2H I2 f2 leC I1 k9) ?_ ⟨m,hm⟩ (.ref Dd) rfl;exact I2.fpOk leC I1.free
   ·cases e
 ·cases e
theorem a8Z {k:Nat}(j:Nat){x:Str}{px:Pos}(hr:Room k X.A)(hc:X.calm=true)(b:Blk X scope cl N js)(hi:QI X tg iter fi)(hg:∀s2 H2 fp C,QG (blk X scope cl s2 H2 fp C (N++[accN])) tg gf)(ht:∀s2 H2 fp C,Tst (blk X scope cl s2 H2 fp C (N++[accN])) ifs t)(hka:∀s2 H2 fp C,QA (blk X scope cl s2 H2 fp C (N++[accN])) es fa)
  (hv:∀s2 H2 fp C,PE (blk X scope cl s2 H2 fp C (N++[accN])) (.Name x px) (tVar j)) (hj:liJ li js=true:=by rfl) (hs:∀x,foldedSetIterable iter X.env x=pure x:=by intro _;rfl):QX X (.DictComp (.Tuple es kt kp0) (.Name x px) [⟨tg,iter,ifs,0⟩] scope pos) (fDComp fi li js gf t fa j):=⟨fun pins s σ H Q I h=>by
 rw[arm_eval_DictComp];refine a8d (use:=none) hc b hj hi hg ht (a3e hr) hka hv hs I h fun C v He s1 hq back fp ⟨m,hm⟩ vv rv=>?_
 exact⟨m,hm,fun h9 k9=>⟨v,He,back h9 fun y ny=>k9.2 y ny,rv,hq⟩⟩⟩
end
section
variable {X:Cx}{a b e o:Expr}{es:List Expr}{pos p p2:Pos}{f g h:FX}{t u:FT}{fa:FA}{x:Str}
theorem a7z:OpR X (binaryOp .Mult) (fun x y H Q=>∃l k xs,x= .ref l/\y= .int k/\SqL X.K H l xs/\-(2^63)<=k/\k<2^63/\xs.length*k.toNat<=sizeLine/\∀p,H p=none->Q (.ref p) (upd H p (.lst (List.replicate k.toNat xs).flatten))):=by
 intro pins s σ H x y v u Q I rx ry h;obtain⟨l,k,xs,rfl,rfl,hH,h1,h2,hz,q⟩:=h;cases rx;obtain⟨t,rfl⟩:=ry;obtain⟨its,r,⟨⟨c1,d1,e1,s1⟩,n,e,k1,_,w1⟩,_⟩:=I.list hH;simp only at k1 w1;subst k1 w1;have hl:=r.length;have hlen:its.toArray.size*k.toNat<=sizeLine:=by rw[zO,<-hl];exact hz
 have hcap:¬its.toArray.size*k.toNat>(2^63-1)/8:=by
  have:(sizeLine:Nat)<=(2^63-1)/8:=by decide
  walk_at "o"
 have hfit:¬(!Builtin.List.listFitsIndex k)=true:=by rw[fitsIndex_both h1 h2];exact zP
 have hlong:¬Builtin.List.listTooLong (its.toArray.size*k.toNat)=true:=by rw[notLongL hlen];exact zP
 have hnew:List.foldl (fun x1 x2=>x1++x2) #[] (List.replicate (if its.toArray.isEmpty=true then 0 else k.toNat) its.toArray)=(List.replicate k.toNat its).flatten.toArray:=by
  have f0:∀m:Nat,List.foldl (fun x1 x2=>x1++x2) #[] (List.replicate m its.toArray)=(List.replicate m its).flatten.toArray:=fun m=>by
   have:=a1f its m []
   rw[nil_append] at this;exact this
  rw[f0];cases its with
  | nil=>simp
  | cons a r'=>rw[if_neg (by simp)]
 refine wpAny_binaryOp_repeat_ref (T:="list") (U:="int") (by decide) ⟨_,e,rfl⟩ (fun s'=>typeIs_int s' k t) noFill_list_mul F.fills_int_mul F.slot_int_rmul repeat_list F.slot_int_index.lookup
  (call_meets F.slot_int_rmul (typeIs_int s k t) F.entry_int_rmul (F.args_int_rmul_2 _ _) (lm_int_rmul_list_any k t l its.toArray n d1 s1)
   ⟨e,rfl,⟨_,e,rfl⟩,call_meets F.slot_list_mul ⟨_,e,rfl⟩ F.entry_list_mul (F.args_list_mul_2 _ _) (lm_list_mul_any l its.toArray n d1 s1 k t hfit hcap hlong) ⟨e,?_⟩⟩)
 rw[hnew];exact⟨.ref _,_,I.lnew (t':=s.toks) (r.rep k.toNat) (by rw[a7I,Nat.mul_comm];exact hz),rfl,q _ I.fresh⟩
def oRep (x y:D):Option W:=match x,y with
 | .lst xs,.int k=>if(-(2^63)<=k/\k<2^63)/\xs.length*k.toNat<=lim then some (.o (.lst (List.replicate k.toNat xs).flatten)) else none
 | _,_=>none
theorem a0V {K:PySem.W.Frag}{A:Av}{H:Hp}{xs:List D}{vs:List V}(l:DenL K A H xs vs):∀n:Nat,DenL K A H (List.replicate n xs).flatten (List.replicate n vs).flatten
 | 0=>by simp;exact k5
 | n+1=>by rw[yD,yD,jP,jP];exact t5 l (a0V l n)
theorem a2c (ha:QX X a f)(hb:QX X b g):QX X (.BinOp a .Mult b pos) (fBin oRep f g):=Q9 a7z (by
 intro A x y w v u H Q _ e hx hy q;unfold oRep at e;split at e
 ·rename_i xs k;split at e
  ·rename_i hk;cases e;obtain⟨a,vs,rfl,hq,l⟩:=hx;exact⟨a,k,vs,rfl,l5 hy,hq,hk.1.1,hk.1.2,by rw[<-c6 l];exact qC hk.2 t7,fun p hp=>q _ _ (j7 hp _) (v7 hp (a0V l _))⟩
  ·cases e
 ·cases e) ha hb
def oBits:D->Option W
 | .int i=>some (.v (.int (Builtin.Int.intBits i:Nat)))
 | _=>none
def fDPutT (fd:FX) (fk:FA) (fv:FX):FS:=fun ρ=>(fv ρ).bind fun p=>(fd p.2).bind fun q=>match q.1 with
 | .r i=>(fk q.2).bind fun z=>(takeAll z.2 (p.1.fz::z.1)).bind fun y=>match y.1 with
  | d::ds=>(dkeys ds).bind fun k=>match ownAt y.2 i with
   | some (.dT ks xs)=>if ks.length<lim/\ds.length<=lim then some (.nx (setOwn y.2 i (.dT (putKs ks k) (putX ks xs k d)))) else none
   | _=>none
  | _=>none
 | _=>none
theorem a5A {k:Nat}{x1}{p1 p2:Pos}(hr:Room k X.A)(hd:QX X o f)(ha:QA X es fa)(hv:QX X e g)(hs:swapsWith e (some (.Subscript o (.Tuple es x1 p1) p2)) pos.line X.env=pure false:=by rfl):
  QS X (.Assign [.Subscript o (.Tuple es x1 p1) p2] e pos) (fDPutT f fa g):=by
 refine⟨PS.weak (b1I (a3e hr) hd.to (a55 ha.to) hv.to hs) fun E σ H h0=>tSe h0 fun P O L ρ r rp e q=>?_⟩;unfold fDPutT at e;obtain⟨⟨w1,ρ1⟩,e1,e⟩:=obs e;dsimp only at e;obtain⟨⟨w2,ρ2⟩,e2,e⟩:=obs e;dsimp only at e;split at e
 ·rename_i i;obtain⟨⟨ws,ρ3⟩,e3,e⟩:=obs e;dsimp only at e;obtain⟨⟨dl,ρ4⟩,e4,e⟩:=obs e;dsimp only at e;split at e
  ·rename_i d ds;cases e5:dkeys ds with
   | none=>rw[e5] at e;cases e
   | some kk=>
    rw[e5] at e;simp only[bind_some] at e;split at e
    ·rename_i ks xs e6;split at e
     ·rename_i hl;cases e;refine⟨P,O,L,ρ,w1,ρ1,rp,e1,fun v H1 H1' r1 s1 d1=>?_⟩;obtain⟨P',r1',k1⟩:=hold (r1.grow s1) (d1.fz r1 s1);refine⟨P',O,L,ρ1,_,ρ2,r1',e2,fun v2 H2 H2' r2 s2 d2=>?_⟩;have d2:σ[i]? =some (some v2):=d2;refine⟨P',O,L,ρ2,ws,ρ3,r2.grow s2,e3,fun us H3 r3 l3=>?_⟩;obtain⟨r3',d3⟩:=k1 _ H3 r3;obtain⟨r4,l4,_⟩:=n8 (vs:=v::us) r3' e4 ⟨v,us,rfl,d3,l3⟩;rw[DenL] at l4;obtain⟨v',us',ev,hd',ld⟩:=l4;cases ev;have ek:=X3 e5 ld;refine⟨?_,fun p hp=>?_⟩
      ·rw[<-c6 ld];exact qC hl.2 t7
      ·have sm:=j7 hp (.tup us);have r5:=r4.grow sm;obtain⟨w0,q0,ow⟩:=w6 e6;obtain⟨a,h1,vs,h4,hkl,lz⟩:=r5.obj q0 ow;rw[d2] at h1;cases h1;have hlv:ks.length=vs.length:=by rw[hkl,c6 lz]
       refine⟨a,_,rfl,DPut.t (k:=kk) h4 (by rw[<-ek];exact p9) ?_,?_⟩
       ·rw[List.length_zip,hlv,Nat.min_self,<-hlv];exact zK hl.1 t7
       ·rw[a6H hlv];have g0:∀u,Go (AvO O ρ4 σ) (AvO O ρ4 σ) (fun b=>b=a) (upd H3 p (.tup us)) (upd (upd H3 p (.tup us)) a u):=fun u=>⟨fun b o eb nb=>by rw[g8 nb];exact eb,fun b z=>by rw[z];exact⟨.inr ⟨i,w0,_,q0,ow,d2⟩,_,h4,trivial⟩,fun b z=>.inl z⟩
        exact q σ _ (r5.mut (d:=.dT (putKs ks kk) (putX ks xs kk d)) e6 d2 (fun b o eb nb=>by rw[g8 nb];exact eb) ⟨_,p9,a1D hkl,w4 (g0 _) _ _ (a5t lz (V8 sm hd'))⟩)
     ·cases e
    ·cases e
  ·cases e
 ·cases e
end
def kd1:Key->D
 | .inl i=>.int i
 | .inr x=>.str x
def keyD (k:List Key):D:=.tup (k.map kd1)
theorem b1S {K:PySem.W.Frag}{A:Av}{H:Hp}(k:Key):Den K A H (kd1 k) (kV k):=by
 cases k with
 | inl i=>exact u5.mpr rfl
 | inr x=>exact a1V.mpr rfl
theorem a5B {K:PySem.W.Frag}{A:Av}{H:Hp}:∀ks:List Key,DenL K A H (ks.map kd1) (ks.map kV)
 | []=>k5
 | k::ks=>by rw[zH,zH];exact j8 (b1S k) (a5B ks)
inductive KeysAt (H:Hp):List (List Key)->List Addr->Prop where
 | nil:KeysAt H [] []
 | cons {k:List Key} {ks:List (List Key)} {b:Addr} {bs:List Addr} (q:H b=some (.tup (k.map kV))) (r:KeysAt H ks bs):KeysAt H (k::ks) (b::bs)
theorem a3r {H:Hp}:∀{kvs:List (List Key×V)} {xs:List (List Key×Addr×Value)},KT H kvs xs->KeysAt H (kvs.map (·.1)) (xs.map (·.2.1))
 | _,_,.nil=>.nil
 | _,_,.cons h t=>.cons h.2.1 (a3r t)
theorem KeysAt.den {K:PySem.W.Frag}{A:Av}{H:Hp}:∀{ks:List (List Key)} {bs:List Addr},KeysAt H ks bs->DenL K A H (ks.map keyD) (bs.map V.ref)
 | _,_,.nil=>k5
 | _,_,.cons q r=>by
  rw[zH,zH];refine j8 ?_ r.den;unfold keyD;rw[Den];exact⟨_,_,rfl,.inl (.inl q),a5B _⟩
section
variable {X:Cx}{a b e e' o:Expr}{es:List Expr}{pos p apos:Pos}{f g h:FX}{u:FT}{fa:FA}{x:Str}
theorem a5C (hc:X.calm=true):CallR X (.type "list") (fun vs H Q=>∃(p:Addr) (kvs:List (List Key×V)),vs=[.ref p]/\H p=some (.dT kvs)/\∀l bs,H l=none->KeysAt H (kvs.map (·.1)) bs->Q (.ref l) (upd H l (.lst (bs.map V.ref)))):=by
 intro pins s σ H vs us Q I r h;obtain⟨p,kvs,rfl,hq,q⟩:=h;obtain⟨u,rfl,ru⟩:=vals1 r;cases ru;obtain⟨z,hs,xs,rel,o,es,h1,h2,h3,h4,h5⟩:=(show ObjOk X.prog X.w H s.heap p (.dT kvs) from I.hok p _ hq);have len:kvs.length=xs.length:=xJ rel;have sz:es.size=xs.length:=by rw[<-jY,h4,zC]
 have szl:es.size<=sizeLine:=by rw[sz,<-len];exact z
 refine PySem.W.kdl_call (a7h (es:=es) hs) (I.ok.hd hc) ⟨o,h1,h2,h3⟩ szl fun h' tk acc c' hk hS hacc=>?_;have ea:acc.toList=(xs.map (·.2.1)).map Value.ref:=by
  have e0:(xs.map (·.2.1)).map Value.ref=es.toList.map (·.key):=by rw[h4,qF,qF];rfl
  rw[e0];apply xT;intro i;rw[xA,zV,xA]
  by_cases hi:i<es.size
  ·have hi2:i<acc.size:=by rw[hacc.1];exact hi
   obtain⟨e,he,hv⟩:=hacc.2 i acc[i] (by simp[hi2])
   rw[he,Array.getElem?_eq_getElem hi2,hv];rfl
  ·rw[xR (by rw[hacc.1];walk_at "o"),xR (by walk_at "o")];rfl
 refine⟨.ref s.heap.objs.size,_,I.laid (t':=tk) (o:=.lst ((xs.map (·.2.1)).map V.ref)) hk (zE _) ⟨?_,acc.toList,c',?_,by rw[Array.toArray_toList];exact hS⟩,rfl,q _ _ (I.hok.fresh (zE _)) (a3r rel)⟩
 ·rw[zC,zC,<-len];exact z
 ·rw[ea];exact a1e _
def gListD:D->Option W
 | .dT ks _=>some (.o (.lst (ks.map keyD)))
 | d=>gList d
theorem a7i {α:Type}:∀{ks:List α} {vs:List V},ks.length=vs.length->(ks.zip vs).map (·.1)=ks
 | [],_,_=>by simp
 | _::_,[],h=>by simp at h
 | k::ks,v::vs,h=>by rw[jZ,zH,a7i (by simpa using h)]
theorem b0g:PrA X (k1 gListD) (fun xs H Q=>(∃p ys,xs=[.ref p]/\(SqL X.K H p ys\/SqT X.K H p ys)/\∀l,H l=none->Q (.ref l) (upd H l (.lst ys)))\/
  ∃(p:Addr) (kvs:List (List Key×V)),xs=[.ref p]/\H p=some (.dT kvs)/\∀l bs,H l=none->KeysAt H (kvs.map (·.1)) bs->Q (.ref l) (upd H l (.lst (bs.map V.ref)))):=fun A ds w vs H Q hA e l q=>by
 match ds,e,l with
 | [d],e,l=>
  have e:gListD d=some w:=e
  by_cases hd:∃ks xs,d= .dT ks xs
  ·obtain⟨ks,xs,rfl⟩:=hd;cases e;obtain⟨v,rfl,h⟩:=denRL1 l;obtain⟨a,us,rfl,hq,hl,lu⟩:=h;refine .inr ⟨a,_,rfl,hq,fun l bs hp hk=>q _ _ (j7 hp _) (v7 hp ?_)⟩;rw[a7i (by rw[hl,c6 lu])] at hk
   exact hk.den
  ·have e':gList d=some w:=by
    cases d<;>first|exact e|exact absurd ⟨_,_,rfl⟩ hd
   exact .inl (b1P A [d] w vs H Q hA e' l q)
theorem N8 (hc:X.calm=true)(hm:X.mg "list"=none)(ha:QA X (e::es) fa)(hv:bootBuiltins "list"=some (.type "list"):=by rfl)(hg:Gl X "list":=by rfl)
  (he:starEach (e::es) X.env=(false,eval e X.env)::starEach es X.env:=by rfl) (hpl:(backTo pos (starEach es X.env)).any (·.1)=false:=by rfl):QX X (.Call (.Name "list" p) (e::es) [] pos) (fCall (k1 gListD) fa):=a5n (a4n.or (a5C hc)) b0g hv hm ha hg (by decide) (by decide) he hpl
theorem b03 {id:String}{m:Str}{r:V->List V->Hp->VK->Prop}{op:List D->List D->Option (W×List D)}(hs0:Slot "list" m id)(ht0:typeOf (.builtin id)=pure (.type "method_descriptor"))(hm:MtR X id r)(hk:PrM X op r)(hw:∀xs ds w ys,op xs ds=some (w,ys)->∃d,w= .v d)
  (ho:QX X o f) (ha:QA X (e::es) fa) (hbase:attributeBase o m X.env (eval o X.env)=eval o X.env)
  (hfew:((backTo pos (starEach (e::es) X.env)).all (fun x=>!x.1)&&(backToKw pos (keywordEach [] X.env)).all (fun x=>x.1.isSome)&&decide ((e::es).length+([]:List Keyword).length+(if([]:List Keyword).isEmpty then 0 else 1)<30))=true)
  (hline:(apos.endLine==pos.line)=true) (hs:starEach (e::es) X.env=(false,eval e X.env)::starEach es X.env) (hpl:(backTo pos (starEach es X.env)).any (·.1)=false):QX X (.Call (.Attribute o m apos) (e::es) [] pos) (fMut op f fa):=
 ⟨PE.weak (a9g PySem.F.plainAttrs_list hs0 ht0 hm ho.to ha.to hbase hfew hline hs hpl) (a4Z hk hw)⟩
theorem a7W (T:String)(hT:T="list"\/T="tuple")(l b:Addr)(items items2:Array Value)(n n2:Nat)(dd:Option Addr)(sl:Array (Option Value))(h0:¬(!items.isEmpty&&Builtin.List.listTooLong (items.size+items2.size))=true)(h1:items.size<=sizeLine)(h2:items.size+items2.size<=sizeLine+1):
  Meets (Builtin.«list.extend» ⟨[.ref l,.ref b],[]⟩) (fun _ R s=>s.heap.get? l=some {cls:=.type "list",dict:=none,data:=.seq items n,slots:= #[]}/\s.heap.get? b=some {cls:=.type T,dict:=dd,data:=.seq items2 n2,slots:=sl}/\
   R (.ok (.ret Value.none)) {s with heap:=s.heap.update l (PySem.Obj.mapSeq fun x=>x++items2),toks:=s.toks}):=
 .of_wp fun prog w A R s hh=>by
  obtain⟨hp,g,d,tk,os⟩:=s;obtain⟨hl,hb,hr⟩:=hh;have f1:=PySem.AutoSeq1.idx_int;have f2:=PySem.AutoSeq1.sub_tuple_tuple;have f3:=PySem.AutoSeq1.sub_list_list;have f4:=PySem.AutoSeq1.sub_tuple_list;have f5:=PySem.AutoSeq1.sub_list_tuple;have hz:(items++items2).size<=sizeLine+1:=by rw[Array.size_append];exact h2
  rcases hT with rfl|rfl
  ·wp_walk using(wpAny_updateSeq hl rfl (hz:=h1) (_hz':=hz)),xH hl,xH hb
   exact⟨_,rfl,hr⟩
  ·wp_walk using(wpAny_updateSeq hl rfl (hz:=h1) (_hz':=hz)),xH hl,xH hb
   exact⟨_,rfl,hr⟩
def rExt (K:PySem.W.Frag):V->List V->Hp->VK->Prop:=fun x vs H Q=>∃l b xs zs,x= .ref l/\vs=[.ref b]/\H l=some (.lst xs)/\(SqL K H b zs\/SqT K H b zs)/\xs.length+zs.length<=sizeLine/\Q .non (upd H l (.lst (xs++zs)))
theorem b3K:MtR X "list.extend" (rExt X.K):=by
 intro pins s σ H x vs v us Q I rx rv ⟨l,b,xs,zs,ex,ev,hH,hB,hz,q⟩;subst ex ev;cases rx;obtain⟨u,rfl,ru⟩:=rv.one;cases ru;obtain⟨z,its,n,r,hl,el⟩:=I.lstM hH;have src:∃(T:String) (its2:List Value) (n2:Nat) (dd:Option Addr) (sl:Array (Option Value)),(T="list"\/T="tuple")/\Vals zs its2/\s.heap.get? b=some {cls:=.type T,dict:=dd,data:=.seq its2.toArray n2,slots:=sl}:=by
  rcases hB with hB|hB
  ·obtain⟨its2,r2,⟨⟨oc,od,oda,osl⟩,n2,ho,hc,_,hd⟩,_⟩:=I.list hB;dsimp only at hc hd;subst hc hd;exact⟨"list",its2,n2,od,osl,.inl rfl,r2,ho⟩
  ·obtain⟨its2,r2,⟨⟨oc,od,oda,osl⟩,ho,hc,n2,hd⟩,_⟩:=I.tuple hB;dsimp only at hc hd;subst hc hd;exact⟨"tuple",its2,n2,od,osl,.inr rfl,r2,ho⟩
 obtain⟨T,its2,n2,od,osl,hT,r2,ho⟩:=src;have hl2:=r2.length;have hsz:its.toArray.size+its2.toArray.size<=sizeLine:=by rw[zO,zO];walk_at "o"
 refine call_meets F.slot_list_extend ⟨_,el,rfl⟩ F.entry_list_extend (F.args_list_extend_2 _ _) (a7W T hT l b its.toArray its2.toArray n n2 od osl (fun w=>?_) (by rw[zO];walk_at "o") (by walk_at "o")) ⟨el,ho,?_⟩
 ·rw[notLongL hsz,Bool.and_false] at w;cases w
 ·exact⟨.non,_,I.lset (its':=its++its2) hH el (by simp) (r.append r2) (by rw[zM];walk_at "o"),rfl,q⟩
def mExt (xs ds:List D):Option (W×List D):=match ds with
 | [d]=>(items d).bind fun ys=>if xs.length+ys.length<=lim then some (.v .non,xs++ys) else none
 | _=>none
theorem b3R:PrM X mExt (rExt X.K):=fun A a xs ds w ys us vs H Q h l l' e q _=>by
 unfold mExt at e;split at e
 ·rename_i d;cases e1:items d with
  | none=>rw[e1] at e;cases e
  | some zs=>
   rw[e1] at e;simp only[bind_some] at e;split at e
   ·rename_i hl;cases e;obtain⟨v,rfl,hv⟩:=denL1 l';obtain⟨b,ws,rfl,hq,lz⟩:=G4 e1 (F2 hv);exact⟨a,b,us,ws,rfl,rfl,h,hq,by rw[<-c6 l,<-c6 lz];exact qC hl t7,q _ _ (t5 l lz) T3⟩
   ·cases e
 ·cases e
theorem b3H:∀xs ds w ys,mExt xs ds=some (w,ys)->∃d,w= .v d:=fun xs ds w ys e=>by
 unfold mExt at e;split at e
 ·rename_i d;cases e1:items d with
  | none=>rw[e1] at e;cases e
  | some zs=>
   rw[e1] at e;simp only[bind_some] at e;split at e
   ·cases e;exact⟨_,rfl⟩
   ·cases e
 ·cases e
theorem a8n (ho:QX X o f)(ha:QA X (e::es) fa)(hbase:attributeBase o "extend" X.env (eval o X.env)=eval o X.env:=by rfl)
  (hfew:((backTo pos (starEach (e::es) X.env)).all (fun x=>!x.1)&&(backToKw pos (keywordEach [] X.env)).all (fun x=>x.1.isSome)&&decide ((e::es).length+([]:List Keyword).length+(if([]:List Keyword).isEmpty then 0 else 1)<30))=true:=by rfl)
  (hline:(apos.endLine==pos.line)=true:=by rfl) (hs:starEach (e::es) X.env=(false,eval e X.env)::starEach es X.env:=by rfl) (hpl:(backTo pos (starEach es X.env)).any (·.1)=false:=by rfl):QX X (.Call (.Attribute o "extend" apos) (e::es) [] pos) (fMut mExt f fa):=
 b03 PySem.F.slot_list_extend PySem.F.type_list_extend b3K b3R b3H ho ha hbase hfew hline hs hpl
theorem a2O {K:PySem.W.Frag}{A:Av}{H:Hp}:∀{ds:List D} {vs:List V} (n:Nat),DenL K A H ds vs->DenL K A H (ds.eraseIdx n) (vs.eraseIdx n)
 | [],_,n,h=>by rw[DenL] at h;subst h;exact k5
 | d::ds,_,0,h=>by
  rw[DenL] at h;obtain⟨v,r,rfl,_,l⟩:=h;exact l
 | d::ds,_,n+1,h=>by
  rw[DenL] at h;obtain⟨v,r,rfl,hv,l⟩:=h;exact j8 hv (a2O n l)
def mPopAt (xs ds:List D):Option (W×List D):=match ds with
 | [.int i]=>if 0<=i/\i<2^62 then(xs[i.toNat]?).map fun d=>(.v d,xs.eraseIdx i.toNat) else none
 | _=>none
theorem b0s:PrM X mPopAt rPopAt:=fun A a xs ds w ys us vs H Q h l l' e q _=>by
 unfold mPopAt at e;split at e
 ·rename_i i;split at e
  ·rename_i hi;obtain⟨d,e1,e⟩:=oms e;cases e;obtain⟨v,rfl,hv⟩:=denL1 l';obtain⟨z,hz,dz⟩:=z6 l e1;have lt:=(zG.mp e1).1;refine⟨a,us,i,i.toNat,z,rfl,by rw[u5.mp hv],h,by walk_at "o",by walk_at "o",?_,hz,q _ _ (a2O _ l) dz⟩
   rw[seqIndex_of hi.1 (by rw[<-c6 l];walk_at "o")]
  ·cases e
 ·cases e
theorem b1g:∀xs ds w ys,mPopAt xs ds=some (w,ys)->∃d,w= .v d:=fun xs ds w ys e=>by
 unfold mPopAt at e;split at e
 ·rename_i i;split at e
  ·cases e1:xs[i.toNat]? with
   | none=>rw[e1] at e;cases e
   | some d=>rw[e1] at e;cases e;exact⟨_,rfl⟩
  ·cases e
 ·cases e
theorem b0u (ho:QX X o f)(ha:QA X (e::es) fa)(hbase:attributeBase o "pop" X.env (eval o X.env)=eval o X.env:=by rfl)
  (hfew:((backTo pos (starEach (e::es) X.env)).all (fun x=>!x.1)&&(backToKw pos (keywordEach [] X.env)).all (fun x=>x.1.isSome)&&decide ((e::es).length+([]:List Keyword).length+(if([]:List Keyword).isEmpty then 0 else 1)<30))=true:=by rfl)
  (hline:(apos.endLine==pos.line)=true:=by rfl) (hs:starEach (e::es) X.env=(false,eval e X.env)::starEach es X.env:=by rfl) (hpl:(backTo pos (starEach es X.env)).any (·.1)=false:=by rfl):QX X (.Call (.Attribute o "pop" apos) (e::es) [] pos) (fMut mPopAt f fa):=
 b03 PySem.F.slot_list_pop PySem.F.type_list_pop a9a b0s b1g ho ha hbase hfew hline hs hpl
end
theorem b1X {X:Cx}(i:Nat){x:Str}{pos:Pos}(hN:X.N[i]? =some x:=by rfl)(hv:Vis X.env.scope x:=by first|exact Or.inl rfl|exact Or.inr (Or.inl rfl)|exact Or.inr (Or.inr rfl))(hd:(x==("__debug__":Str))=false:=by decide)(hcd:(x==("__classdict__":Str))=false:=by decide):PE X (.Name x pos) (tVar i):=a4v hN hv hd hcd
def memK {κ:Type} [DecidableEq κ] (k:κ) (ks:List κ):Bool:=decide (k∈ks)
theorem a8F {κ:Type} [DecidableEq κ] {ks:List κ}{xs:List D}{k:κ}(h:ks.length=xs.length):(look ks xs k).isSome=memK k ks:=a4V h
section
variable {f g h:FX}{t:FT}{fa:FA}{ρ ρ1:Ev}{w z:W}{ws:List W}{d e x y:D}{ds xs ys:List D}{i j k:Nat}{m n:Int}{b:Bool}{kl:List (List Key)}{kk:List Key}{kq:List Key}
theorem a9v:oIxG (.tup xs) d=oIx (.tup xs) d:=rfl
theorem b1e:oIxG (.lst xs) d=oIx (.lst xs) d:=rfl
theorem a54 (hk:tkey d=some kk)(hl:kl.length=xs.length):oInG b d (.dT kl xs)=some (nb b (memK kk kl)):=by
 unfold oInG;simp only[isDi,jC,lookG,hk,jF,a8F hl]
theorem b2h {ns:List Int}(hi:intsOf xs=some ns):oInG b (.int n) (.tup xs)=some (nb b (decide (n∈ns))):=by
 unfold oInG;simp only[isDi,jI,jW,items,bind_some,hi,jF]
theorem a1W {ns:List Int}(hi:intsOf xs=some ns):oInG b (.int n) (.lst xs)=some (nb b (decide (n∈ns))):=by
 unfold oInG;simp only[isDi,jI,jW,items,bind_some,hi,jF]
theorem b1u {ns:List Int}{js:List (List Int)}(hx:intsOf ds=some ns)(hi:tupsOf xs=some js):oInG b (.tup ds) (.lst xs)=some (nb b (decide (ns∈js))):=by
 unfold oInG;simp only[isDi,jI,jW,hx,items,bind_some,hi,jF]
theorem nb_f {k:Bool}:nb false k= .v (.bl k):=rfl
theorem nb_t {k:Bool}:nb true k= .v (.bl (!k)):=rfl
def ge2 (fa:FA):Option (W×Ev)->Option (W×Ev)
 | some p=>fGet (fun _=>some p) fa p.2
 | none=>none
def ge3 (fa:FA) (w:W) (ρ:Ev):Option D->Option (W×Ev)
 | some d=>if isDi d=true then(fa ρ).bind fun q=>(takeAll q.2 q.1).bind fun z=>(dr z.2 w.fz).bind fun x=>match z.1 with
  | [y,e]=>(lookG x y).map fun r=>(.v (r.getD e),z.2)
  | _=>none
  else none
 | none=>none
def ge4 (w:W):Option (List W×Ev)->Option (W×Ev)
 | some q=>(takeAll q.2 q.1).bind fun z=>(dr z.2 w.fz).bind fun x=>match z.1 with
  | [y,e]=>(lookG x y).map fun r=>(.v (r.getD e),z.2)
  | _=>none
 | none=>none
def ge5 (w:W):Option (List D×Ev)->Option (W×Ev)
 | some z=>(dr z.2 w.fz).bind fun x=>match z.1 with
  | [y,e]=>(lookG x y).map fun r=>(.v (r.getD e),z.2)
  | _=>none
 | none=>none
def ge6 (y e:D) (ρ:Ev):Option D->Option (W×Ev)
 | some x=>(lookG x y).map fun r=>(.v (r.getD e),ρ)
 | none=>none
theorem r_ge:fGet f fa ρ=ge2 fa (f ρ):=by unfold ge2;cases e:f ρ with
 | none=>unfold fGet;rw[e];rfl
 | some p=>unfold fGet;rw[e]
theorem b2B:ge2 fa (some (w,ρ))=ge3 fa w ρ (dr ρ w.fz):=by unfold ge2 ge3 fGet;dsimp only[bind_some];cases dr ρ w.fz<;>rfl
theorem a65:ge3 fa w ρ (some (.dT kl xs))=ge4 w (fa ρ):=by unfold ge3 ge4;simp only[isDi,jC];cases fa ρ<;>rfl
theorem r_ge3_K:ge3 fa w ρ (some (.dK kq xs))=ge4 w (fa ρ):=by unfold ge3 ge4;simp only[isDi,jC];cases fa ρ<;>rfl
theorem b2G:ge4 w (some (ws,ρ))=ge5 w (takeAll ρ ws):=by unfold ge4 ge5;dsimp only;cases takeAll ρ ws<;>rfl
theorem b24:ge5 w (some ([y,e],ρ))=ge6 y e ρ (dr ρ w.fz):=by unfold ge5 ge6;dsimp only;cases dr ρ w.fz<;>rfl
theorem b1w (hk:tkey y=some kk):ge6 y e ρ (some (.dT kl xs))=some (.v ((look kl xs kk).getD e),ρ):=by unfold ge6;simp only[lookG,hk,jF]
theorem a2i:∀ns:List Int,dkeys (ns.map D.int)=some (ns.map Sum.inl)
 | []=>rfl
 | n::ns=>by rw[zH,dkeys,a2i ns];rfl
theorem a1Q (ns:List Int):tkey (tupI ns)=some (ns.map Sum.inl):=a2i ns
def dp2 (fd:FX) (fk:FA):Option (W×Ev)->Option R
 | some p=>fDPutT fd fk (fun _=>some p) p.2
 | none=>none
def dp3 (w:W) (fk:FA):Option (W×Ev)->Option R
 | some q=>match q.1 with
  | .r i=>(fk q.2).bind fun z=>(takeAll z.2 (w.fz::z.1)).bind fun y=>match y.1 with
   | d::ds=>(dkeys ds).bind fun k=>match ownAt y.2 i with
    | some (.dT ks xs)=>if ks.length<lim/\ds.length<=lim then some (.nx (setOwn y.2 i (.dT (putKs ks k) (putX ks xs k d)))) else none
    | _=>none
   | _=>none
  | _=>none
 | none=>none
def dp4 (w:W) (i:Nat):Option (List W×Ev)->Option R
 | some z=>(takeAll z.2 (w.fz::z.1)).bind fun y=>match y.1 with
   | d::ds=>(dkeys ds).bind fun k=>match ownAt y.2 i with
    | some (.dT ks xs)=>if ks.length<lim/\ds.length<=lim then some (.nx (setOwn y.2 i (.dT (putKs ks k) (putX ks xs k d)))) else none
    | _=>none
   | _=>none
 | none=>none
def dp5 (i:Nat):Option (List D×Ev)->Option R
 | some y=>match y.1 with
   | d::ds=>(dkeys ds).bind fun k=>match ownAt y.2 i with
    | some (.dT ks xs)=>if ks.length<lim/\ds.length<=lim then some (.nx (setOwn y.2 i (.dT (putKs ks k) (putX ks xs k d)))) else none
    | _=>none
   | _=>none
 | none=>none
def dp6 (i:Nat) (d:D) (ds:List D) (ρ:Ev):Option (List Key)->Option D->Option R
 | some k,some (.dT ks xs)=>if ks.length<lim/\ds.length<=lim then some (.nx (setOwn ρ i (.dT (putKs ks k) (putX ks xs k d)))) else none
 | _,_=>none
theorem r_dp:fDPutT f fa g ρ=dp2 f fa (g ρ):=by unfold dp2;cases e:g ρ with
 | none=>unfold fDPutT;rw[e];rfl
 | some p=>unfold fDPutT;rw[e]
theorem b3d:dp2 f fa (some (w,ρ))=dp3 w fa (f ρ):=by unfold dp2 dp3 fDPutT;dsimp only[bind_some];cases f ρ<;>rfl
theorem b3o:dp3 w fa (some (.r i,ρ))=dp4 w i (fa ρ):=by unfold dp3 dp4;dsimp only;cases fa ρ<;>rfl
theorem b2R:dp4 w i (some (ws,ρ))=dp5 i (takeAll ρ (w.fz::ws)):=by unfold dp4 dp5;dsimp only;cases takeAll ρ (w.fz::ws)<;>rfl
theorem b3y:dp5 i (some (d::ds,ρ))=dp6 i d ds ρ (dkeys ds) (ownAt ρ i):=by
 unfold dp5 dp6;dsimp only;cases dkeys ds with
 | none=>cases ownAt ρ i<;>rfl
 | some k=>
  dsimp only[bind_some];cases ownAt ρ i with
  | none=>rfl
  | some x=>cases x<;>rfl
theorem b3g:dp6 i d ds ρ (some kk) (some (.dT kl xs))=if kl.length<lim/\ds.length<=lim then some (.nx (setOwn ρ i (.dT (putKs kl kk) (putX kl xs kk d)))) else none:=rfl
theorem b2w:dkeys []=some []:=rfl
theorem b3G:dkeys (.int m::ds)=(dkeys ds).map fun ks=>Sum.inl m::ks:=by rw[dkeys];rfl
theorem b21:fDNewT ρ=some (.o (.dT [] []),ρ):=rfl
theorem a4G (h:kk∉kl):putKs kl kk=kl++[kk]/\putX kl xs kk d=xs++[d]:=⟨if_neg h,if_neg h⟩
theorem b2u (h:(-(2^63)<=n/\n<2^63)/\xs.length*n.toNat<=lim):oRep (.lst xs) (.int n)=some (.o (.lst (List.replicate n.toNat xs).flatten)):=if_pos h
theorem o_bits:oBits (.int n)=some (.v (.int (Builtin.Int.intBits n:Nat))):=by cases n<;>exact rfl
theorem b3h:mExt xs [d]=(items d).bind fun ys=>if xs.length+ys.length<=lim then some (.v .non,xs++ys) else none:=rfl
theorem b4K:gListD (.dT kl xs)=some (.o (.lst (kl.map keyD))):=rfl
theorem a24:gListD (.lst xs)=some (.o (.lst xs)):=rfl
theorem a27:gListD (.tup xs)=some (.o (.lst xs)):=rfl
theorem b1z {ks:List (List Int)}(hi:gSortI (.lst xs)=none)(ht:tupsOf xs=some ks)(h64:ks.length<64)(ne:∀k∈ks,k≠[]):gSort (.lst xs)=some (.o (.lst ((sortK ks).map tupI))):=by
 unfold gSort gSortT;rw[hi];simp only[keysOf,ht,bind_some];exact if_pos ⟨h64,ne⟩
theorem a78 {k:List Int}{ks:List (List Int)}:gSortI (.lst ((k::ks).map tupI))=none:=rfl
theorem E6 {ks:List (List Int)}(h64:ks.length<64)(ne:∀k∈ks,k≠[]):gSort (.lst (ks.map tupI))=some (.o (.lst ((sortK ks).map tupI))):=by
 cases ks with
 | nil=>simp[gSort,gSortI,intsOf,sortI,sortK]
 | cons k ks=>exact b1z a78 (G6 _) h64 ne
theorem a2G {k:Nat}{gf:FG}(I:Ev->Prop)(hI:∀B,I B->B.length=k)(key:D->List Key)(val:D->D):∀(xs:List D),(∀x∈xs,∀B ks zs,I B->ks.length<lim->∃B',I B'/\turnCD k gf t fa j x (B++[some (.l (.dT ks zs))])=some (B'++[some (.l (.dT (putKs ks (key x)) (putX ks zs (key x) (val x))))]))->
  ∀(B:Ev) (ks:List (List Key)) (zs:List D),ks.length=zs.length->ks.length+xs.length<=lim->I B->(ks++xs.map key).Nodup->∃B',I B'/\loopC (turnCD k gf t fa j) xs (B++[some (.l (.dT ks zs))])=some (B'++[some (.l (.dT (ks++xs.map key) (zs++xs.map val)))])
 | [],st,B,ks,zs,hz,hl,i,nd=>⟨B,i,by simp[loopC]⟩
 | x::xs,st,B,ks,zs,hz,hl,i,nd=>by
  rw[qJ] at hl;obtain⟨B1,i1,e1⟩:=st x zJ B ks zs i (by walk_at "o")
  have nin:key x∉ks:=fun z=>by
   rw[zH] at nd;exact(jR.mp nd).2.2 _ z _ zJ rfl
  obtain⟨p1,p2⟩:=a4G (xs:=zs) (d:=val x) nin;rw[p1,p2] at e1;obtain⟨B2,i2,e2⟩:=a2G I hI key val xs (fun y hy=>st y (zI _ hy)) B1 (ks++[key x]) (zs++[val x]) (by simp[hz]) (by rw[zM,jK];walk_at "o") i1 (by rw[jQ];exact nd)
  exact⟨B2,i2,by rw[loopC,e1];simp only[bind_some];rw[e2,jQ,jQ];rfl⟩
theorem a8M {fi:FI}{js:List (Option Nat)}{gf:FG}{ρ ρ1:Ev}(I:Ev->Prop)(key:D->List Key)(val:D->D)(ei:fi ρ=some (xs,ρ1))(hI:∀B,I B->B.length=js.length)(h0:I (capE none js ρ1))(hl:xs.length<=lim)(hf:lfL (xs.map val)=true)(nd:(xs.map key).Nodup)
  (st:∀x∈xs,∀B ks zs,I B->ks.length<lim->∃B',I B'/\turnCD js.length gf t fa j x (B++[some (.l (.dT ks zs))])=some (B'++[some (.l (.dT (putKs ks (key x)) (putX ks zs (key x) (val x))))])):
  fDComp fi none js gf t fa j ρ=some (.o (.dT (xs.map key) (xs.map val)),ρ1):=by
 obtain⟨B',i',e⟩:=a2G I hI key val xs st (capE none js ρ1) [] [] rfl (by rw[xY];walk_at "o") h0 (by simpa using nd)
 unfold fDComp;rw[ei];simp only[bind_some,liB,jC,Option.map_none];rw[e];have ha:ownAt (B'++[some (.l (.dT ([]++xs.map key) ([]++xs.map val)))]) js.length=some (.dT (xs.map key) (xs.map val)):=by
  unfold ownAt;rw[qR (by rw[hI B' i'];exact zE _),hI B' i',xF];rfl
 simp only[bind_some,ha,backG,lfC,hf,jC]
def td2 (k j:Nat) (t:FT) (fa:FA):Option Ev->Option Ev
 | some ρ1=>(t ρ1).bind fun p=>if p.1=true then(fa p.2).bind (putTo k j) else some p.2
 | none=>none
def td3 (k j:Nat) (fa:FA):Option (Bool×Ev)->Option Ev
 | some p=>if p.1=true then(fa p.2).bind (putTo k j) else some p.2
 | none=>none
def td4 (k j:Nat):Option (List W×Ev)->Option Ev
 | some p=>putTo k j p
 | none=>none
def pt2 (k j:Nat):Option (List D×Ev)->Option Ev
 | some q=>(dkeys q.1).bind fun kk=>match q.2[j]? with
  | some (some (.v d))=>match ownAt q.2 k with
   | some (.dT ks zs)=>if ks.length<lim/\q.1.length<=lim then some (setOwn q.2 k (.dT (putKs ks kk) (putX ks zs kk d))) else none
   | _=>none
  | _=>none
 | none=>none
def pt3 (k:Nat) (n:Nat) (ρ:Ev):Option (List Key)->Option (Option W)->Option D->Option Ev
 | some kk,some (some (.v d)),some (.dT ks zs)=>if ks.length<lim/\n<=lim then some (setOwn ρ k (.dT (putKs ks kk) (putX ks zs kk d))) else none
 | _,_,_=>none
theorem r_td {gf:FG}:turnCD k gf t fa j d ρ=td2 k j t fa (gf d ρ):=by unfold turnCD td2;cases gf d ρ<;>rfl
theorem b2t:td2 k j t fa (some ρ)=td3 k j fa (t ρ):=by unfold td2 td3;dsimp only;cases t ρ<;>rfl
theorem b2T:td3 k j fa (some (true,ρ))=td4 k j (fa ρ):=by unfold td3 td4;simp only[jC];cases fa ρ<;>rfl
theorem b29:td4 k j (some (ws,ρ))=pt2 k j (takeAll ρ ws):=by unfold td4 putTo pt2;dsimp only;cases takeAll ρ ws<;>rfl
theorem b2L:pt2 k j (some (ds,ρ))=pt3 k ds.length ρ (dkeys ds) ρ[j]? (ownAt ρ k):=by
 unfold pt2 pt3;dsimp only;cases dkeys ds with
 | none=>rfl
 | some kk=>
  dsimp only[bind_some];cases ρ[j]? with
  | none=>rfl
  | some o=>
   cases o with
   | none=>rfl
   | some w=>
    cases w with
    | v d=>
     cases ownAt ρ k with
     | none=>rfl
     | some x=>cases x<;>rfl
    | _=>rfl
theorem b2D {n:Nat}:pt3 k n ρ (some kk) (some (some (.v d))) (some (.dT kl xs))=if kl.length<lim/\n<=lim then some (setOwn ρ k (.dT (putKs kl kk) (putX kl xs kk d))) else none:=rfl
end
abbrev Tie:=Int×Int×Int
def tieD (t:Tie):D:=.tup [.int t.1,.int t.2.1,.int t.2.2]
def webD (n:Int) (ts:List Tie):D:=.tup [.int n,.tup (ts.map tieD)]
def tkK (t:Tie):List Key:=[Sum.inl t.1,Sum.inl t.2.1]
def parK (n:Int) (ts:List Tie):List (List Int):=((List.range n.toNat).map fun(i:Nat)=>[(i:Int)])++ts.map fun t=>[t.1,t.2.1]
structure WebOk (n:Int) (ts:List Tie):Prop where
 n1:1<=n/\n<=8
 t:∀t∈ts,0<=t.1/\t.1<t.2.1/\t.2.1<n/\1<=t.2.2/\t.2.2<=10^15
 nd:(ts.map fun t=>(t.1,t.2.1)).Nodup
 len:ts.length<=55
def gainOf:List Tie->List Int->Int
 | [],_=>0
 | t::ts,k=>if[t.1,t.2.1]=k then t.2.2 else gainOf ts k
theorem a7O {a b:List Int}(h:a.map (Sum.inl:Int->Key)=b.map Sum.inl):a=b:=by
 induction a generalizing b with
 | nil=>cases b with|nil=>rfl|cons _ _=>cases h
 | cons x a ih=>cases b with
  | nil=>cases h
  | cons y b=>rw[zH,zH] at h;injection h with h1 h2;injection h1 with h1;rw[h1,ih h2]
theorem b30 (t:Tie):tkK t=[t.1,t.2.1].map Sum.inl:=rfl
theorem a3i:∀(ts:List Tie) (k:List Int),(look (ts.map tkK) (ts.map fun t=>D.int t.2.2) (k.map Sum.inl)).getD (.int 0)= .int (gainOf ts k)
 | [],k=>rfl
 | t::ts,k=>by
  rw[zH,zH,look,gainOf]
  by_cases h:[t.1,t.2.1]=k
  ·rw[if_pos (by rw[b30,h]),if_pos h];rfl
  ·rw[if_neg (show ¬tkK t=k.map Sum.inl from fun z=>h (a7O z)),if_neg h];exact a3i ts k
theorem E3 (i:Int):∀ts:List Tie,gainOf ts [i]=0
 | []=>rfl
 | t::ts=>by rw[gainOf,if_neg (by simp),E3 i ts]
theorem a25 {n:Int}{ts:List Tie}(h:∀t∈ts,0<=t.1/\t.1<t.2.1/\t.2.1<n/\1<=t.2.2/\t.2.2<=10^15)(k:List Int):0<=gainOf ts k/\gainOf ts k<=10^15:=by
 induction ts with
 | nil=>exact⟨Int.le_refl _,by show(0:Int)<=10^15;decide⟩
 | cons t ts ih=>
  rw[gainOf]
  split
  ·have:=h t zJ;omega
  ·exact ih fun t ht=>h t (zI _ ht)
def oneK (n:Nat):List (List Key):=(List.range n).map fun(i:Nat)=>[Sum.inl (i:Int)]
theorem O1 {n:Int}{ts:List Tie}(h:WebOk n ts):(parK n ts).length<=63/\∀k∈parK n ts,k≠[]:=by
 unfold parK;refine⟨by rw[zM,zC,zC,length_range];have:=h.n1;have:=h.len;walk_at "o",fun k hk=>?_⟩
 rcases qG.mp hk with h|h
 ·obtain⟨i,_,rfl⟩:=zZ.mp h;simp
 ·obtain⟨t,_,rfl⟩:=zZ.mp h;simp
theorem A5 {n:Int}{ts:List Tie}(h:WebOk n ts){k:List Int}(hk:k∈parK n ts):(∀i∈k,0<=i/\i<n)/\1<=k.length/\k.length<=2:=by
 unfold parK at hk;rcases qG.mp hk with z|z
 ·obtain⟨i,hi,rfl⟩:=zZ.mp z;rw[jS] at hi;exact⟨fun j hj=>by rw[zN.mp hj];omega,by simp⟩
 ·obtain⟨t,ht,rfl⟩:=zZ.mp z
  have:=h.t t ht
  refine⟨fun j hj=>?_,by simp⟩
  simp only[zX,jE,jX] at hj;rcases hj with rfl|rfl<;>omega
theorem a4U {n:Int}{ts:List Tie}(h:WebOk n ts):(ts.map tkK).Nodup:=by
 have:=h.nd
 rw[List.Nodup,yF] at this ⊢;refine this.imp fun{a b} hab z=>hab ?_;unfold tkK at z;injection z with z1 z2
 injection z2 with z2 _
 injection z1 with z1
 injection z2 with z2
 rw[z1,z2]
theorem a8b {n:Int}{ts:List Tie}(h:WebOk n ts):(oneK n.toNat++ts.map tkK).Nodup:=by
 rw[jR];refine⟨?_,a4U h,fun a ha b hb e=>?_⟩
 ·unfold oneK;rw[List.Nodup,yF];refine List.nodup_range.imp fun{a b} hab z=>hab ?_;injection z with z1 _
  injection z1 with z1
  walk_at "o"
 ·obtain⟨i,_,rfl⟩:=zZ.mp ha;obtain⟨t,_,rfl⟩:=zZ.mp hb;exact absurd (yQ List.length e) (by simp[tkK])
theorem X1 (ts:List Tie):lfL (ts.map tieD)=true:=z8 fun x hx=>by
 obtain⟨t,_,rfl⟩:=zZ.mp hx;rfl
theorem Z6 (n:Int)(ts:List Tie):lf (webD n ts)=true:=by
 unfold webD;simp only[lf,lfL,X1,Bool.and_self]
theorem b2j (k:List Int):lf (tupI k)=true:=j5 k
theorem F4 (ks:List (List Int)):lfL (ks.map tupI)=true:=z8 fun x hx=>by
 obtain⟨k,_,rfl⟩:=zZ.mp hx;exact b2j k
theorem b3O (q:Rat):lf (ratD q)=true:=rfl
theorem b1L (t b:Int):Int.gcd (if t<0 then -t else t) b=Int.gcd t b:=by
 unfold Int.gcd;congr 1
 split<;>walk_at "o"
theorem b2e {t b:Int}(hb:0<b)(hs:b.natAbs<big):dOk ((Int.gcd t b:Nat):Int):=by
 have h1:0<Int.gcd t b:=Int.gcd_pos_iff.mpr (.inr (by walk_at "o"))
 have h2:Int.gcd t b<=b.natAbs:=Int.gcd_le_natAbs_right t (by walk_at "o")
 exact⟨by walk_at "o",by walk_at "o"⟩
theorem B8 {C:Prop}{b:D->FS}{xs:List D}{ρ:Ev}{r:Option R}(e:loopF b xs ρ=r)(I:Nat->Ev->Prop)(h0:I 0 ρ)(st:∀i x ρ,xs[i]? =some x->I i ρ->∃ρ',b x ρ=some (.nx ρ')/\I (i+1) ρ')(c:∀ρ',r=some (.nx ρ')->I xs.length ρ'->C):C:=by
 have key:∀(ys:List D) (k:Nat) (ρ:Ev),xs.drop k=ys->I k ρ->k<=xs.length->∃ρ',loopF b ys ρ=some (.nx ρ')/\I xs.length ρ':=by
  intro ys
  induction ys with
  | nil=>
   intro k ρ hk h hl
   have:k=xs.length:=by
    have:=List.drop_eq_nil_iff.mp hk;walk_at "o"
   exact⟨ρ,rfl,this▸h⟩
  | cons y ys ih=>
   intro k ρ hk h hl;have hx:xs[k]? =some y:=by
    have:=yQ (·[0]?) hk
    simpa using this
   have lt:=(zG.mp hx).1;obtain⟨ρ1,e1,i1⟩:=st k y ρ hx h;obtain⟨ρ2,e2,i2⟩:=ih (k+1) ρ1 (by rw[<-drop_drop,hk];rfl) i1 lt
   exact⟨ρ2,by rw[loopF,e1];exact e2,i2⟩
 obtain⟨ρ',e',i⟩:=key xs 0 ρ (by simp) h0 (jN _)
 exact c ρ' (e.symm.trans e') i
theorem R8 {m:Int}{n i:Nat}{x:D}(h:(rngD m n)[i]? =some x):x= .int (m+i)/\i<n:=by
 unfold rngD at h;rw[zV] at h
 by_cases hi:i<n
 ·rw[jU hi] at h;cases h;exact⟨rfl,hi⟩
 ·rw[jA (by simpa using hi)] at h;cases h
theorem a8E (i:Nat):oneK (i+1)=oneK i++[[Sum.inl (i:Int)]]:=by unfold oneK;rw[range_succ,zL];rfl
theorem a96 {i:Nat}:[Sum.inl (i:Int)]∉oneK i:=fun z=>by
 unfold oneK at z;obtain⟨j,hj,e⟩:=zZ.mp z;rw[jS] at hj;injection e with e1 _
 injection e1 with e1
 walk_at "o"
def Sm (n:Int):Prop:=0<n/\n.natAbs<2^390
theorem Sm.pos {n:Int}(h:Sm n):0<n:=h.1
def Pot (b:Nat) (d:D):Prop:=∃r c s:Int,d= .lst [.int r,.int c,.int s]/\0<=c/\c<=b/\0<=s/\s<2147483647
theorem Pot.mono {b b':Nat}{d:D}(h:Pot b d)(hb:b<=b'):Pot b' d:=by
 obtain⟨r,c,s,e,h1,h2,h3⟩:=h;exact⟨r,c,s,e,h1,by walk_at "o",h3⟩
theorem Pot.lf {b:Nat}{d:D}(h:Pot b d):lfC d=true:=by obtain⟨r,c,s,rfl,_⟩:=h;rfl
abbrev G2 (elt t1 i1 t2 i2:Expr) (scope:Scope) (pos:Pos):Expr:=.ListComp elt [⟨t1,i1,[],0⟩,⟨t2,i2,[],0⟩] scope pos
theorem b0K (elt t1 i1 t2 i2:Expr)(scope:Scope)(pos:Pos)(it acc:Value)(env:Env):
  compTurn (G2 elt t1 i1 t2 i2 scope pos) 0 it acc env=(standAt i1.pos >>=fun _=>pyNext it >>=fun r=>match r with
   | none=>pure (.done .next)
   | some v=>letOwnedTupleGo t1 it v >>=fun _=>assign t1 env v >>=fun _=>
    eval i2 env >>=fun x=>standAt i2.pos >>=fun _=>foldedSetIterable i2 env x >>=fun x=>holding [x] (pyIter x) >>=fun y=>runOwn (.compStart (G2 elt t1 i1 t2 i2 scope pos) 1 y acc env) env >>=fun _=>
     again (.compLoop (G2 elt t1 i1 t2 i2 scope pos) 0 it acc env)):=by rfl
theorem b19 (elt t1 i1 t2 i2:Expr)(scope:Scope)(pos:Pos)(it acc:Value)(env:Env):
  compTurn (G2 elt t1 i1 t2 i2 scope pos) 1 it acc env=(standAt i2.pos >>=fun _=>pyNext it >>=fun r=>match r with
   | none=>pure (.done .next)
   | some v=>letOwnedTupleGo t2 it v >>=fun _=>assign t2 env v >>=fun _=>
    (eval elt env >>=fun x=>call (.builtin "list.append") [acc,x] >>=fun _=>pure ()) >>=fun _=>
     again (.compLoop (G2 elt t1 i1 t2 i2 scope pos) 1 it acc env)):=by rfl
section
variable {prog:Program}{w:World}{A:Around}{R:Result->Shared->Prop}{s:Shared}{elt t1 i1 t2 i2:Expr}{scope:Scope}{pos:Pos}{it acc:Value}{env:Env}
theorem b16 (I:Nat->Shared->Prop)
  (turn:∀n s,I n s->wpAny (model prog w) A (pyNext it) (fun r s1=>match r with
   | none=>R (.ok .next) s1
   | some v=>wpAny (model prog w) A (letOwnedTupleGo t2 it v) (fun _ s2=>wpAny (model prog w) A (assign t2 env v) (fun _ s3=>
     wpAny (model prog w) A (eval elt env) (fun x s5=>wpAny (model prog w) A (call (.builtin "list.append") [acc,x]) (fun _ s6=>∃m,m<n/\I m s6) Fa s5) Fa s3) Fa s2) Fa s1) Fa s)
  (n:Nat) (h:I n s):codeAny (model prog w) A (.compLoop (G2 elt t1 i1 t2 i2 scope pos) 1 it acc env) R s:=by
 refine codeAny_loop rfl I (fun n s hI=>?_) n h;show wpAny _ A ((compTurn (G2 elt t1 i1 t2 i2 scope pos) 1 it acc env).onRaise (fun x=>do noteFrame x env;theTreesLotGoes x)) _ _ s
 refine wpAny_noted ?_;rw[b19];refine zA (jO (zA (zF (turn n s hI) (fun r s1 h1=>?_) fun _ _ z=>z.elim)));cases r with
 | none=>exact zB h1
 | some v=>exact zA (zF h1 (fun _ s2 h2=>zA (zF h2 (fun _ s3 h3=>zA (zA (zF h3 (fun x s5 h5=>zA (zF h5 (fun _ s6 h6=>zB (zB ⟨rfl,h6⟩)) fun _ _ z=>z.elim)) fun _ _ z=>z.elim))) fun _ _ z=>z.elim)) fun _ _ z=>z.elim)
theorem a9c (hs:∀x,foldedSetIterable i2 env x=pure x)(I:Nat->Shared->Prop)
  (turn:∀n s,I n s->wpAny (model prog w) A (pyNext it) (fun r s1=>match r with
   | none=>R (.ok .next) s1
   | some v=>wpAny (model prog w) A (letOwnedTupleGo t1 it v) (fun _ s2=>wpAny (model prog w) A (assign t1 env v) (fun _ s3=>
     wpAny (model prog w) A (eval i2 env) (fun x s4=>wpAny (model prog w) A (pyIter x) (fun y s5=>codeAny (model prog w) A (.compStart (G2 elt t1 i1 t2 i2 scope pos) 1 y acc env) (fun r s6=>r= .ok .next/\∃m,m<n/\I m s6) s5) Fa s4) Fa s3) Fa s2) Fa s1) Fa s)
  (n:Nat) (h:I n s):codeAny (model prog w) A (.compLoop (G2 elt t1 i1 t2 i2 scope pos) 0 it acc env) R s:=by
 refine codeAny_loop rfl I (fun n s hI=>?_) n h;show wpAny _ A ((compTurn (G2 elt t1 i1 t2 i2 scope pos) 0 it acc env).onRaise (fun x=>do noteFrame x env;theTreesLotGoes x)) _ _ s
 refine wpAny_noted ?_;rw[b0K];refine zA (jO (zA (zF (turn n s hI) (fun r s1 h1=>?_) fun _ _ z=>z.elim)));cases r with
 | none=>exact zB h1
 | some v=>
  refine zA (zF h1 (fun _ s2 h2=>zA (zF h2 (fun _ s3 h3=>zA (zF h3 (fun x s4 h4=>zA (jO ?_)) fun _ _ z=>z.elim)) fun _ _ z=>z.elim)) fun _ _ z=>z.elim);rw[hs];refine zA (zB (zA (qI (zF h4 (fun y s5 h5=>zA (wpAny_runOwn ?_)) fun _ _ z=>z.elim))));refine codeAny_mono (show codeAny (model prog w) (A.mark none) _ _ _ from h5) fun r s6 h6=>?_;obtain⟨rfl,h6⟩:=h6;exact zB ⟨rfl,h6⟩
theorem a9N (h0:codeAny (model prog w) A (.compLoop (G2 elt t1 i1 t2 i2 scope pos) 1 it acc env) R s)
  (h:wpAny (model prog w) A (pyIter it) (fun it' s'=>codeAny (model prog w) A (.compLoop (G2 elt t1 i1 t2 i2 scope pos) 1 it' acc env) R s') (notedBy (model prog w) A env fun x s'=>R (.error x) s') s):
  codeAny (model prog w) A (.compStart (G2 elt t1 i1 t2 i2 scope pos) 1 it acc env) R s:=by
 refine codeAny_of_tree ?_;show wpAny _ A ((compStart (G2 elt t1 i1 t2 i2 scope pos) 1 it acc env).onRaise (fun x=>do noteFrame x env;standAt theWindowsPlace)) _ _ s
 refine wpAny_notedAt ?_;unfold compStart;show wpAny _ A (ask >>=_) _ _ s;refine zA (wpAny_askSetting (wpAny_ite ?_))
 split
 ·first
   | exact zA (zB (zB (And.intro rfl h0)))
   | exact zB (And.intro rfl h0)
 ·first
   | exact zA (jT (zA (jO (zA (zF h (fun it' s' h'=>zB (And.intro rfl h')) fun _ _ x=>x)))))
   | (refine zA (jT ?_);show wpAny _ _ (standAt i2.pos >>=_) _ _ s;exact zA (jO (zA (zF h (fun it' s' h'=>zB (And.intro rfl h')) fun _ _ x=>x))))
end
def turnC2 (k:Nat) (gf:FG) (fi2:FI) (gf2:FG) (fe:FX):D->Ev->Option Ev:=fun x ρ=>(gf x ρ).bind fun ρ1=>(fi2 ρ1).bind fun p=>loopC (turnC k gf2 (fun ρ=>some (true,ρ)) fe) p.1 p.2
def fComp2 (fi:FI) (js:List (Option Nat)) (gf:FG) (fi2:FI) (gf2:FG) (fe:FX):FX:=fun ρ=>(fi ρ).bind fun p=>
  (loopC (turnC2 js.length gf fi2 gf2 fe) p.1 (capE none js p.2++[some (.l (.lst []))])).bind fun ρe=>match ownAt ρe js.length with
   | some (.lst ys)=>backG none js ρe p.2 (.lst ys)
   | _=>none
section
variable {X:Cx}{pins:List (Addr×PySem.Obj)}{σ:L2.St}{H2:Hp}{s2:Shared}{scope:Scope}{cl:List (Str×Addr)}{N:List Str}{js:List (Option Nat)}{fp:List Addr}{it:Addr}{tn:Nat->Heap->Prop}{J:It}{elt tg iter t2 i2:Expr}{pos:Pos}{P:List (D×V)}{O:Av}{L:List (Option Nat×Addr)}{ρ ρe:Ev}{xs:List D}{gf gf2:FG}{fi fi2:FI}{fe:FX}{Qq:Value->Shared->Prop}{use:Option (Value->Sem Unit)}
theorem a8g (hcalm:X.calm=true)(I2:Inv X pins σ H2 s2)(T:Turn X.prog X.w X.K tg J fp it tn)(st2:tn 0 s2.heap)(f2:∀y∈fp,FpOk X pins H2 y)(b:Blk X scope cl N js)(r:Rep X P O L ρ σ H2)(wk:WksB none X.K P O ρ σ H2 xs J)
  (hg:∀C,QG (blk X scope cl s2 H2 fp C (N++[accN])) tg gf) (hi2:∀C,QI (blk X scope cl s2 H2 fp C (N++[accN])) t2 i2 fi2) (hg2:∀C,QG (blk X scope cl s2 H2 fp C (N++[accN])) t2 gf2) (he:∀C,QX (blk X scope cl s2 H2 fp C (N++[accN])) elt fe)
  (hs2:∀C x,foldedSetIterable i2 (compEnvC scope cl C X.env) x=pure x)
  (e:loopC (turnC2 js.length gf fi2 gf2 fe) xs (capE none js ρ++[some (.l (.lst []))])=some ρe)
  (fin:∀(Dd C:Addr) (σe:L2.St) (He:Hp) (s1:Shared),H2 Dd=none->s2.heap.objs.size<=C->Inv (blk X scope cl s2 H2 fp C (N++[accN])) [] σe He s1->Rep (blk X scope cl s2 H2 fp C (N++[accN])) P (fun b=>AvO O ρ σ b/\¬Capd ρ σ js b) ((some js.length,Dd)::lentL none σ) ρe σe He->
   compPost (model X.prog X.w) X.A X.xe use Qq (.ref Dd) C (.ok .next) s1):
  wpAny (model X.prog X.w) X.A (newList []) (fun acc s3=>wpAny (model X.prog X.w) X.A (newFunctionEnv scope X.env.globals cl [] X.env.qual none .none (some X.env)) (fun cenv s4=>
   codeAny (model X.prog X.w) X.A (.compStart (G2 elt tg iter t2 i2 scope pos) 0 (.ref it) acc {cenv with scope:=relabel scope X.env}) (compPost (model X.prog X.w) X.A X.xe use Qq acc cenv.locals) s4) X.xe s3) X.xe s2:=by
 have hl:LiOk none js ρ:=⟨nofun,nofun,nofun⟩
 have fl:∀y∈fp,y<s2.heap.objs.size:=fun y hy=>by obtain⟨o,eo,_⟩:=T.obj _ _ st2 y hy;exact zW eo
 refine qD (wpAny_newFunctionEnv b.cell (by intro y hy;simp at hy) (fun h' hns hsb=>?_) b.kind)
 dsimp only at hns hsb ⊢;generalize hH:s2.heap.push {cls:=.type "list",dict:=none,data:=.seq ([]:List Value).toArray}=H3 at hns hsb ⊢;have hC:H3.objs.size=s2.heap.objs.size+1:=by rw[<-hH,yC]
 have ne:s2.heap.objs.size≠H3.objs.size:=by rw[hC];exact zT (Nat.lt_succ_self _)
 have leC:s2.heap.objs.size<=H3.objs.size:=by rw[hC];exact Nat.le_succ _
 have kp3:∀y o,s2.heap.get? y=some o->H3.get? y=some o:=fun y o e=>hH▸zD _ e;have kp4:∀y o,H3.get? y=some o->h'.get? y=some o:=fun y o e=>hsb.extBut y o (zT (zW e)) (zD _ e);have hDn:H2 s2.heap.objs.size=none:=I2.hok.fresh (zE _);have ok3:HOk X.prog X.w (upd H2 s2.heap.objs.size (.lst [])) H3:=I2.hok.laid kp3 (zE _) ⟨jN _,[],0,.nil,by rw[<-hH];exact zS _ rfl⟩
 have I4:=a7S (s4:={s2 with heap:=h',toks:=s2.toks+([]:List (Str×Value)).length}) (Dd:=s2.heap.objs.size) (C:=H3.objs.size) I2 b f2 fl leC (zE _) ne rfl I2.bare (fun y o e=>kp4 y o (kp3 y o e)) hns (ok3.kept kp4)
 have R4:=a7o (d0:=.lst []) (o0:=.lst []) (fun _ _ e=>⟨[],e,k5⟩) (li:=none) (scope:=scope) (cl:=cl) (N:=N) (s2:=s2) (fp:=fp) (C:=H3.objs.size) (Dd:=s2.heap.objs.size) r hl hDn;have hfree:∀{H':Hp},(∀y∈fp,H' y=none)->∀y∈fp,FpOk (blk X scope cl s2 H2 fp H3.objs.size (N++[accN])) [] H' y:=fun hn y hy=>
  ⟨hn y hy,zT (zK (fl y hy) leC),fun z=>(zX.mp (I2.stkSub y z)).elim (f2 y hy).2.1 (f2 y hy).2.2.1,.inl hy,fun x c ec=>(f2 y hy).2.2.2.2.1 x c (b.sub x c ec),fun p hp=>absurd (show p∈([]:List (Addr×PySem.Obj)) from hp) (by simp)⟩
 obtain⟨gg,pg,kg⟩:=(hg H3.objs.size).to;obtain⟨gg2,pg2,kg2⟩:=(hg2 H3.objs.size).to;have loop:∀s5:Shared,s5={s2 with heap:=h',toks:=s2.toks+([]:List (Str×Value)).length}->
   codeAny (model X.prog X.w) X.A (.compLoop (G2 elt tg iter t2 i2 scope pos) 0 (.ref it) (.ref s2.heap.objs.size) (compEnvC scope cl H3.objs.size X.env))
    (compPost (model X.prog X.w) X.A X.xe use Qq (.ref s2.heap.objs.size) H3.objs.size) s5:=by
  rintro s5 rfl
  let Y:=blk X scope cl s2 H2 fp H3.objs.size (N++[accN])
  let O':Av:=fun b=>AvO O ρ σ b/\¬Capd ρ σ js b
  let L':=(some js.length,s2.heap.objs.size)::lentL none σ
  refine a9c (hs2 _) (fun n s=>∃i σ' H' ρ',n=xs.length-i/\i<=xs.length/\Inv Y [] σ' H' s/\tn i s.heap/\(∀y∈fp,H' y=none)/\Rep Y P O' L' ρ' σ' H'/\loopC (turnC2 js.length gf fi2 gf2 fe) (xs.drop i) ρ'=some ρe) ?_ xs.length
   ⟨0,_,_,_,by simp,jN _,I4,T.keep 0 _ _ st2 fun y hy o eo=>kp4 y o (kp3 y o eo),fun y hy=>by rw[g8 (zT (fl y hy))];exact(f2 y hy).1,R4,by simpa using e⟩
  rintro n s ⟨i,σ',H',ρ',rfl,hi,I,st,fr,rp,el⟩;obtain⟨wi,ws⟩:=wk Y O' L' ρ' σ' H' rfl rfl rp (fun b z=>z.1) (fun _ i b m=>(zX.mp m).elim (fun m=>by cases m;exact hDn) (fun m=>by cases m))
  by_cases hlt:i<xs.length
  ·obtain⟨go,yl⟩:=wi i xs[i] (by simp[hlt])
   refine zF (T.item Y rfl rfl rfl hcalm i [] s σ' H' Fa I (hfree fr) st go) (fun r s1 ⟨u,hr,h1⟩=>?_) fun _ _ z=>z;subst hr;refine zF h1 (fun _ s3 ⟨x,H5,I5,r5,y5,st5,fr5⟩=>?_) fun _ _ z=>z;obtain⟨sm5,dx⟩:=yl x H5 y5
   replace rp:=rp.grow sm5
   rw[xZ hlt,loopC] at el;cases e1:turnC2 js.length gf fi2 gf2 fe xs[i] ρ' with
   | none=>rw[e1] at el;cases el
   | some ρt=>
    rw[e1] at el;simp only[bind_some] at el;unfold turnC2 at e1;cases e2:gf xs[i] ρ' with
    | none=>rw[e2] at e1;cases e1
    | some ρ1=>
     rw[e2] at e1;simp only[bind_some] at e1;have I5':=I5.pinned (hfree fr5) (T.obj _ _ st5);have gq:=kg P O' L' xs[i] x ρ' ρ1 σ' H5 (fun σ2 Hh=>Rep Y P O' L' ρ1 σ2 Hh) rp dx e2 (fun σ2 H2' rp2=>rp2);refine zF (pg _ s3 σ' H5 x u _ I5' r5 gq) (fun _ s6 ⟨σ6,H6,I6,rp6⟩=>?_) fun _ _ z=>z;have back:∀{s7:Shared} {σ7:L2.St} {H7:Hp},Inv Y ([]++pinsAt fp s3.heap) σ7 H7 s7->Rep Y P O' L' ρt σ7 H7->
       ∃m,m<xs.length-i/\∃i σ' H' ρ',m=xs.length-i/\i<=xs.length/\Inv Y [] σ' H' s7/\tn i s7.heap/\(∀y∈fp,H' y=none)/\Rep Y P O' L' ρ' σ' H'/\loopC (turnC2 js.length gf fi2 gf2 fe) (xs.drop i) ρ'=some ρe:=fun{s7 σ7 H7} I7 rp7=>by
      refine⟨xs.length-(i+1),by omega,i+1,σ7,H7,ρt,rfl,hlt,I7.unpinned,T.keep _ _ _ st5 fun y hy o eo=>(I7.pin (y,o) (qA _ (qA _ (B0 hy eo)))).1,fun y hy=>?_,rp7,el⟩
      obtain⟨o,eo,_⟩:=T.obj _ _ st5 y hy;exact(I7.pin (y,o) (qA _ (qA _ (B0 hy eo)))).2.1
     obtain⟨⟨zs,ρ2⟩,e3,e1⟩:=obs e1;dsimp only at e1;refine zF ((hi2 H3.objs.size).to _ s6 σ6 H6 _ I6 ⟨P,O',L',ρ1,zs,ρ2,rp6,e3,fun J2 H7 P' r7 hh wk2=>(⟨P',r7,hh,wk2⟩:∃P',Rep Y P' O' L' ρ2 σ6 H7/\Holds P' P/\Wks Y.K P' zs J2)⟩) (fun v s7 h7=>zF h7 (fun itv s8 h8=>?_) fun _ _ z=>z) fun _ _ z=>z;obtain⟨it2,fp2,tn2,J2,H8,rfl,I8,T2,st8,f8,P',rp8,hh,wk2⟩:=h8;have free2:∀{H':Hp},(∀y∈fp2,H' y=none)->∀y∈fp2,FpOk Y ([]++pinsAt fp s3.heap) H' y:=fun hn y hy=>⟨hn y hy,(f8 y hy).2⟩;have inner:codeAny (model X.prog X.w) X.A (.compLoop (G2 elt tg iter t2 i2 scope pos) 1 (.ref it2) (.ref s2.heap.objs.size) (compEnvC scope cl H3.objs.size X.env)) (fun r s'=>r= .ok .next/\∃m,m<xs.length-i/\∃i σ' H' ρ',m=xs.length-i/\i<=xs.length/\Inv Y [] σ' H' s'/\tn i s'.heap/\(∀y∈fp,H' y=none)/\Rep Y P O' L' ρ' σ' H'/\loopC (turnC2 js.length gf fi2 gf2 fe) (xs.drop i) ρ'=some ρe) s8:=by
      refine b16 (fun n s=>∃j σ' H' ρ',n=zs.length-j/\j<=zs.length/\Inv Y ([]++pinsAt fp s3.heap) σ' H' s/\tn2 j s.heap/\(∀y∈fp2,H' y=none)/\Rep Y P' O' L' ρ' σ' H'/\loopC (turnC js.length gf2 (fun ρ=>some (true,ρ)) fe) (zs.drop j) ρ'=some ρt) ?_ zs.length
       ⟨0,σ6,H8,ρ2,by simp,jN _,I8,st8,fun y hy=>(f8 y hy).1,rp8,by simpa using e1⟩
      rintro n s ⟨j,σj,Hj,ρj,rfl,hj,Ij,stj,frj,rpj,elj⟩;obtain⟨wj,wsj⟩:=wk2 Y O' L' ρj σj Hj rfl rpj
      by_cases hjl:j<zs.length
      ·obtain⟨go2,yl2⟩:=wj j zs[j] (by simp[hjl])
       refine zF (T2.item Y rfl rfl rfl hcalm j _ s σj Hj Fa Ij (free2 frj) stj go2) (fun r sa ⟨ua,hra,ha⟩=>?_) fun _ _ z=>z;subst hra;refine zF ha (fun _ sb ⟨xb,Hb,Ib,rb,yb,stb,frb⟩=>?_) fun _ _ z=>z;obtain⟨smb,dxb⟩:=yl2 xb Hb yb
       replace rpj:=rpj.grow smb
       rw[xZ hjl,loopC] at elj;cases et:turnC js.length gf2 (fun ρ=>some (true,ρ)) fe zs[j] ρj with
       | none=>rw[et] at elj;cases elj
       | some ρk=>
        rw[et] at elj;simp only[bind_some] at elj;unfold turnC at et;cases eg:gf2 zs[j] ρj with
        | none=>rw[eg] at et;cases et
        | some ρ3=>
         rw[eg] at et;simp only[bind_some,jC] at et;have Ib':=Ib.pinned (free2 frb) (T2.obj _ _ stb);have gk:=kg2 P' O' L' zs[j] xb ρj ρ3 σj Hb (fun σ2 Hh=>Rep Y P' O' L' ρ3 σ2 Hh) rpj dxb eg (fun σ2 H2' rp2=>rp2);refine zF (pg2 _ sb σj Hb xb ua _ Ib' rb gk) (fun _ sc ⟨σc,Hc,Ic,rpc⟩=>?_) fun _ _ z=>z;cases e4:fe ρ3 with
         | none=>rw[e4] at et;cases et
         | some p=>
          obtain⟨w,ρ4⟩:=p;rw[e4] at et;simp only[bind_some,appTo] at et;cases e5:takeAll ρ4 [w.fz] with
          | none=>rw[e5] at et;cases et
          | some p=>
           obtain⟨ds,ρ5⟩:=p;rw[e5] at et;simp only[bind_some] at et;split at et
           ·rename_i d zz e6;split at et
            ·rename_i hl;cases et;refine zF ((he H3.objs.size).to _ sc σc Hc (fun v H8=>Rep Y P' O' L' ρ5 σc H8/\Den X.K (AvO O' ρ5 σc) H8 d v) Ic ⟨P',O',L',ρ3,w,ρ4,rpc,e4,fun v H8 H8' r8 s8 d8=>?_⟩) (fun u8 s8 ⟨v8,H8,I8,r8,rp8,d8⟩=>?_) fun _ _ z=>z
             ·obtain⟨r9,l9,_⟩:=n8 (vs:=[v]) (r8.grow s8) e5 ⟨v,[],rfl,d8.fz r8 s8,rfl⟩;obtain⟨v',ev,h'⟩:=denL1 l9;cases ev;exact⟨r9,h'⟩
             ·obtain⟨d0,q1,q2⟩:=rp8.lnd js.length s2.heap.objs.size zJ;have e6':=e6;unfold ownAt at e6';rw[q1] at e6';cases e6';obtain⟨a,h1,vs,h4,lz⟩:=rp8.obj q1 rfl;rw[q2] at h1;cases h1;have h9:=a1g (X:=Y) _ s8 σc H8 (.ref s2.heap.objs.size) [v8] (.ref s2.heap.objs.size) [u8] (fun v H9=>H9=upd H8 s2.heap.objs.size (.lst (vs++[v8]))) I8 rfl (.cons r8 .nil) ⟨_,vs,v8,rfl,rfl,h4,by rw[<-c6 lz];exact zK hl t7,rfl⟩
              refine zF h9 (fun _ s9 ⟨v9,H9,I9,_,e9⟩=>?_) fun _ _ z=>z;subst e9;have g0:Go (AvO O' ρ5 σc) (AvO O' ρ5 σc) (fun b=>b=s2.heap.objs.size) H8 (upd H8 s2.heap.objs.size (.lst (vs++[v8]))):=⟨fun b o eb nb=>by rw[g8 nb];exact eb,fun b z=>by rw[z];exact⟨.inr ⟨js.length,_,_,q1,rfl,q2⟩,_,h4,trivial⟩,fun b z=>.inl z⟩
              refine⟨zs.length-(j+1),by omega,j+1,σc,_,_,rfl,hjl,I9.unpinned,T2.keep _ _ _ stb fun y hy o eo=>(I9.pin (y,o) (qA _ (qA _ (B0 hy eo)))).1,fun y hy=>?_,rp8.mut (d:=.lst (zz++[d])) e6 q2 (fun b o eb nb=>by rw[g8 nb];exact eb) ⟨_,p9,w4 g0 _ _ (t5 lz (j8 d8 k5))⟩,elj⟩
              obtain⟨o,eo,_⟩:=T2.obj _ _ stb y hy;exact(I9.pin (y,o) (qA _ (qA _ (B0 hy eo)))).2.1
            ·cases et
           ·cases et
      ·have hje:j=zs.length:=by omega
       subst hje;refine zF (T2.done Y rfl rfl rfl hcalm _ _ s σj Hj Fa Ij (free2 frj) stj wsj) (fun r sa ⟨hra,Ia⟩=>?_) fun _ _ z=>z;subst hra;rw[List.drop_eq_nil_of_le (zE _),loopC] at elj;cases elj;exact⟨rfl,back Ia (rpj.holds hh)⟩
     exact a9N inner (T2.self _ 0 _ _ _ st8 inner)
  ·have hie:i=xs.length:=by omega
   subst hie;refine zF (T.done Y rfl rfl rfl hcalm _ [] s σ' H' Fa I (hfree fr) st ws) (fun r s1 ⟨hr,I1⟩=>?_) fun _ _ z=>z;subst hr;rw[List.drop_eq_nil_of_le (zE _),loopC] at el;cases el;exact fin _ _ σ' H' s1 hDn leC I1 rp
 exact codeAny_compStart_list (loop _ rfl) (T.self _ 0 _ _ _ (T.keep 0 _ _ st2 fun y hy o eo=>kp4 y o (kp3 y o eo)) (loop _ rfl))
theorem a8o {Q:VK}{H:Hp}{s:Shared}{newPos:Pos}(hc:X.calm=true)(b:Blk X scope cl N js)(hi:QIB X none tg iter fi)
  (hg:∀s2 H2 fp C,QG (blk X scope cl s2 H2 fp C (N++[accN])) tg gf) (hi2:∀s2 H2 fp C,QI (blk X scope cl s2 H2 fp C (N++[accN])) t2 i2 fi2) (hg2:∀s2 H2 fp C,QG (blk X scope cl s2 H2 fp C (N++[accN])) t2 gf2) (he:∀s2 H2 fp C,QX (blk X scope cl s2 H2 fp C (N++[accN])) elt fe) (hs:∀x,foldedSetIterable iter X.env x=pure x) (hs2:∀C x,foldedSetIterable i2 (compEnvC scope cl C X.env) x=pure x)
  (I:Inv X pins σ H s) (h:tX X (fComp2 fi js gf fi2 gf2 fe) σ H Q)
  (fin:∀(C:Addr) (v:V) (He:Hp) (s1:Shared),Q v He->(∀h9:Heap,(∀y,y≠C->h9.get? y=s1.heap.get? y)->Inv X pins σ He {s1 with heap:=h9})->FpOk X pins He C->(∃m,s1.heap.Ns C m)->∀vv,RelV v vv->compPost (model X.prog X.w) X.A X.xe use Qq vv C (.ok .next) s1):
  wpAny (model X.prog X.w) X.A (comprehension (G2 elt tg iter t2 i2 scope pos) scope X.env newPos (newList []) false (eval iter X.env) use) Qq X.xe s:=by
 obtain⟨P,O,L,ρ,w,ρ',r,e,q⟩:=h;unfold fComp2 at e;obtain⟨⟨xs,ρ1⟩,e1,e⟩:=obs e;dsimp only at e;cases e2:loopC (turnC2 js.length gf fi2 gf2 fe) xs (capE none js ρ1++[some (.l (.lst []))]) with
 | none=>rw[e2] at e;cases e
 | some ρe=>
  rw[e2] at e;simp only[bind_some] at e;split at e
  ·rename_i ys ey;have hl:LiOk none js ρ1:=⟨nofun,nofun,nofun⟩
   refine wpAny_comprehension_free rfl hs b.clos b.kind b.nms ?_;refine zF (hi.to pins s σ H _ I ⟨P,O,L,ρ,xs,ρ1,r,e1,fun J H1 P' r1 hh wk=>(⟨P',r1,hh,wk⟩:∃P',Rep X P' O L ρ1 σ H1/\Holds P' P/\WksB none X.K P' O ρ1 σ H1 xs J)⟩) (fun v s1 h1=>zF h1 (fun itv s2 h2=>?_) fun _ _ z=>z) fun _ _ z=>z;obtain⟨it,fp,tn,J,H2,rfl,I2,T,st2,f2,P',r1,hh,wk⟩:=h2;refine a8g hc I2 T st2 f2 b r1 wk (hg s2 H2 fp) (hi2 s2 H2 fp) (hg2 s2 H2 fp) (he s2 H2 fp) hs2 e2 fun Dd C σe He s3 hn leC I1 rp=>?_;obtain⟨Hx,rx,sx,dx⟩:=a4i r1 hl hn rp ey e;obtain⟨m,hm,_⟩:=id I1.loc;refine fin C (.ref Dd) He s3 (q _ Hx He (rx.holds hh) sx dx) (fun h9 k9=>a2H I2 f2 leC I1 k9) ?_ ⟨m,hm⟩ (.ref Dd) rfl;exact I2.fpOk leC I1.free
  ·cases e
theorem a5j (hc:X.calm=true)(b:Blk X scope cl N js)(hi:QIB X none tg iter fi)(hg:∀s2 H2 fp C,QG (blk X scope cl s2 H2 fp C (N++[accN])) tg gf)(hi2:∀s2 H2 fp C,QI (blk X scope cl s2 H2 fp C (N++[accN])) t2 i2 fi2)(hg2:∀s2 H2 fp C,QG (blk X scope cl s2 H2 fp C (N++[accN])) t2 gf2)(he:∀s2 H2 fp C,QX (blk X scope cl s2 H2 fp C (N++[accN])) elt fe)
  (hs:∀x,foldedSetIterable iter X.env x=pure x:=by intro _;rfl) (hs2:∀C x,foldedSetIterable i2 (compEnvC scope cl C X.env) x=pure x:=by intro _ _;rfl):QX X (G2 elt tg iter t2 i2 scope pos) (fComp2 fi js gf fi2 gf2 fe):=⟨fun pins s σ H Q I h=>by
 rw[eval_ListComp];refine a8o (use:=none) hc b hi hg hi2 hg2 he hs hs2 I h fun C v He s1 hq back fp ⟨m,hm⟩ vv rv=>?_
 exact⟨m,hm,fun h9 k9=>⟨v,He,back h9 fun y ny=>k9.2 y ny,rv,hq⟩⟩⟩
end
section
variable {ρ:Ev}{i:Nat}{d:D}{xs:List D}
def fn2 (ρ:Ev):Option (Option W)->Option (List D×Ev)
 | some (some (.v d))=>(items d).map fun xs=>(xs,ρ)
 | some (some (.r _))=>none
 | some (some w)=>match w.own with
  | some (.lst xs)=>some (xs,ρ)
  | _=>none
 | _=>none
def fn3 (ρ:Ev):Option (List D)->Option (List D×Ev)
 | some xs=>some (xs,ρ)
 | none=>none
theorem r_fn:fiName i ρ=fn2 ρ ρ[i]?:=by
 unfold fiName fn2;cases ρ[i]? with
 | none=>rfl
 | some o=>cases o with
  | none=>rfl
  | some w=>cases w<;>rfl
theorem a9j:fn2 ρ (some (some (.v d)))=fn3 ρ (items d):=by
 show(items d).map _=_;unfold fn3;cases items d<;>rfl
theorem a9Y:fn2 ρ (some (some (.o (.lst xs))))=some (xs,ρ):=rfl
theorem r_fn_l:fn2 ρ (some (some (.l (.lst xs))))=some (xs,ρ):=rfl
theorem b3m:fn3 ρ (some xs)=some (xs,ρ):=rfl
end
mutual
def toP:D->PyData
 | .non=>.none
 | .bl b=>.bool b
 | .int i=>.int i
 | .str x=>.str x
 | .tup xs=>.tuple (toPs xs)
 | .lst xs=>.list (toPs xs)
 | _=>.none
def toPs:List D->List PyData
 | []=>[]
 | x::xs=>toP x::toPs xs
end
section
open Classical in
end
section
variable {X:Cx}{a:Expr}{f:FX}{pos:Pos}
theorem b1K {ta:TE}(ha:PE X a ta):PE X (.UnaryOp .Not a pos) (fun σ H Q=>ta σ H fun x H'=>∃k,TruV X.K x H' k/\Q (.bl (!k)) H'):=by
 intro pins s σ H Q I h;refine UnaryOp_ (thn (ha pins s σ H _ I h) fun v s1 ⟨x,H1,I1,r1,q1⟩=>?_);obtain⟨k,q1,q2⟩:=q1;exact not_of (zF (a9Z pins s1 σ H1 x v (fun k' H'=>Q (.bl (!k')) H') I1 r1 ⟨k,q1,q2⟩) (fun b s2 ⟨H2,I2,q3⟩=>⟨.bl (!b),H2,I2,rfl,q3⟩) (fun _ _ z=>z))
def fNotT (f:FX):FX:=fun ρ=>(fTru f ρ).map fun p=>(.v (.bl (!p.1)),p.2)
theorem a39 (ha:QX X a f):QX X (.UnaryOp .Not a pos) (fNotT f):=⟨PE.weak (b1K ha.to) fun σ H Q h0=>tXe h0 fun P O L ρ w0 ρ' r e q=>by
 unfold fNotT fTru at e;cases e1:f ρ with
 | none=>rw[e1] at e;cases e
 | some p=>
  obtain⟨w,ρ1⟩:=p;rw[e1] at e;simp only[bind_some] at e;cases e2:dr ρ1 w.fz with
  | none=>rw[e2] at e;cases e
  | some d=>
   rw[e2] at e;simp only[bind_some] at e;cases e3:truth d with
   | none=>rw[e3] at e;cases e
   | some k'=>
    rw[e3] at e;cases e
    exact⟨P,O,L,ρ,w,_,r,e1,fun v H1 H' r1 s1 d1=>⟨k',a7D e3 (E8 (r1.grow s1) e2 (d1.fz r1 s1)),q _ H' H' (r1.grow s1) (Same.refl _) C6⟩⟩⟩
end
section
variable {f:FX}{ρ:Ev}{k:Bool}
def nt2:Option (Bool×Ev)->Option (W×Ev)
 | some p=>some (.v (.bl (!p.1)),p.2)
 | none=>none
theorem r_nt:fNotT f ρ=nt2 (tru2 (f ρ)):=by unfold fNotT;rw[b0k];unfold nt2;cases tru2 (f ρ)<;>rfl
theorem b2K:nt2 (some (k,ρ))=some (.v (.bl (!k)),ρ):=rfl
end
def key2 (t:Tie):List Int:=[t.1,t.2.1]
theorem a2N {n:Int}{ts:List Tie}{k:List Int}:k∈parK n ts↔(∃i:Nat,i<n.toNat/\k=[(i:Int)])\/k∈ts.map key2:=by
 unfold parK;rw[qG];refine or_congr ?_ Iff.rfl;rw[zZ];constructor
 ·rintro⟨i,hi,rfl⟩;exact⟨i,jS.mp hi,rfl⟩
 ·rintro⟨i,hi,rfl⟩;exact⟨i,jS.mpr hi,rfl⟩
structure Bq (m:Nat) (q:Rat):Prop where
 nn:0<=q
 le:q<=((10^12:Int):Rat)
 dn:q.den<2^m
theorem Bq.sz {m:Nat}{q:Rat}(h:Bq m q):Sz (m+41) q:=by
 refine⟨?_,zK h.dn (yB (by decide) (by walk_at "o"))⟩
 have h1:=Rat.num_nonneg.mpr h.nn;have h2:=(Rat.le_iff _ _).mp h.le;rw[Rat.num_intCast,Rat.den_intCast] at h2;have h3:q.num<=10^12*(q.den:Int):=by
  have:q.num*((1:Nat):Int)=q.num:=by walk_at "o"
  rw[this] at h2;exact h2
 have h4:(q.num.natAbs:Int)<=10^12*(q.den:Int):=by walk_at "o"
 have h5:q.num.natAbs<=10^12*q.den:=by exact_mod_cast h4
 have h6:10^12*q.den<2^41*2^m:=Nat.mul_lt_mul'' (by decide) h.dn
 rw[<-Nat.pow_add,Nat.add_comm] at h6;walk_at "o"
theorem a2a {C:Prop}{c:FT}{b:FS}{ρ:Ev}{r:Option R}(e:whileV c b ρ=r)(I J:Ev->Prop)(μ:Ev->Nat)(h0:I ρ)(st:∀ρ,I ρ->(∃ρ1,c ρ=some (false,ρ1)/\J ρ1)\/∃ρ1 ρ2,c ρ=some (true,ρ1)/\b ρ1=some (.nx ρ2)/\I ρ2/\μ ρ2<μ ρ)(fin:∀ρ',r=some (.nx ρ')->J ρ'->C):C:=by
 have key:∀(k:Nat) (ρ:Ev),μ ρ<=k->I ρ->∃m ρ',whileF c b m ρ=some (.nx ρ')/\J ρ':=by
  intro k
  induction k with
  | zero=>
   intro ρ hk hi;rcases st ρ hi with ⟨ρ1,e1,j⟩|⟨ρ1,ρ2,e1,e2,i2,lt⟩
   ·exact⟨1,ρ1,by rw[whileF,e1];rfl,j⟩
   ·walk_at "o"
  | succ k ih=>
   intro ρ hk hi;rcases st ρ hi with ⟨ρ1,e1,j⟩|⟨ρ1,ρ2,e1,e2,i2,lt⟩
   ·exact⟨1,ρ1,by rw[whileF,e1];rfl,j⟩
   ·obtain⟨m,ρ',e3,j⟩:=ih ρ2 (by walk_at "o") i2
    exact⟨m+1,ρ',by rw[whileF,e1];simp only[bind_some,jC,e2];exact e3,j⟩
 obtain⟨m,ρ',e',j⟩:=key _ ρ (zE _) h0;exact fin ρ' (e.symm.trans (a3N e')) j
theorem a3k {α β:Type}(f:α->β):∀(l:List α) (j:Nat),(l.map f).eraseIdx j=(l.eraseIdx j).map f
 | [],j=>by simp
 | x::l,0=>rfl
 | x::l,j+1=>by rw[zH,List.eraseIdx_cons_succ,List.eraseIdx_cons_succ,zH,a3k f l j]
def up (m:Nat):List Int:=(List.range m).map fun(i:Nat)=>0+(i:Int)
theorem a9I (m:Nat):rngD 0 m=(up m).map D.int:=by unfold rngD up;rw[qF];rfl
theorem A6 {m:Nat}{x:Int}:x∈up m↔0<=x/\x<m:=by
 unfold up;rw[zZ];constructor
 ·rintro⟨i,hi,rfl⟩;rw[jS] at hi;walk_at "o"
 ·intro h;exact⟨x.toNat,jS.mpr (by walk_at "o"),by walk_at "o"⟩
theorem v5 (m:Nat):(up m).length=m:=by unfold up;simp
theorem a8c (m:Nat):(up m).Pairwise (· < ·):=by
 unfold up;rw[yF];exact List.pairwise_lt_range.imp fun h=>by walk_at "o"
theorem T4 (m:Nat):(up m).Nodup:=(a8c m).imp fun h=>by walk_at "o"
theorem a5X {m i:Nat}(h:i<m):(up m).getD i 0=(i:Int):=by
 unfold up;rw[zQ,zV,jU h];show 0+(i:Int)=i;walk_at "o"
section
variable {X:Cx}
theorem a8S (hc:X.calm=true):CallR X (.builtin "sum") (fun xs H Q=>∃(p:Addr) (ns:List Int),xs=[.ref p]/\SqT X.K H p (ns.map V.int)/\Q (.int ns.sum) H):=by
 intro pins s σ H xs us Q I r h;obtain⟨p,ns,rfl,hq,q⟩:=h;obtain⟨u,rfl,ru⟩:=vals1 r;cases ru;obtain⟨its,rv,ht,hz⟩:=I.tuple hq;have ht:s.heap.IsTuple p its.toArray:=ht;obtain⟨o,h1,_⟩:=id ht;have lt:p<s.heap.objs.size:=zW h1;refine call_sum_walkG (wpAny_pyIter_tuple ht ⟨s.heap.objs.size,_,_,_,_,_,fun i=>ns.getD i 0,rfl,Walks.tuple (show X.A.in1.handled=none from I.ok.hd hc) _ _ (zT lt) _,⟨⟨_,zS _ rfl,rfl,rfl⟩,ht.at fun o e=>zD _ e⟩,fun c hb=>?_,fun i v hv=>a7P rv hv,fun h' tk t' hk=>?_⟩)
 ·show c<(s.heap.push _).objs.size;rw[yC];rcases zX.mp hb with rfl|hb
  ·exact Nat.lt_succ_self _
  ·rw[zN.mp hb];exact Nat.lt_succ_of_lt lt
 ·have I1:Inv X pins σ H {s with heap:=h',toks:=tk}:=I.kept (t':=tk) fun b ob e=>hk b ob (fun z=>absurd (zW e) (by rw[zN.mp z];exact jD _)) (zD _ e)
  refine⟨.int ns.sum,H,I1,⟨t',?_⟩,q⟩;have len:its.toArray.size=ns.length:=by rw[zO,<-rv.length,zC]
  rw[len,a1G]
def gSumG:D->Option W
 | .lst xs=>(intsOf xs).map fun ns=>.v (.int ns.sum)
 | .tup xs=>(intsOf xs).map fun ns=>.v (.int ns.sum)
 | _=>none
theorem b17:PrA X (k1 gSumG) (fun xs H Q=>(∃(p:Addr) (ns:List Int),xs=[.ref p]/\SqL X.K H p (ns.map V.int)/\Q (.int ns.sum) H)\/∃(p:Addr) (ns:List Int),xs=[.ref p]/\SqT X.K H p (ns.map V.int)/\Q (.int ns.sum) H):=pr1 fun A d w v H Q e h q=>by
 cases d with
 | lst xs=>
  simp only[gSumG] at e;cases e1:intsOf xs with
  | none=>rw[e1] at e;cases e
  | some ns=>
   rw[e1] at e;cases e;obtain⟨a,vs,rfl,hq,l⟩:=h;rw[u7 e1] at l;rw[q9 l] at hq;exact .inl ⟨a,ns,rfl,hq,q _ H (Same.refl H) D0⟩
 | tup xs=>
  simp only[gSumG] at e;cases e1:intsOf xs with
  | none=>rw[e1] at e;cases e
  | some ns=>
   rw[e1] at e;cases e;have h:Den X.K A H (.tup xs) v:=h;rw[Den] at h;obtain⟨a,vs,rfl,hq,l⟩:=h;rw[u7 e1] at l;rw[q9 l] at hq;exact .inr ⟨a,ns,rfl,hq,q _ H (Same.refl H) D0⟩
 | _=>cases e
theorem b3M {xs:List D}{ns:List Int}(h:intsOf xs=some ns):gSumG (.tup xs)=some (.v (.int ns.sum)):=by unfold gSumG;simp only[h,jF]
end
section
variable {X:Cx}{a b:Expr}{f g:FX}{pos:Pos}
def rCatT0 (K:PySem.W.Frag):R2:=fun x y H Q=>∃a b ys,x= .ref a/\y= .ref b/\SqT K H a []/\SqT K H b ys/\Q (.ref b) H
theorem b0C:OpR X (binaryOp .Add) (rCatT0 X.K):=by
 intro pins s σ H x y v u Q I rx ry h;obtain⟨a,b,ys,rfl,rfl,ha,hb,q⟩:=h;cases rx;cases ry;obtain⟨its,r1,p1,_⟩:=I.tuple ha;obtain⟨its2,r2,p2,_⟩:=I.tuple hb;have e0:its=[]:=r1.nil_iff.mpr rfl;subst e0;obtain⟨⟨cls,dd,data,sl⟩,ho,hc,n,hd⟩:=p1;obtain⟨⟨cls2,dd2,data2,sl2⟩,ho2,hc2,n2,hd2⟩:=p2;simp only at hc hd hc2 hd2;subst hc hd hc2 hd2;exact concat_meets ⟨_,ho,rfl⟩ ⟨_,ho2,rfl⟩ noFill_tuple_add seq_tuple_add PySem.F.slot_tuple_add PySem.F.entry_tuple_add (PySem.F.args_tuple_add_2 _ _) (tuple_addW0 a b _ _ n n2 dd dd2 sl sl2 rfl) ⟨ho,ho2,.ref b,H,I,rfl,q⟩
def oAddT:D->D->Option W
 | .tup xs,.tup ys=>if xs.length+ys.length<=lim then some (.v (.tup (xs++ys))) else none
 | _,_=>none
theorem b1y (ha:QX X a f)(hb:QX X b g):QX X (.BinOp a .Add b pos) (fBin oAddT f g):=Q9 (b0C.or a6M) (by
 intro A x y w v u H Q _ e hx hy q;cases x<;>cases y<;>simp only[oAddT] at e<;>try cases e
 rename_i xs ys;split at e
 ·rename_i hl;cases e;have hx:Den X.K A H (.tup xs) v:=hx;have hy:Den X.K A H (.tup ys) u:=hy;rw[Den] at hx hy;obtain⟨a,vs,ev,ha,la⟩:=hx;obtain⟨b,us,eu,hb,lb⟩:=hy
  by_cases h0:xs=[]
  ·subst h0;have z:vs=[]:=yO.mp (c6 la).symm;subst z;refine .inl ⟨a,b,us,ev,eu,ha,hb,q _ H (Same.refl H) ?_⟩;show Den _ _ _ _ _;rw[nil_append,Den];exact⟨b,us,rfl,hb,lb⟩
  ·refine .inr ⟨a,b,vs,us,ev,eu,ha,hb,fun z=>?_,?_,fun z=>?_,fun _ p hp=>q _ _ (j7 hp _) (O5 hp (t5 la lb))⟩
   rotate_left 2
   ·subst z;have z:ys=[]:=yO.mp (c6 lb);subst z;refine q _ H (Same.refl H) ?_;show Den _ _ _ _ _;rw[xD,Den];exact⟨a,vs,rfl,ha,la⟩
   ·subst z;exact h0 (yO.mp (c6 la))
   ·rw[<-c6 la,<-c6 lb];exact qC hl t7
 ·cases e) ha hb
theorem a93 {xs ys:List D}:oAddT (.tup xs) (.tup ys)=if xs.length+ys.length<=lim then some (.v (.tup (xs++ys))) else none:=rfl
end
abbrev FP:=Ev->Option W
def tP (X:Cx) (f:FP):TE:=fun σ H Q=>∃P O L ρ w,Rep X P O L ρ σ H/\f ρ=some w/\∀v H1 H',Same H H1->Same H1 H'->DenW X.K (AvO O ρ σ) σ H1 H' w v->Q v H'
structure QP (X:Cx) (e:Expr) (f:FP):Prop where
 to:PE X e (tP X f)
section
variable {X:Cx}{e:Expr}{pos:Pos}
def fpVar (i:Nat):FP:=fun ρ=>match ρ[i]? with
 | some (some (.v d))=>some (.v d)
 | _=>none
theorem b1R (i:Nat){x:Str}(hN:X.N[i]? =some x:=by rfl)(hv:Vis X.env.scope x:=by first|exact Or.inl rfl|exact Or.inr (Or.inl rfl)|exact Or.inr (Or.inr rfl))(hd:(x==("__debug__":Str))=false:=by decide)(hcd:(x==("__classdict__":Str))=false:=by decide):QP X (.Name x pos) (fpVar i):=by
 refine⟨PE.weak (a4v hN hv hd hcd) fun σ H Q h0=>?_⟩;obtain⟨P,O,L,ρ,w,r,e,q⟩:=h0;unfold fpVar at e;split at e
 ·rename_i d0 e0;cases e;obtain⟨v,h1,h2⟩:=r.slot i _ e0;exact⟨v,h1,q v H H (Same.refl H) (Same.refl H) h2⟩
 ·cases e
def fpC (d:D):FP:=fun _=>some (.v d)
end
def fpv:Option (Option W)->Option W
 | some (some (.v d))=>some (.v d)
 | _=>none
section
variable {i:Nat}{ρ:Ev}{d:D}
theorem r_fpc:fpC d ρ=some (.v d):=id rfl
theorem r_fpv:fpVar i ρ=fpv ρ[i]?:=by unfold fpVar fpv;rfl
theorem b4a:fpv (some (some (.v d)))=some (.v d):=id rfl
end
theorem a2m {K:PySem.W.Frag}{A:Av}{H:Hp}:∀{ds:List D} {vs:List V},DenL K A H ds vs->DenL K A H ds.reverse vs.reverse
 | [],_,h=>by rw[DenL] at h;subst h;exact k5
 | d::ds,_,h=>by
  rw[DenL] at h;obtain⟨v,r,rfl,q,l⟩:=h;rw[reverse_cons,reverse_cons];exact t5 (a2m l) (j8 q k5)
section
open Classical in
end
section
variable {X:Cx}{e:Expr}{pos p:Pos}{fa:FA}
theorem a4A:CallR X (.builtin "sorted") (fun xs H Q=>∃(p:Addr) (ns:List Int),xs=[.ref p]/\SqT X.K H p (ns.map V.int)/\ns.length<64/\∀l,H l=none->Q (.ref l) (upd H l (.lst ((sortI ns).map V.int)))):=by
 intro pins s σ H xs us Q I r h;obtain⟨p,ns,rfl,hq,h64,q⟩:=h;obtain⟨u,rfl,ru⟩:=vals1 r;cases ru;refine yA kind_sorted plain_sorted entry_sorted (args_sorted1 _) ?_;unfold Builtin.«sorted»;refine zA (m:=checkCount "sorted" 1 1 _) (zB ?_);obtain⟨its,rv,⟨o,h1,h2,m,h4⟩,hz⟩:=I.tuple hq;have len:its.length=ns.length:=by rw[<-rv.length,zC]
 have sz:its.length<=sizeLine:=by rw[len,jM];walk_at "o"
 refine zA (wpAny_collect_seq p (.inr rfl) h1 h2 h4 (fun G kp=>?_) (by rw[zO];exact sz))
 refine zA (wpAny_newList ?_ sz);have I1:Inv X pins σ H {s with heap:=G}:=I.kept (t':=s.toks) kp
 have ho:(G.push (seqObj "list" its.toArray 0)).get? G.objs.size=some (seqObj "list" its.toArray 0):=zS _ rfl;refine zA (qI ?_);refine qO PyProof.Rows.slot_list_sort ⟨_,ho,rfl⟩ PyProof.Rows.entry_list_sort (list_sort_tree (n:=0) (vs:=its) ho (J4 rv) (by walk_at "o") fun out ns' hI hp hP=>⟨.none,rfl,?_⟩) (PyProof.Rows.args_list_sort _)
 have es:ns'=sortI ns:=PySem.W.lks_uniq (hp.trans (D4 ns).symm) hP (F5 ns);subst es;have g1:=yP ho (fun _=> #[]);have g2:=yP (zD (seqObj "list" #[] 0) (zD (seqObj "tuple" its.toArray 0) g1)) (fun _=>out);have kept:∀b o,G.get? b=some o->(sortedHeap (G.push (seqObj "list" its.toArray 0)) G.objs.size its out).get? b=some o:=fun b o e=>by
  have ne:b≠G.objs.size:=zT (zW e);unfold sortedHeap;rw[xN _ _ _ _ ne];refine zD _ (zD _ ?_);rw[xN _ _ _ _ ne];exact zD _ e
 refine zB ⟨_,rfl,.ref G.objs.size,_,I1.laid (t':=s.toks) (o:=.lst ((sortI ns).map V.int)) kept (zE _) ?_,rfl,q _ (I1.hok.fresh (zE _))⟩;obtain⟨ep,g3⟩:∃ep,(sortedHeap (G.push (seqObj "list" its.toArray 0)) G.objs.size its out).get? G.objs.size=some (seqObj "list" out.toList.toArray ep):=⟨_,by rw[Array.toArray_toList];exact g2⟩
 exact⟨by rw[zC,(D4 ns).length_eq,jM];walk_at "o",out.toList,_,Q1 hI,g3⟩
theorem a3W:CallR X (.builtin "sorted") (fun xs H Q=>∃p ks,xs=[.ref p]/\(∃as,SqT X.K H p (as.map V.ref)/\Al X.K H as ks)/\ks.length<64/\(∀k∈ks,k≠[])/\∀l bs,H l=none->Al X.K H bs (sortK ks)->Q (.ref l) (upd H l (.lst (bs.map V.ref)))):=by
 intro pins s σ H xs us Q I r h;obtain⟨p,ks,rfl,src,h64,ne,q⟩:=h;obtain⟨u,rfl,ru⟩:=vals1 r;cases ru;refine yA kind_sorted plain_sorted entry_sorted (args_sorted1 _) ?_;unfold Builtin.«sorted»;refine zA (m:=checkCount "sorted" 1 1 _) (zB ?_);obtain⟨as,hq,al⟩:=src;have len:=al.len;obtain⟨its,rv,⟨o,h1,h2,m,h4⟩,hz⟩:=I.tuple hq;have ei:=P2 rv;subst ei;have sz:(as.map Value.ref).length<=sizeLine:=by rw[zC,len,jM];walk_at "o"
 refine zA (wpAny_collect_seq p (.inr rfl) h1 h2 h4 (fun G kp=>?_) (by rw[zO];exact sz))
 refine zA (wpAny_newList ?_ sz);have I1:Inv X pins σ H {s with heap:=G}:=I.kept (t':=s.toks) kp
 refine zA (qI (zF (a1t I1 al ne h64 q) (fun _ s' x=>?_) fun _ _ z=>z));exact zB ⟨_,rfl,x⟩
def gSortU:D->Option W
 | .tup xs=>match intsOf xs with
  | some ns=>if ns.length<64 then some (.o (.lst ((sortI ns).map D.int))) else none
  | none=>(tupsOf xs).bind fun ks=>if ks.length<64/\(∀k∈ks,k≠[]) then some (.o (.lst ((sortK ks).map tupI))) else none
 | d=>gSort d
theorem a8W:PrA X (k1 gSortU) (fun xs H Q=>(((∃(p:Addr) (ns:List Int),xs=[.ref p]/\SqL X.K H p (ns.map V.int)/\ns.length<64/\∀l,H l=none->Q (.ref l) (upd H l (.lst ((sortI ns).map V.int))))\/
  ∃p ks,xs=[.ref p]/\SrcT X.K H p ks/\ks.length<64/\(∀k∈ks,k≠[])/\∀l bs,H l=none->Al X.K H bs (sortK ks)->Q (.ref l) (upd H l (.lst (bs.map V.ref))))\/
  (∃(p:Addr) (ns:List Int),xs=[.ref p]/\SqT X.K H p (ns.map V.int)/\ns.length<64/\∀l,H l=none->Q (.ref l) (upd H l (.lst ((sortI ns).map V.int)))))\/
  ∃p ks,xs=[.ref p]/\(∃as,SqT X.K H p (as.map V.ref)/\Al X.K H as ks)/\ks.length<64/\(∀k∈ks,k≠[])/\∀l bs,H l=none->Al X.K H bs (sortK ks)->Q (.ref l) (upd H l (.lst (bs.map V.ref)))):=fun A ds w vs H Q hA e l q=>by
 match ds,e,l with
 | [d],e,l=>
  have e:gSortU d=some w:=e;cases d with
  | tup xs=>
   obtain⟨v,rfl,h⟩:=denRL1 l;have h:Den X.K A H (.tup xs) v:=h;rw[Den] at h;obtain⟨a,us,rfl,hq,lz⟩:=h;unfold gSortU at e;dsimp only at e;cases e1:intsOf xs with
   | some ns=>
    rw[e1] at e;dsimp only at e;split at e
    ·rename_i hl;cases e;rw[u7 e1] at lz;rw[q9 lz] at hq;exact .inl (.inr ⟨a,ns,rfl,hq,hl,fun l hl=>q _ _ (j7 hl _) (v7 hl (F9 _))⟩)
    ·cases e
   | none=>
    rw[e1] at e;dsimp only at e;obtain⟨ks,e2,e⟩:=obs e;split at e
    ·rename_i hl;cases e;obtain⟨as,rfl,al⟩:=a0h e2 lz;exact .inr ⟨a,ks,rfl,⟨as,hq,al⟩,hl.1,hl.2,fun l bs hp al=>q _ _ (j7 hp _) (v7 hp al.den)⟩
    ·cases e
  | lst xs=>exact .inl (.inl (a0E A [_] w vs H Q hA e l q))
  | dT ks xs=>exact .inl (.inl (a0E A [_] w vs H Q hA e l q))
  | dK ks xs=>exact .inl (.inl (a0E A [_] w vs H Q hA e l q))
  | _=>exact .inl (.inl (a0E A [_] w vs H Q hA e l q))
theorem a0f {k:Nat}(hr:Room k X.A)(hc:X.calm=true)(hm:X.mg "sorted"=none)(ha:QA X [e] fa)(hv:bootBuiltins "sorted"=some (.builtin "sorted"):=by rfl)(hg:Gl X "sorted":=by rfl)
  (he:starEach [e] X.env=(false,eval e X.env)::starEach [] X.env:=by rfl):QX X (.Call (.Name "sorted" p) [e] [] pos) (fCall (k1 gSortU) fa):=a2h (((a0w.or (a0O hc)).or a4A).or a3W) a8W hv hm ha hg (by decide) (by decide) he rfl
end
section
variable {xs:List D}
theorem b3X:gSortU (.lst xs)=gSort (.lst xs):=id rfl
theorem b4F {ks:List (List Int)}(h:ks.length<64)(ne:∀k∈ks,k≠[]):gSortU (.tup (ks.map tupI))=some (.o (.lst ((sortK ks).map tupI))):=by
 cases ks with
 | nil=>simp[gSortU,intsOf,sortI,sortK]
 | cons k ks=>
  unfold gSortU;dsimp only;rw[show intsOf ((k::ks).map tupI)=none from rfl];dsimp only;rw[G6,bind_some,if_pos ⟨h,ne⟩]
end
section
variable {X:Cx}{a b c e:Expr}{pos:Pos}{f g:FP}{ff:FX}
theorem b4g {j}:QP X (.Constant .none j pos) (fpC .non):=⟨PE.weak a52 fun σ H Q h0=>by
 obtain⟨P,O,L,ρ,w,r,e,q⟩:=h0;cases e
 exact q _ H H (Same.refl H) (Same.refl H) T3⟩
def fpRepN (g:FP):FP:=fun ρ=>(g ρ).bind fun w=>match w with
 | .v (.int n)=>oRep (.lst [.non]) (.int n)
 | _=>none
theorem b11 {j}{p1 p2:Pos}(hb:QP X b g)(he:starEach [.Constant .none j p1] X.env=(false,eval (.Constant .none j p1) X.env)::starEach [] X.env:=by rfl):QP X (.BinOp (.List [.Constant .none j p1] p2) .Mult b pos) (fpRepN g):=⟨PE.weak (b3r a7z (a91 (K2 a52 a2t he)) hb.to) fun σ H Q h0=>by
 obtain⟨P,O,L,ρ,w,r,e,q⟩:=h0;unfold fpRepN at e;obtain⟨w1,e1,e⟩:=obs e;split at e
 ·rename_i n;unfold oRep at e;dsimp only at e;split at e
  ·rename_i hk;cases e;refine⟨by decide,fun p hp=>?_⟩
   have sp:=j7 hp (.lst [.non]);have r1:=r.grow sp;refine⟨P,O,L,ρ,_,r1,e1,fun v H1 H1' s1 s1' d1=>?_⟩;have sq:SqL X.K H1' p [.non]:=.inl (.inl ((s1.trans s1') _ _ p9));have dn:Den X.K (AvO O ρ σ) H1' .non .non:=by rw[Den]
   have d1:Den X.K (AvO O ρ σ) H1' (.int n) v:=d1;exact⟨p,n,[.non],rfl,u5.mp d1,sq,hk.1.1,hk.1.2,qC hk.2 t7,fun p' hp'=>q _ H1' _ ((sp.trans s1).trans s1') (j7 hp' _) (v7 hp' (a0V (j8 dn k5) _))⟩
  ·cases e
 ·cases e⟩
def fpLen (f:FP):FP:=fun ρ=>(f ρ).bind fun w=>match w with
 | .v d=>gLen d
 | _=>none
theorem b4f {p:Pos}(hm:X.mg "len"=none)(ha:QP X e f)(hv:bootBuiltins "len"=some (.builtin "len"):=by rfl)(hg:Gl X "len":=by rfl)
  (he:starEach [e] X.env=(false,eval e X.env)::starEach [] X.env:=by rfl) (hpl:(backTo pos (starEach [] X.env)).any (·.1)=false:=by rfl):QP X (.Call (.Name "len" p) [e] [] pos) (fpLen f):=⟨PE.weak (a19 r6 hg hm hv (K2 ha.to a2t he) (by decide) (by decide) he hpl) fun σ H Q h0=>by
 obtain⟨P,O,L,ρ,w,r,e,q⟩:=h0;unfold fpLen at e;obtain⟨w1,e1,e⟩:=obs e;split at e
 ·rename_i d;refine⟨P,O,L,ρ,_,r,e1,fun v H1 H1' s1 s1' d1=>?_⟩;have r1:=r.grow (s1.trans s1');exact M9 _ [d] w [v] H1' Q (fun b z=>r1.there z) e ⟨v,[],rfl,F2 d1,rfl⟩ fun z H' s d=>q z H1' H' (s1.trans s1') s d.st
 ·cases e⟩
def tPar3 (i j k:Nat) (ta:TA):TS:=fun D σ H=>ta σ H fun vs H1=>∃u v w,vs=[u,v,w]/\D.nx (((σ.set i (some u)).set j (some v)).set k (some w)) H1
theorem a6F {i j k:Nat}{x y z:Str}{ta:TA}{px py pz pt:Pos}{kt k2 pt2}(hc:X.calm=true)(hN:X.N.Nodup)(hi:X.N[i]? =some x)(hj:X.N[j]? =some y)(hk:X.N[k]? =some z)(hij:i≠j)(hik:i≠k)(hjk:j≠k)
  (hx:X.env.scope.names.lookup x=some .local) (hy:X.env.scope.names.lookup y=some .local) (hz:X.env.scope.names.lookup z=some .local) (ha:PA X [a,b,c] ta)
  (hw:swappedStores [.Tuple [.Name x px,.Name y py,.Name z pz] kt pt] (.Tuple [a,b,c] k2 pt2) X.env=pure (some [x,y,z]))
  (hs:swapsWithSole [.Tuple [.Name x px,.Name y py,.Name z pz] kt pt] (.Tuple [a,b,c] k2 pt2) pos.line X.env=pure false):
  PS X (.Assign [.Tuple [.Name x px,.Name y py,.Name z pz] kt pt] (.Tuple [a,b,c] k2 pt2) pos) (tPar3 i j k ta):=by
 intro pins s σ H D I h;rw[exec_Assign_arm];refine zA (jO ?_);rw[hs];refine zA (zB ?_);rw[if_neg (by decide)]
 refine zA (Tuple_ (thn (ha _ pins s σ H _ I h) fun us s1 ⟨vs,H1,I1,r1,q1⟩=>?_));obtain⟨v1,v2,v3,e1,q1⟩:=q1;subst e1;obtain⟨u1,u2,u3,rfl,ra,rb,rc⟩:∃u1 u2 u3,us=[u1,u2,u3]/\RelV v1 u1/\RelV v2 u2/\RelV v3 u3:=by
  cases r1 with
  | cons p q=>cases q with
   | cons p' q'=>cases q' with
    | cons p'' q''=>cases q'';exact⟨_,_,_,rfl,p,p',p''⟩
 refine qD ?_ (by show 3<=sizeLine;decide)
 have I2:Inv X pins σ H1 {s1 with heap:=s1.heap.push {cls:=.type "tuple",data:=.seq [u1,u2,u3].toArray}}:=I1.kept (t':=s1.toks) fun b o e=>zD _ e
 rw[hw];refine zA (zB ?_);show wpAny (model X.prog X.w) X.A (do rule "assign.swapped-stores";let items <-unpackItems (.ref s1.heap.objs.size) 3 none;assignInOrder [fun v=>bindName X.env z v,fun v=>bindName X.env y v,fun v=>bindName X.env x v] items.reverse;pure Flow.next) _ _ _
 refine zA (jT (zA (unpackItems_tuple (items:= #[u1,u2,u3]) (I.ok.hd hc) (IsTup.new s1.heap _) fun h' hx'=>?_)));have I3:=I2.kept (h':=h') (t':=s1.toks) fun b o e=>hx' b o (zT (zW e)) e;show wpAny _ _ (assignInOrder [fun v=>bindName X.env z v,fun v=>bindName X.env y v,fun v=>bindName X.env x v] [u3,u2,u1] >>=fun _=>pure Flow.next) _ _ _;refine zA (xS (wpAny_bindName (G7 I3 hN hk (.inl hz) rc (fun s2 I4=>?_) (.inr hz))));refine xS (wpAny_bindName (G7 I4 hN hj (.inl hy) rb (fun s3 I5=>?_) (.inr hy)));refine xS (wpAny_bindName (G7 I5 hN hi (.inl hx) ra (fun s4 I6=>assignInOrder_nil (zB ?_)) (.inr hx)));rw[set_comm _ _ (qT hij),set_comm _ _ (qT hik),set_comm _ _ (qT hjk)] at I6;exact⟨_,H1,I6,q1⟩
def fPar3 (i j k:Nat) (fa:FA):FS:=fun ρ=>(fa ρ).bind fun p=>(takeAll p.2 p.1).bind fun q=>match q.1 with
 | [d,d',d'']=>if freeSlot q.2 i=true/\freeSlot (q.2.set i (some (.v d))) j=true/\freeSlot ((q.2.set i (some (.v d))).set j (some (.v d'))) k=true then some (.nx (((q.2.set i (some (.v d))).set j (some (.v d'))).set k (some (.v d'')))) else none
 | _=>none
theorem denL3 {K:PySem.W.Frag}{A:Av}{H:Hp}{d d' d'':D}{vs:List V}(l:DenL K A H [d,d',d''] vs):∃v v' v'',vs=[v,v',v'']/\Den K A H d v/\Den K A H d' v'/\Den K A H d'' v'':=by
 rw[DenL] at l;obtain⟨v,r,rfl,h,l⟩:=l;obtain⟨v',v'',rfl,h',h''⟩:=denL2 l;exact⟨v,v',v'',rfl,h,h',h''⟩
theorem b13 (i j k:Nat){x y z:Str}{px py pz pt:Pos}{kt k2 pt2}{fa:FA}(hc:X.calm=true)(hN:X.N.Nodup)(ha:QA X [a,b,c] fa)(hw:swappedStores [.Tuple [.Name x px,.Name y py,.Name z pz] kt pt] (.Tuple [a,b,c] k2 pt2) X.env=pure (some [x,y,z]))(hi:X.N[i]? =some x:=by rfl)(hj:X.N[j]? =some y:=by rfl)(hk:X.N[k]? =some z:=by rfl)(hij:i≠j:=by decide)(hik:i≠k:=by decide)(hjk:j≠k:=by decide)
  (hx:X.env.scope.names.lookup x=some .local:=by rfl) (hy:X.env.scope.names.lookup y=some .local:=by rfl) (hz:X.env.scope.names.lookup z=some .local:=by rfl)
  (hs:swapsWithSole [.Tuple [.Name x px,.Name y py,.Name z pz] kt pt] (.Tuple [a,b,c] k2 pt2) pos.line X.env=pure false:=by rfl):
  QS X (.Assign [.Tuple [.Name x px,.Name y py,.Name z pz] kt pt] (.Tuple [a,b,c] k2 pt2) pos) (fPar3 i j k fa):=⟨PS.weak (a6F hc hN hi hj hk hij hik hjk hx hy hz ha.to hw hs) fun E σ H h0=>tSe h0 fun P O L ρ r rp e q=>by
 unfold fPar3 at e;obtain⟨⟨ws,ρ1⟩,e1,e⟩:=obs e;dsimp only at e;obtain⟨⟨ds,ρ2⟩,e2,e⟩:=obs e;dsimp only at e;split at e
 ·rename_i d d' d'';split at e
  ·rename_i hf;cases e;refine⟨P,O,L,ρ,ws,ρ1,rp,e1,fun vs H1 r1 l1=>?_⟩;obtain⟨r2,l2,_⟩:=n8 r1 e2 l1;obtain⟨v,v',v'',rfl,h,h',h''⟩:=denL3 l2;have ra:=r2.more (p:=(d'',v'')) h'';have r3:=(ra.more (p:=(d',v')) h').put (i:=i) hf.1 h;have r4:=r3.less.put (i:=j) hf.2.1 r3.head;exact⟨v,v',v'',rfl,q _ H1 (r4.less.put (i:=k) hf.2.2 r4.head)⟩
  ·cases e
 ·cases e⟩
def fPar3O (i j k:Nat) (f:FX) (g h:FP):FS:=fun ρ=>(f ρ).bind fun p=>match p.1 with
 | .o d=>(g p.2).bind fun w=>match w with
  | .o d'=>(h p.2).bind fun w=>match w with
   | .v d''=>if(freeSlot p.2 i=true/\freeSlot (p.2.set i (some (.o d))) j=true/\freeSlot ((p.2.set i (some (.o d))).set j (some (.o d'))) k=true)/\lfC d'=true/\lf d''=true then some (.nx (((p.2.set i (some (.o d))).set j (some (.o d'))).set k (some (.v d'')))) else none
   | _=>none
  | _=>none
 | _=>none
theorem a9F (i j k:Nat){x y z:Str}{px py pz pt:Pos}{kt k2 pt2}{h:FP}(hc:X.calm=true)(hN:X.N.Nodup)(ha:QX X a ff)(hb:QP X b g)(hh:QP X c h)(hw:swappedStores [.Tuple [.Name x px,.Name y py,.Name z pz] kt pt] (.Tuple [a,b,c] k2 pt2) X.env=pure (some [x,y,z]))(hi:X.N[i]? =some x:=by rfl)(hj:X.N[j]? =some y:=by rfl)(hk:X.N[k]? =some z:=by rfl)(hij:i≠j:=by decide)(hik:i≠k:=by decide)(hjk:j≠k:=by decide)
  (hx:X.env.scope.names.lookup x=some .local:=by rfl) (hy:X.env.scope.names.lookup y=some .local:=by rfl) (hz:X.env.scope.names.lookup z=some .local:=by rfl)
  (hs:swapsWithSole [.Tuple [.Name x px,.Name y py,.Name z pz] kt pt] (.Tuple [a,b,c] k2 pt2) pos.line X.env=pure false:=by rfl)
  (h1:starEach [a,b,c] X.env=(false,eval a X.env)::starEach [b,c] X.env:=by rfl) (h2:starEach [b,c] X.env=(false,eval b X.env)::starEach [c] X.env:=by rfl) (h3:starEach [c] X.env=(false,eval c X.env)::starEach [] X.env:=by rfl):
  QS X (.Assign [.Tuple [.Name x px,.Name y py,.Name z pz] kt pt] (.Tuple [a,b,c] k2 pt2) pos) (fPar3O i j k ff g h):=⟨PS.weak (a6F hc hN hi hj hk hij hik hjk hx hy hz (K2 ha.to (K2 hb.to (K2 hh.to a2t h3) h2) h1) hw hs) fun E σ H h0=>tSe h0 fun P O L ρ r rp e q=>by
 unfold fPar3O at e;obtain⟨⟨w1,ρ1⟩,e1,e⟩:=obs e;dsimp only at e;split at e
 ·rename_i _ d;obtain⟨w2,e2,e⟩:=obs e;split at e
  ·rename_i d';obtain⟨w3,e3,e⟩:=obs e;split at e
   ·rename_i d'';split at e
    ·rename_i hf;cases e;obtain⟨⟨f1,f2,f2'⟩,f3,f4⟩:=hf;refine⟨P,O,L,ρ,_,ρ1,rp,e1,fun v H1 H1' r1 s1 d1=>?_⟩;obtain⟨a1,rfl,n1,ob1⟩:=d1;refine⟨P,O,L,ρ1,_,r1.grow s1,e2,fun u H2 H2' s2 s2' d2=>?_⟩;obtain⟨a2,rfl,n2,ob2⟩:=d2;refine⟨P,O,L,ρ1,_,((r1.grow s1).grow s2).grow s2',e3,fun u3 H3 H3' s3 s3' d3=>⟨_,_,_,rfl,q _ _ ?_⟩⟩;have d3:Den X.K (AvO O ρ1 σ) H3' d'' u3:=d3;have k1:H2 a1=H1' a1:=by
      obtain⟨o,eo,_⟩:=F0 ob1;rw[eo];exact s2 _ _ eo
     have ra:=r1.putO (i:=i) (s1.trans s2) f1 n1 (A2 (a1Y s2) k1 ob1);have rb:=ra.putO (i:=j) s2' f2 n2 (S9 (fun _ _ e _=>e) f3 rfl ob2);exact(rb.grow (s3.trans s3')).put (i:=k) f2' (a32 (fun _ _ e _=>e) _ _ f4 d3)
    ·cases e
   ·cases e
  ·cases e
 ·cases e⟩
end
def rpN:Option W->Option W
 | some (.v (.int n))=>oRep (.lst [.non]) (.int n)
 | _=>none
def lenP2:Option W->Option W
 | some (.v d)=>gLen d
 | _=>none
def tri2 (i j k:Nat):Option (List W×Ev)->Option R
 | some p=>(takeAll p.2 p.1).bind fun q=>match q.1 with
  | [d,d',d'']=>if freeSlot q.2 i=true/\freeSlot (q.2.set i (some (.v d))) j=true/\freeSlot ((q.2.set i (some (.v d))).set j (some (.v d'))) k=true then some (.nx (((q.2.set i (some (.v d))).set j (some (.v d'))).set k (some (.v d'')))) else none
  | _=>none
 | none=>none
def tri3 (i j k:Nat):Option (List D×Ev)->Option R
 | some p=>match p.1 with
  | [d,d',d'']=>if freeSlot p.2 i=true/\freeSlot (p.2.set i (some (.v d))) j=true/\freeSlot ((p.2.set i (some (.v d))).set j (some (.v d'))) k=true then some (.nx (((p.2.set i (some (.v d))).set j (some (.v d'))).set k (some (.v d'')))) else none
  | _=>none
 | none=>none
def to2 (i j k:Nat) (g h:FP):Option (W×Ev)->Option R
 | some p=>match p.1 with
  | .o d=>(g p.2).bind fun w=>match w with
   | .o d'=>(h p.2).bind fun w=>match w with
    | .v d''=>if(freeSlot p.2 i=true/\freeSlot (p.2.set i (some (.o d))) j=true/\freeSlot ((p.2.set i (some (.o d))).set j (some (.o d'))) k=true)/\lfC d'=true/\lf d''=true then some (.nx (((p.2.set i (some (.o d))).set j (some (.o d'))).set k (some (.v d'')))) else none
    | _=>none
   | _=>none
  | _=>none
 | none=>none
def to3 (i j k:Nat) (h:FP) (d:D) (ρ:Ev):Option W->Option R
 | some (.o d')=>(h ρ).bind fun w=>match w with
  | .v d''=>if(freeSlot ρ i=true/\freeSlot (ρ.set i (some (.o d))) j=true/\freeSlot ((ρ.set i (some (.o d))).set j (some (.o d'))) k=true)/\lfC d'=true/\lf d''=true then some (.nx (((ρ.set i (some (.o d))).set j (some (.o d'))).set k (some (.v d'')))) else none
  | _=>none
 | _=>none
def to4 (i j k:Nat) (d d':D) (ρ:Ev):Option W->Option R
 | some (.v d'')=>if(freeSlot ρ i=true/\freeSlot (ρ.set i (some (.o d))) j=true/\freeSlot ((ρ.set i (some (.o d))).set j (some (.o d'))) k=true)/\lfC d'=true/\lf d''=true then some (.nx (((ρ.set i (some (.o d))).set j (some (.o d'))).set k (some (.v d'')))) else none
 | _=>none
section
variable {i j k:Nat}{f g h:FP}{ff:FX}{fa:FA}{ρ:Ev}{d d' d'':D}{n:Int}{ws:List W}
theorem b2c:fpRepN g ρ=rpN (g ρ):=by
 unfold fpRepN;cases g ρ with
 | none=>rfl
 | some w=>cases w with
  | v d=>cases d<;>rfl
  | _=>rfl
theorem b0b:rpN (some (.v (.int n)))=oRep (.lst [.non]) (.int n):=id rfl
theorem b1T:fpLen f ρ=lenP2 (f ρ):=by
 unfold fpLen;cases f ρ with
 | none=>rfl
 | some w=>cases w<;>rfl
theorem b1f:lenP2 (some (.v d))=gLen d:=id rfl
theorem b3q:fPar3 i j k fa ρ=tri2 i j k (fa ρ):=by unfold fPar3 tri2;cases fa ρ<;>rfl
theorem a9y:tri2 i j k (some (ws,ρ))=tri3 i j k (takeAll ρ ws):=by
 unfold tri2 tri3;dsimp only;cases takeAll ρ ws<;>rfl
theorem a9A:tri3 i j k (some ([d,d',d''],ρ))=if freeSlot ρ i=true/\freeSlot (ρ.set i (some (.v d))) j=true/\freeSlot ((ρ.set i (some (.v d))).set j (some (.v d'))) k=true then some (.nx (((ρ.set i (some (.v d))).set j (some (.v d'))).set k (some (.v d'')))) else none:=id rfl
theorem r_to:fPar3O i j k ff g h ρ=to2 i j k g h (ff ρ):=by unfold fPar3O to2;cases ff ρ<;>rfl
theorem r_to2:to2 i j k g h (some (.o d,ρ))=to3 i j k h d ρ (g ρ):=by
 unfold to2 to3;dsimp only;cases g ρ with
 | none=>rfl
 | some w=>cases w<;>rfl
theorem r_to3:to3 i j k h d ρ (some (.o d'))=to4 i j k d d' ρ (h ρ):=by
 unfold to3 to4;dsimp only;cases h ρ with
 | none=>rfl
 | some w=>cases w<;>rfl
theorem r_to4:to4 i j k d d' ρ (some (.v d''))=if(freeSlot ρ i=true/\freeSlot (ρ.set i (some (.o d))) j=true/\freeSlot ((ρ.set i (some (.o d))).set j (some (.o d'))) k=true)/\lfC d'=true/\lf d''=true then some (.nx (((ρ.set i (some (.o d))).set j (some (.o d'))).set k (some (.v d'')))) else none:=id rfl
end
theorem b1l {C:Prop}{b:D->FS}{xs:List D}{ρ:Ev}{r:Option R}(e:loopF b xs ρ=r)(I:Nat->Ev->Prop)(J:Ev->Prop)(h0:I 0 ρ)(st:∀i x ρ,xs[i]? =some x->I i ρ->(∃ρ',b x ρ=some (.nx ρ')/\I (i+1) ρ')\/∃ρ',b x ρ=some (.bk ρ')/\J ρ')(c:∀ρ',r=some (.nx ρ')->I xs.length ρ'\/J ρ'->C):C:=by
 have key:∀(ys:List D) (k:Nat) (ρ:Ev),xs.drop k=ys->I k ρ->k<=xs.length->∃ρ',loopF b ys ρ=some (.nx ρ')/\(I xs.length ρ'\/J ρ'):=by
  intro ys
  induction ys with
  | nil=>
   intro k ρ hk h hl
   have:k=xs.length:=by have:=List.drop_eq_nil_iff.mp hk;walk_at "o"
   exact⟨ρ,rfl,.inl (this▸h)⟩
  | cons y ys ih=>
   intro k ρ hk h hl;have hx:xs[k]? =some y:=by
    have:=yQ (·[0]?) hk
    simpa using this
   have lt:=(zG.mp hx).1;rcases st k y ρ hx h with ⟨ρ1,e1,i1⟩|⟨ρ1,e1,j1⟩
   ·obtain⟨ρ2,e2,i2⟩:=ih (k+1) ρ1 (by rw[<-drop_drop,hk];rfl) i1 lt
    exact⟨ρ2,by rw[loopF,e1];exact e2,i2⟩
   ·exact⟨ρ1,by rw[loopF,e1];rfl,.inr j1⟩
 obtain⟨ρ',e',i⟩:=key xs 0 ρ (by simp) h0 (jN _)
 exact c ρ' (e.symm.trans e') i
theorem a7T {α β:Type}{f:α->Option β}{g:α->β}:∀(l:List α),(∀x∈l,f x=some (g x))->l.filterMap f=l.map g
 | [],_=>rfl
 | x::l,h=>by rw[filterMap_cons,h x zJ,zH];dsimp only;rw[a7T l fun y hy=>h y (zI _ hy)]
theorem a76 (xs:Array Value):((List.range xs.size).filterMap fun(m:Nat)=>xs[((xs.size:Int)-1+(m:Int) * -1).toNat]?).toArray=xs.toList.reverse.toArray:=by
 congr 1;apply xT;intro i;have e:(List.range xs.size).filterMap (fun(m:Nat)=>xs[((xs.size:Int)-1+(m:Int) * -1).toNat]?)=(List.range xs.size).map (fun m=>xs.getD (xs.size-1-m) .none):=by
  refine a7T _ fun m hm=>?_;have hm':m<xs.size:=by simpa using hm
  have e1:((xs.size:Int)-1+(m:Int) * -1).toNat=xs.size-1-m:=by walk_at "o"
  have e2:xs.size-1-m<xs.size:=by walk_at "o"
  rw[e1];simp[Array.getD,e2]
 rw[e]
 by_cases h:i<xs.size
 ·have e2:xs.size-1-i<xs.size:=by walk_at "o"
  rw[zV,jU h,List.getElem?_reverse (by simpa using h)]
  simp[Array.getD,e2]
 ·rw[jA (by simp;walk_at "o"),jA (by simp;walk_at "o")]
theorem a8B (items:List Value):slicePick items.toArray none none (some (-1))=items.reverse.toArray:=by
 have e:sliceBounds none none (some (-1)) items.toArray.size=((items.toArray.size:Int)-1,-1,-1):=rfl;have e2:sliceRange ((items.toArray.size:Int)-1) (-1) (-1)=(List.range items.toArray.size).map fun(k:Nat)=>((items.toArray.size:Int)-1+(k:Int) * -1).toNat:=by
  unfold sliceRange;simp only[];rw[if_neg (by decide)]
  have c:(if(items.toArray.size:Int)-1 > -1 then((items.toArray.size:Int)-1 - -1 - -1-1)/(- -1) else 0)=(items.toArray.size:Int):=by
   rw[show(- -1:Int)=1 from rfl,Int.ediv_one]
   split<;>walk_at "o"
  rw[c,qQ];exact jL fun k _=>by rw[Int.mul_comm]
 have p:=a76 items.toArray;unfold slicePick;rw[e,e2,List.filterMap_map];exact p
section
variable {X:Cx}{a e:Expr}{pos:Pos}{f:FX}
def fRevL (f:FX):FX:=fun ρ=>(f ρ).bind fun p=>(dr p.2 p.1.fz).bind fun d=>match d with
 | .lst xs=>some (.o (.lst xs.reverse),p.2)
 | _=>none
theorem b1Z {p1 p2 p3:Pos}{j:Nat}(ha:QX X a f):QX X (.Subscript a (.Slice none none (some (.UnaryOp .USub (.Constant (.int 1) j p1) p2)) p3) pos) (fRevL f):=by
 refine⟨fun pins s σ H Q I h0=>tXe h0 fun P O L ρ w ρ' rp e q=>?_⟩;unfold fRevL at e;obtain⟨⟨w1,ρ1⟩,e1,e⟩:=obs e;dsimp only at e;cases e2:dr ρ1 w1.fz with
 | none=>rw[e2] at e;cases e
 | some x=>
  rw[e2] at e;simp only[bind_some] at e;cases x<;>simp only at e<;>try cases e
  rename_i xs;refine Subscript_ (zF (ha.to pins s σ H (fun v H1=>∃P',Rep X P' O L ρ' σ H1/\∀H2,Rep X P' O L ρ' σ H2->Rep X P O L ρ' σ H2/\DenR X.K (AvO O ρ' σ) H2 (.lst xs) v) I ⟨P,O,L,ρ,w1,ρ',rp,e1,fun v H1 H1' r1 s1 d1=>?_⟩) (fun v s1 ⟨x,H1,I1,r1,P',rp1,kp⟩=>?_) fun _ _ z=>z)
  ·have r1g:=r1.grow s1;obtain⟨P',r1',k1⟩:=hold r1g (d1.fz r1 s1);exact⟨P',r1',fun H2 r2=>by obtain⟨r3,d3⟩:=k1 _ H2 r2;exact⟨r3,E8 r3 e2 d3⟩⟩
  refine wpAny_Slice ?_;rw[evalPart_none];refine zB (zB ?_);rw[evalPart_some];have z:=((M2 (X:=X) (b8 (X:=X) (i:=1) (j:=j) (pos:=p1))):QX X (.UnaryOp .USub (.Constant (.int 1) j p1) p2) _).to pins s1 σ H1 (fun v H2=>v= .int (-1)/\Rep X P' O L ρ' σ H2) I1 ⟨P',O,L,ρ',.v (.int (-1)),ρ',rp1,rfl,fun v H2 H2' r2 s2 d2=>⟨u5.mp (show Den X.K (AvO O ρ' σ) H2' (.int (-1)) v from d2),r2.grow s2⟩⟩;refine zF z (fun vu s3 ⟨y,H3,I3,r3,ey,rp3⟩=>?_) fun _ _ z=>z;subst ey;obtain⟨t,rfl⟩:=r3;have I4:Inv X pins σ H3 {s3 with heap:=s3.heap.push {cls:=.type "slice",data:=.fields #[.none,.none,.int (-1) t]}}:=I3.kept (t':=s3.toks) fun b ob q=>zD _ q
  obtain⟨rp4,dx⟩:=kp H3 rp3;obtain⟨p,vs,ev,hq,la⟩:=dx;subst ev;cases r1;obtain⟨its,r,ht,hz⟩:=I4.list hq;have hlen:=r.length;show wpAny (model X.prog X.w) X.A (subscriptTail a (.Slice none none (some (.UnaryOp .USub (.Constant (.int 1) j p1) p2)) p3) (.ref p) (.ref s3.heap.objs.size)) (EP X pins σ Q) X.xe {s3 with heap:=s3.heap.push {cls:=.type "slice",data:=.fields #[.none,.none,.int (-1) t]}}
  refine tail_any (ops:=[.ref p,.ref s3.heap.objs.size]) ht.isList.typeIs slot_list_getitem.lookup ?_ (by with_unfolding_all rfl)
  refine wpAny_getItem_list_slice ht.isList (Heap.IsSliceOf.new ..) .none .none (.int (-1) t) (fun z=>by cases z) ?_ (by rw[zO];walk_at "o")
  rw[a8B];have fr:=I4.hok.fresh (zE _);refine⟨.ref _,_,I4.laid (t':=s3.toks) (o:=.lst vs.reverse) (fun b ob q=>zD _ q) (zE _) ?_,rfl,q _ H3 _ rp4 (j7 fr _) (v7 fr (a2m la))⟩;exact⟨by rw[length_reverse];exact hz,_,0,r.reverse,zS _ rfl⟩
end
section
variable {f:FX}{ρ:Ev}{d:D}{w:W}
def rvL:Option (W×Ev)->Option (W×Ev)
 | some p=>(dr p.2 p.1.fz).bind fun d=>match d with
  | .lst xs=>some (.o (.lst xs.reverse),p.2)
  | _=>none
 | none=>none
def rvL2 (ρ:Ev):Option D->Option (W×Ev)
 | some (.lst xs)=>some (.o (.lst xs.reverse),ρ)
 | _=>none
theorem r_rvL:fRevL f ρ=rvL (f ρ):=by unfold fRevL rvL;cases f ρ<;>rfl
theorem b4x:rvL (some (w,ρ))=rvL2 ρ (dr ρ w.fz):=by
 unfold rvL rvL2;dsimp only;cases dr ρ w.fz with
 | none=>rfl
 | some d=>cases d<;>rfl
theorem b3Q {xs:List D}:rvL2 ρ (some (.lst xs))=some (.o (.lst xs.reverse),ρ):=rfl
end
section
variable {prog:Program}{w:World}{A:Around}{E:Value->Shared->Prop}{s:Shared}
theorem b0n {α β:Type}{f:α->Option β}{g:α->β}:∀(l:List α),(∀x∈l,f x=some (g x))->l.filterMap f=l.map g
 | [],_=>rfl
 | x::l,h=>by rw[filterMap_cons,h x zJ,zH];dsimp only;rw[b0n l fun y hy=>h y (zI _ hy)]
theorem b0x (xs:Array Value):((List.range xs.size).filterMap fun(m:Nat)=>xs[((xs.size:Int)-1+(m:Int) * -1).toNat]?).toArray=xs.toList.reverse.toArray:=by
 congr 1;apply xT;intro i;have e:(List.range xs.size).filterMap (fun(m:Nat)=>xs[((xs.size:Int)-1+(m:Int) * -1).toNat]?)=(List.range xs.size).map (fun m=>xs.getD (xs.size-1-m) .none):=by
  refine b0n _ fun m hm=>?_;have hm':m<xs.size:=by simpa using hm
  have e1:((xs.size:Int)-1+(m:Int) * -1).toNat=xs.size-1-m:=by walk_at "o"
  have e2:xs.size-1-m<xs.size:=by walk_at "o"
  rw[e1];simp[Array.getD,e2]
 rw[e]
 by_cases h:i<xs.size
 ·have e2:xs.size-1-i<xs.size:=by walk_at "o"
  rw[zV,jU h,List.getElem?_reverse (by simpa using h)]
  simp[Array.getD,e2]
 ·rw[jA (by simp;walk_at "o"),jA (by simp;walk_at "o")]
theorem a8y {t sl:Addr}{items:Array Value}{u:Tok}{Q:Value->Shared->Prop}(ht:IsTup s.heap t items)(hs:s.heap.IsSliceOf sl .none .none (.int (-1) u))
  (h:Q (.ref s.heap.objs.size) {s with heap:=s.heap.push {cls:=.type "tuple",data:=.seq items.toList.reverse.toArray}})
  (hsz:items.size<=sizeLine):wpAny (model prog w) A (getItem (.ref t) (.ref sl)) Q E s:=by
 have htake:sizeOk (.seq items.toList.reverse.toArray):=by
  show items.toList.reverse.toArray.size<=sizeLine;simpa using hsz
 obtain⟨os,hos,hcs,hds⟩:=id hs;have hTs:s.TypeIs (.ref sl) "slice":=⟨os,hos,hcs⟩;unfold getItem
 try with_reducible refine qI ?_
 first|refine zA (zB ?_)|skip
 refine zA (yT ht.typeIs (by decide) ?_)
 refine zA (qE (name:=Str.ofString "__getitem__") ht.typeIs qN
  (qO qN ht.typeIs entry_tuple_getitem ?_ (args_tuple_getitem _ _)))
 show wpAny _ _ (Builtin.Tuple.tupleItemsOf (.ref t) >>=_) _ _ s;refine zA (tupleItemsOf_ ht ?_);refine zA (wpAny_typeOf hTs ?_);rw[if_pos (by decide)]
 have ap:wpAny (model prog w) A.in1 (Builtin.Slice.sliceApplied (.ref sl) (pure (items.size:Int))) (fun r s'=>r=((items.size:Int)-1,-1,items.size)/\s'=s) (fun _ _=>False) s:=by
  unfold Builtin.Slice.sliceApplied Builtin.Slice.sliceFields;refine zA (zA (qP hos hds (x:=.none) rfl (zA (qP hos hds (x:=.none) rfl (zA (qP hos hds (x:=.int (-1) u) rfl (zB ?_)))))));refine zA (slicePart_int ?_);show wpAny _ _ (if((-1:Int)==0)=true then _ else _) _ _ s;rw[if_neg (by decide)]
  refine zA (slicePart_none (zA (slicePart_none (zA (zB ?_)))));have e1:Builtin.Slice.sliceAdjust none none (-1) (items.size:Int)=((items.size:Int)-1,-1):=rfl;have e2:Builtin.Slice.slicePlaces ((items.size:Int)-1) (-1) (-1)=items.size:=by
   unfold Builtin.Slice.slicePlaces;rw[if_neg (by walk_at "o"),show(- -1:Int)=1 from rfl,Int.ediv_one]
   split<;>walk_at "o"
  show wpAny _ _ (match Builtin.Slice.sliceAdjust none none (-1) (items.size:Int) with|(lo,hi)=>pure (lo,(-1:Int),Builtin.Slice.slicePlaces lo hi (-1))) _ _ s
  rw[e1];show wpAny _ _ (pure ((items.size:Int)-1,(-1:Int),Builtin.Slice.slicePlaces ((items.size:Int)-1) (-1) (-1))) _ _ s;rw[e2];exact zB ⟨rfl,rfl⟩
 refine zA (zF ap (fun r s' ⟨er,es⟩=>?_) fun _ _ z=>z.elim);subst er es;show wpAny _ _ (if(((items.size:Int)-1)==0&&(-1:Int)==1&&items.size==items.size)=true then _ else _) _ _ _;rw[if_neg (by simp),b0x]
 first
  | exact zA (m:=Builtin.Tuple.tupleExact _) (qD (zB ⟨_,rfl,zB h⟩) htake)
  | exact zA (m:=Builtin.Tuple.tupleExact _) (qD (zA (zB (zB ⟨_,rfl,zB h⟩))) htake)
  | exact zA (zA (m:=Builtin.Tuple.tupleExact _) (qD (zB (zB ⟨_,rfl,zB h⟩)) htake))
  | exact zA (zA (m:=Builtin.Tuple.tupleExact _) (qD (zB ⟨_,rfl,zB h⟩) htake))
end
section
variable {X:Cx}{a e:Expr}{pos:Pos}{f:FX}
def fRev (f:FX):FX:=fun ρ=>(f ρ).bind fun p=>(dr p.2 p.1.fz).bind fun d=>match d with
 | .tup xs=>some (.v (.tup xs.reverse),p.2)
 | _=>none
theorem b4z {p1 p2 p3:Pos}{j:Nat}(ha:QX X a f):QX X (.Subscript a (.Slice none none (some (.UnaryOp .USub (.Constant (.int 1) j p1) p2)) p3) pos) (fRev f):=by
 refine⟨fun pins s σ H Q I h0=>tXe h0 fun P O L ρ w ρ' rp e q=>?_⟩;unfold fRev at e;obtain⟨⟨w1,ρ1⟩,e1,e⟩:=obs e;dsimp only at e;cases e2:dr ρ1 w1.fz with
 | none=>rw[e2] at e;cases e
 | some x=>
  rw[e2] at e;simp only[bind_some] at e;cases x<;>simp only at e<;>try cases e
  rename_i xs;refine Subscript_ (zF (ha.to pins s σ H (fun v H1=>∃P',Rep X P' O L ρ' σ H1/\∀H2,Rep X P' O L ρ' σ H2->Rep X P O L ρ' σ H2/\DenR X.K (AvO O ρ' σ) H2 (.tup xs) v) I ⟨P,O,L,ρ,w1,ρ',rp,e1,fun v H1 H1' r1 s1 d1=>?_⟩) (fun v s1 ⟨x,H1,I1,r1,P',rp1,kp⟩=>?_) fun _ _ z=>z)
  ·have r1g:=r1.grow s1;obtain⟨P',r1',k1⟩:=hold r1g (d1.fz r1 s1);exact⟨P',r1',fun H2 r2=>by obtain⟨r3,d3⟩:=k1 _ H2 r2;exact⟨r3,E8 r3 e2 d3⟩⟩
  refine wpAny_Slice ?_;rw[evalPart_none];refine zB (zB ?_);rw[evalPart_some];have z:=((M2 (X:=X) (b8 (X:=X) (i:=1) (j:=j) (pos:=p1))):QX X (.UnaryOp .USub (.Constant (.int 1) j p1) p2) _).to pins s1 σ H1 (fun v H2=>v= .int (-1)/\Rep X P' O L ρ' σ H2) I1 ⟨P',O,L,ρ',.v (.int (-1)),ρ',rp1,rfl,fun v H2 H2' r2 s2 d2=>⟨u5.mp (show Den X.K (AvO O ρ' σ) H2' (.int (-1)) v from d2),r2.grow s2⟩⟩;refine zF z (fun vu s3 ⟨y,H3,I3,r3,ey,rp3⟩=>?_) fun _ _ z=>z;subst ey;obtain⟨t,rfl⟩:=r3;have I4:Inv X pins σ H3 {s3 with heap:=s3.heap.push {cls:=.type "slice",data:=.fields #[.none,.none,.int (-1) t]}}:=I3.kept (t':=s3.toks) fun b ob q=>zD _ q
  obtain⟨rp4,dx⟩:=kp H3 rp3;obtain⟨p,vs,ev,hq,la⟩:=C4 dx;subst ev;cases r1;obtain⟨its,r,ht,hz⟩:=I4.tuple hq;show wpAny (model X.prog X.w) X.A (subscriptTail a (.Slice none none (some (.UnaryOp .USub (.Constant (.int 1) j p1) p2)) p3) (.ref p) (.ref s3.heap.objs.size)) (EP X pins σ Q) X.xe {s3 with heap:=s3.heap.push {cls:=.type "slice",data:=.fields #[.none,.none,.int (-1) t]}}
  refine tail_any (ops:=[.ref p,.ref s3.heap.objs.size]) ht.typeIs PyProof.Rows.slot_tuple_getitem.lookup ?_ (by with_unfolding_all rfl)
  have hlen:its.toArray.size=vs.length:=by rw[zO];exact r.length.symm
  refine a8y ht ⟨_,zS _ rfl,rfl,rfl⟩ ?_ (by rw[hlen];exact hz)
  have fr:=I4.hok.fresh (zE _);refine⟨.ref _,_,I4.laid (t':=s3.toks) (o:=.tup vs.reverse) (fun b ob q=>zD _ q) (zE _) ⟨by rw[length_reverse];exact hz,its.reverse,r.reverse,?_⟩,rfl,q _ H3 _ rp4 (j7 fr _) (O5 fr (a2m la))⟩
  have:=TupN.new (Shared.heap {s3 with heap:=s3.heap.push {cls:=.type "slice",data:=.fields #[.none,.none,.int (-1) t]}}) its.reverse.toArray
  simpa using this
def rv2 (ρ:Ev):Option D->Option (W×Ev)
 | some (.tup xs)=>some (.v (.tup xs.reverse),ρ)
 | _=>none
def rv1:Option (W×Ev)->Option (W×Ev)
 | some p=>rv2 p.2 (dr p.2 p.1.fz)
 | none=>none
theorem r_rv {ρ:Ev}:fRev f ρ=rv1 (f ρ):=by
 unfold fRev rv1;cases f ρ with
 | none=>rfl
 | some p=>
  rw[bind_some];dsimp only;unfold rv2;cases dr p.2 p.1.fz with
  | none=>rfl
  | some d=>cases d<;>rfl
theorem r_rv1 {w:W}{ρ:Ev}:rv1 (some (w,ρ))=rv2 ρ (dr ρ w.fz):=id rfl
theorem r_rv2 {xs:List D}{ρ:Ev}:rv2 ρ (some (.tup xs))=some (.v (.tup xs.reverse),ρ):=id rfl
end
def Itd (lo:Int) (n:Nat):It:=⟨fun i _=>i<n,fun i H x H'=>H'=H/\x= .int (lo-i),fun i _=>n<=i⟩
theorem a8l {P:Program}{w:World}{K:PySem.W.Frag}{tg:Expr}(it:Addr)(lo:Int)(n:Nat):Turn P w K tg (Itd lo n) [it] it (fun i h=>IsRangeIter h it (lo+(i:Nat)*(-1)) ((n:Int)-(i:Nat)) (-1)) where
 mem:=by simp
 obj:=fun i h st b hb=>by
  have e:b=it:=by simpa using hb
  subst e
  exact⟨_,st,fun v z=>by
   have z':Data.fields _=Data.cell v:=z
   cases z'⟩
 keep:=fun i h h' st k=>k it (by simp) _ st
 item:=by
  intro X hP hw hK hc i pins s σ H E I hf st hg;subst hP hw hK;obtain⟨f0,f1,f2,f3,f4,f5⟩:=hf it (by simp)
  have W:=Walks.range (prog:=X.prog) (w:=X.w) (I.ok.hd hc) it lo (-1) n;refine W.item i s _ _ hg st fun v h' tk hv st' kk=>?_;obtain⟨t,rfl⟩:=hv;have I1:Inv X pins σ H {s with heap:=h',toks:=tk}:=I.turned (fun b o hb e=>kk b o (by simpa using hb) e) f0 f1 f3 f4 f5
  refine⟨_,rfl,a7e (s:={s with heap:=h',toks:=tk}) (n:="range_iterator") st' rfl rfl (by decide) ⟨.int (lo-i),H,I1,⟨t,?_⟩,⟨rfl,rfl⟩,st',fun b hb=>(hf b hb).1⟩⟩
  rw[show lo+(i:Int)*(-1)=lo-i by walk_at "o"]
 done:=by
  intro X hP hw hK hc i pins s σ H E I hf st hg;subst hP hw hK;obtain⟨f0,f1,f2,f3,f4,f5⟩:=hf it (by simp)
  exact wpAny_pyNext_range_end (I.ok.hd hc) st (by have:n<=i:=hg;walk_at "o") fun h' eb=>⟨rfl,I.turned (t':=s.toks) (fun b o hb e=>eb b o hb e) f0 f1 f3 f4 f5⟩
 self:=fun _ _ _ _ _ st h=>wpAny_pyIter_rangeiter st h
theorem a3o (a b:Int):Builtin.Range.rangeSize a b (-1)=if b<a then a-b else 0:=by
 unfold Builtin.Range.rangeSize;simp only[show ¬(-1:Int)>0 by decide,jW,show -(-1:Int)=1 from rfl,Int.ediv_one]
 split<;>walk_at "o"
theorem a5G {a b:Int}(ha:-(2^61)<=a)(ha':a<2^61)(hb:-(2^61)<=b)(hb':b<2^61):Builtin.Range.small a b (-1)=true:=by
 unfold Builtin.Range.small;rw[a3o];simp only[Builtin.Range.rangeFitsLong,jJ,Bool.or_eq_true,yV,beq_iff_eq,show ¬(-1:Int)>0 by decide,jW]
 split<;>walk_at "o"
section
variable {X:Cx}{tg a b c:Expr}{fa:FA}{pos:Pos}
theorem b1W {pins:List (Addr×PySem.Obj)}{σ:L2.St}{H:Hp}{s:Shared}{R:It->Hp->Prop}{E:Value->Shared->Prop}{lo hi:Int}{t u v:Tok}{tk:Nat}(I:Inv X pins σ H s)(h1:-(2^61)<=lo)(h2:lo<2^61)(h3:-(2^61)<=hi)(h4:hi<2^61)
  (q:R (Itd lo (lo-hi).toNat) H):wpAny (model X.prog X.w) X.A (pyIter (.ref s.heap.objs.size)) (PIE X pins σ tg R) E {s with heap:=s.heap.push {cls:=.type "range",data:=.fields #[.int lo t,.int hi u,.int (-1) v]},toks:=tk}:=by
 refine wpAny_pyIter_range (IsRange.new ..) (a5G h1 h2 h3 h4) ?_;have I1:Inv X pins σ H {s with heap:=s.heap.push {cls:=.type "range",data:=.fields #[.int lo t,.int hi u,.int (-1) v]},toks:=tk}:=I.kept fun b o e=>zD _ e
 refine⟨(s.heap.push {cls:=.type "range",data:=.fields #[.int lo t,.int hi u,.int (-1) v]}).objs.size,[(s.heap.push {cls:=.type "range",data:=.fields #[.int lo t,.int hi u,.int (-1) v]}).objs.size],_,_,H,rfl,
  I1.kept (t':=tk) fun b o e=>zD _ e,a8l _ lo (lo-hi).toNat,?_,fun b hb=>?_,q⟩
 ·have e1:lo+((0:Nat):Int)*(-1)=lo:=by simp
  have e2:(((lo-hi).toNat:Nat):Int)-((0:Nat):Int)=Builtin.Range.rangeSize lo hi (-1):=by rw[a3o];split<;>walk_at "o"
  show IsRangeIter _ _ (lo+((0:Nat):Int)*(-1)) ((((lo-hi).toNat:Nat):Int)-((0:Nat):Int)) (-1);rw[e1,e2];exact zS _ rfl
 ·have e:b=(s.heap.push {cls:=.type "range",data:=.fields #[.int lo t,.int hi u,.int (-1) v]}).objs.size:=by simpa using hb
  subst e;exact I1.fpOk (zE _) (I1.hok.fresh (zE _))
def iDwn (ta:TA):TI:=fun σ H R=>ta σ H fun vs H1=>∃i j:Int,vs=[.int i,.int j,.int (-1)]/\(-(2^61)<=i/\i<2^61/\-(2^61)<=j/\j<2^61)/\R (Itd i (i-j).toNat) H1
theorem b14 {ta:TA}{p:Pos}(hg:Gl X "range")(hm:X.mg "range"=none)(ha:PA X [a,b,c] ta)(hs:starEach [a,b,c] X.env=[(false,eval a X.env),(false,eval b X.env),(false,eval c X.env)]:=by rfl)(hs2:starEach [b,c] X.env=[(false,eval b X.env),(false,eval c X.env)]:=by rfl):
  PI X tg (.Call (.Name "range" p) [a,b,c] [] pos) (iDwn ta):=by
 intro pins s σ H R I h;refine Call_ (L4 I hg hm boot_range (qU (thn (ha pos pins s σ H _ I h) fun us s1 h0=>ex5 h0 fun vs H1 I1 r1 q1=>?_) (by rw[hs,hs2]) (by rw[hs2];rfl)))
 obtain⟨i,j,e,⟨q1,q2,q3,q4⟩,q⟩:=q1;subst e;cases r1 with
 | cons r rr=>
  cases rr with
  | cons r' rr=>
   cases rr with
   | cons r'' rr=>
    cases rr;obtain⟨t,rfl⟩:=r;obtain⟨t',rfl⟩:=r';obtain⟨t'',rfl⟩:=r'';exact call_range_3 (by decide) (b1W I1 q1 q2 q3 q4 q) (.inl (PyProof.noPylong_of_log2 (by decide +kernel)))
def dwnD (lo:Int) (n:Nat):List D:=(List.range n).map fun(i:Nat)=>D.int (lo-i)
theorem a8N {K:PySem.W.Frag}{P:List (D×V)}(lo:Int)(n:Nat):Wks K P (dwnD lo n) (Itd lo n):=fun Y O L ρ σ H _ _=>by
 unfold dwnD;refine⟨fun i x ex=>?_,by show(List.length _)≥n;simp⟩
 rw[zV] at ex
 by_cases hi:i<n
 ·rw[jU hi] at ex;cases ex;exact⟨hi,fun v H' ⟨y1,y2⟩=>by subst y1;exact⟨Same.refl _,u5.mpr y2⟩⟩
 ·rw[jA (by simpa using hi)] at ex;cases ex
def fiDw (fa:FA):FI:=fun ρ=>(fa ρ).bind fun p=>match p.1 with
 | [.v (.int m),.v (.int n),.v (.int k)]=>if k= -1/\(-(2^61)<=m/\m<2^61)/\-(2^61)<=n/\n<2^61 then some (dwnD m (m-n).toNat,p.2) else none
 | _=>none
theorem qi_r3 {p:Pos}(hm:X.mg "range"=none)(ha:QA X [a,b,c] fa)(hg:Gl X "range":=by rfl)(hs:starEach [a,b,c] X.env=[(false,eval a X.env),(false,eval b X.env),(false,eval c X.env)]:=by rfl)(hs2:starEach [b,c] X.env=[(false,eval b X.env),(false,eval c X.env)]:=by rfl):QI X tg (.Call (.Name "range" p) [a,b,c] [] pos) (fiDw fa):=⟨PI.weak (b14 hg hm ha.to hs hs2) fun σ H R h0=>tIe h0 fun P O L ρ xs ρ' r e q=>by
 unfold fiDw at e;obtain⟨⟨ws,ρ1⟩,e1,e⟩:=obs e;dsimp only at e;split at e
 ·rename_i m n k;split at e
  ·rename_i hn;cases e;refine⟨P,O,L,ρ,_,_,r,e1,fun vs H1 r1 l1=>?_⟩;obtain⟨v,rs,rfl,h1,u,rs',rfl,h2,z,rs2,rfl,h3,l1⟩:=l1;have l1:rs2=[]:=l1;have h1:Den X.K (AvO O ρ' σ) H1 (.int m) v:=h1;have h2:Den X.K (AvO O ρ' σ) H1 (.int n) u:=h2;have h3:Den X.K (AvO O ρ' σ) H1 (.int k) z:=h3;subst l1;exact⟨m,n,by rw[u5.mp h1,u5.mp h2,u5.mp h3,hn.1],⟨hn.2.1.1,hn.2.1.2,hn.2.2.1,hn.2.2.2⟩,q _ H1 P r1 (fun p hp=>hp) (a8N m _)⟩
  ·cases e
 ·cases e⟩
def dw2 (r:Option (List W×Ev)):Option (List D×Ev):=r.bind fun p=>match p.1 with
 | [.v (.int m),.v (.int n),.v (.int k)]=>if k= -1/\(-(2^61)<=m/\m<2^61)/\-(2^61)<=n/\n<2^61 then some (dwnD m (m-n).toNat,p.2) else none
 | _=>none
theorem r_dw {ρ:Ev}:fiDw fa ρ=dw2 (fa ρ):=id rfl
theorem r_dw2 {m n:Int}{ρ:Ev}(c:(-(2^61)<=m/\m<2^61)/\-(2^61)<=n/\n<2^61):dw2 (some ([.v (.int m),.v (.int n),.v (.int (-1))],ρ))=some (dwnD m (m-n).toNat,ρ):=by
 unfold dw2;rw[bind_some];dsimp only;rw[if_pos ⟨rfl,c⟩]
end
section
variable {X:Cx}{a b:Expr}{f g:FX}{pos:Pos}
theorem b1U:OpR X (binaryOp .Mult) (fun x y H Q=>∃l k xs,x= .int k/\y= .ref l/\SqL X.K H l xs/\-(2^63)<=k/\k<2^63/\xs.length*k.toNat<=sizeLine/\∀p,H p=none->Q (.ref p) (upd H p (.lst (List.replicate k.toNat xs).flatten))):=by
 intro pins s σ H x y v u Q I rx ry h;obtain⟨l,k,xs,rfl,rfl,hH,h1,h2,hz,q⟩:=h;cases ry;obtain⟨t,rfl⟩:=rx;obtain⟨its,r,⟨⟨c1,d1,e1,s1⟩,n,e,k1,_,w1⟩,_⟩:=I.list hH;simp only at k1 w1;subst k1 w1;have hl:=r.length;have hlen:its.toArray.size*k.toNat<=sizeLine:=by rw[zO,<-hl];exact hz
 have hcap:¬its.toArray.size*k.toNat>(2^63-1)/8:=by
  have:(sizeLine:Nat)<=(2^63-1)/8:=by decide
  walk_at "o"
 have hfit:¬(!Builtin.List.listFitsIndex k)=true:=by rw[fitsIndex_both h1 h2];exact zP
 have hlong:¬Builtin.List.listTooLong (its.toArray.size*k.toNat)=true:=by rw[notLongL hlen];exact zP
 have hnew:List.foldl (fun x1 x2=>x1++x2) #[] (List.replicate (if its.toArray.isEmpty=true then 0 else k.toNat) its.toArray)=(List.replicate k.toNat its).flatten.toArray:=by
  have f0:∀m:Nat,List.foldl (fun x1 x2=>x1++x2) #[] (List.replicate m its.toArray)=(List.replicate m its).flatten.toArray:=fun m=>by
   have:=a1f its m []
   rw[nil_append] at this;exact this
  rw[f0];cases its with
  | nil=>simp
  | cons a r'=>rw[if_neg (by simp)]
 refine lm_binaryOp_repeat_right (T:="list") (U:="int") (by decide) (fun s'=>typeIs_int s' k t) ⟨_,e,rfl⟩ F.fills_int_mul noFill_list_mul F.slot_int_mul lm_noRepeat_int repeat_list F.slot_int_index.lookup
  (call_meets F.slot_int_mul (typeIs_int s k t) F.entry_int_mul (F.args_int_mul_2 _ _) (lm_int_mul_list_any k t l its.toArray n d1 s1)
   ⟨e,rfl,⟨_,e,rfl⟩,call_meets F.slot_list_mul ⟨_,e,rfl⟩ F.entry_list_mul (F.args_list_mul_2 _ _) (lm_list_mul_any l its.toArray n d1 s1 k t hfit hcap hlong) ⟨e,?_⟩⟩)
 rw[hnew];exact⟨.ref _,_,I.lnew (t':=s.toks) (r.rep k.toNat) (by rw[a7I,Nat.mul_comm];exact hz),rfl,q _ I.fresh⟩
def oRepR (x y:D):Option W:=match x,y with
 | .int k,.lst xs=>if(-(2^63)<=k/\k<2^63)/\xs.length*k.toNat<=lim then some (.o (.lst (List.replicate k.toNat xs).flatten)) else none
 | _,_=>none
theorem a68 (ha:QX X a f)(hb:QX X b g):QX X (.BinOp a .Mult b pos) (fBin oRepR f g):=Q9 b1U (by
 intro A x y w v u H Q _ e hx hy q;unfold oRepR at e;split at e
 ·rename_i k xs;split at e
  ·rename_i hk;cases e;obtain⟨a,vs,rfl,hq,l⟩:=hy;exact⟨a,k,vs,l5 hx,rfl,hq,hk.1.1,hk.1.2,by rw[<-c6 l];exact qC hk.2 t7,fun p hp=>q _ _ (j7 hp _) (v7 hp (a0V l _))⟩
  ·cases e
 ·cases e) ha hb
theorem a9W {xs:List D}(h:xs.length<=1000):oRepR (.int 2) (.lst xs)=some (.o (.lst (xs++xs))):=by
 unfold oRepR;dsimp only;rw[if_pos ⟨by decide,by show xs.length*2<=1000000;walk_at "o"⟩]
 show some (W.o (.lst (xs++(xs++[]))))=_;rw[xD]
theorem a38 {xs:List D}(h:xs.length<=1000):oRep (.lst xs) (.int 2)=some (.o (.lst (xs++xs))):=by
 unfold oRep;dsimp only;rw[if_pos ⟨by decide,by show xs.length*2<=1000000;walk_at "o"⟩]
 show some (W.o (.lst (xs++(xs++[]))))=_;rw[xD]
end
end Z
local macro_rules|`(tactic| walk_at "z r") => `(tactic| simp only[Z.lim, Z.r_nt, Z.b2K, Z.r_fn, Z.a9j, Z.a9Y, Z.b3m, Z.a5o, Z.a9v, Z.b1e, Z.nb_f, Z.nb_t, Z.r_ge, Z.b2B, Z.a65, Z.b2G, Z.b24, Z.r_dp, Z.b3d, Z.b3o, Z.b2R, Z.b3y, Z.b3g, Z.b2w, Z.b3G, Z.b21, Z.b3h, Z.a24, Z.a27, Z.r_td, Z.b2t, Z.b2T, Z.b29, Z.b2L, Z.b2D, Z.ix_0, Z.it_t, Z.it_l, Z.r_iz, Z.b3l, Z.b2S, Z.b2W, Z.r_ie, Z.b2q, Z.a6A, Z.r_r1, Z.b2F, Z.r_r2, Z.b2C, Z.r_lr, Z.b2J, Z.b3e, Z.a64, Z.a63, Z.a61, Z.r_c, Z.a9f, Z.a90, Z.a69, Z.a6E, Z.a9d, Z.a82, Z.b0h, Z.a7J, Z.a7s, Z.b1m, Z.b2r, Z.a9L, Z.a9l, Z.a8T, Z.a9s, Z.r_un, Z.b3C, Z.b3x, Z.a2P, Z.b08, Z.b0k, Z.a9q, Z.a4M, Z.a3B, Z.b3w, Z.a9Q, Z.b3f, Z.r_or, Z.a7g, Z.a6R, Z.a9T, Z.b0e, Z.a9x, Z.b27, Z.r_if, Z.a5f, Z.a5l, Z.a66, Z.a7V, Z.b0P, Z.b0m, Z.b2I, Z.b07, Z.a6v, Z.a6Y, Z.a6w, Z.a6x, Z.a7A, Z.b1d, Z.a9r, Z.b04, Z.b3a, Z.b22, Z.a6K, Z.a6Q, Z.a86, Z.a7m, Z.a6T, Z.r_k1, Z.r_k2, Z.b3D, Z.b0X, Z.b0B, Z.b0j, Z.r_dl, Z.b3B, Z.b3b, Z.b2M, Z.r_sl, Z.b2H, Z.b2Q, Z.b2O, Z.b3A, Z.a9u, Z.r_o0, Z.r_o1, Z.b3i, Z.a99, Z.a23, Z.a3R, Z.b2x, Z.a7r, Z.a67, Z.a6D, Z.a4P, Z.r_ifS, Z.a7q, Z.a7M, Z.b2A, Z.a6C, Z.a7U, Z.r_ag, Z.b3z, Z.b3p, Z.b3v, Z.a7d, Z.b0l, Z.a7H, Z.b2N, Z.a9k, Z.r_gs, Z.b25, Z.b2o, Z.b2z, Z.a8V, Z.a6O, Z.b3F, Z.a97, Z.b0o, Z.r_is, Z.b2s, Z.a9w, Z.b1q, Z.b2Y, Z.a9U, Z.a9i, Z.a6J, Z.r_mu, Z.b3u, Z.b26, Z.b3k, Z.b2V, Z.b2P, Z.b2Z, Z.b3s, Z.a5d, Z.b01, Z.a3b, Z.o_i0, Z.o_i, Z.a6y, Z.a7N, Z.a93, Z.b20, Z.b0L, Z.a9V, Z.b0G, Z.a7R, Z.b3j, Z.a3q, Z.o_d2, Z.a_0, Z.a_1, Z.b2E, Z.b2v, Z.a6I, Z.b0D, Z.a2k, Z.a6N, Z.a7a, Z.b0V, Z.a9R, Z.a3A, Z.b2y, Z.b2X, Z.b0y, Z.b0c, Z.a94, Z.b3n, Z.b3c, Z.W.own, Z.start0, Z.deq, Z.deqL, Z.flatE, Z.isD, Z.lf, Z.lfL, Z.noR, Z.frzL, qJ, xY, zH, xW, List.replicate, xD, nil_append, cons_append, yJ, jH, List.set_cons_zero, List.set_cons_succ, bind_some, jF, Option.map_none, jC, jW, jI, Nat.zero_add, Nat.reduceAdd, Nat.reduceSub, xF, Nat.add_zero, Nat.add_one_sub_one, and_self, and_true, true_and, Bool.and_self, Bool.and_true, Bool.true_and, Bool.not_true, Bool.not_false, Bool.and_false, yW, reduceIte, ite_self, decide_true, decide_false, Nat.reduceEqDiff, Nat.reduceLeDiff, beq_self_eq_true, isEmpty_nil])
local macro_rules|`(tactic| walk_at "q") => `(tactic| repeat(first|walk_at "z r"))
local macro_rules|`(tactic| walk_at "z i") => `(tactic| simp only[Z.lim, Z.r_nt, Z.b2K, Z.r_fn, Z.a9j, Z.a9Y, Z.b3m, Z.a5o, Z.a9v, Z.b1e, Z.nb_f, Z.nb_t, Z.r_ge, Z.b2B, Z.a65, Z.b2G, Z.b24, Z.r_dp, Z.b3d, Z.b3o, Z.b2R, Z.b3y, Z.b3g, Z.b2w, Z.b3G, Z.b21, Z.b3h, Z.a24, Z.a27, Z.r_td, Z.b2t, Z.b2T, Z.b29, Z.b2L, Z.b2D, Z.ix_0, Z.it_t, Z.it_l, Z.r_iz, Z.b3l, Z.b2S, Z.b2W, Z.r_ie, Z.b2q, Z.a6A, Z.r_r1, Z.b2F, Z.r_r2, Z.b2C, Z.r_lr, Z.b2J, Z.b3e, Z.a64, Z.a63, Z.a61, Z.r_c, Z.a9f, Z.a90, Z.a69, Z.a6E, Z.a9d, Z.a82, Z.b0h, Z.a7J, Z.a7s, Z.b1m, Z.b2r, Z.a9L, Z.a9l, Z.a8T, Z.a9s, Z.r_un, Z.b3C, Z.b3x, Z.a2P, Z.b08, Z.b0k, Z.a9q, Z.a4M, Z.a3B, Z.b3w, Z.a9Q, Z.b3f, Z.r_or, Z.a7g, Z.a6R, Z.a9T, Z.b0e, Z.a9x, Z.b27, Z.r_if, Z.a5f, Z.a5l, Z.a66, Z.a7V, Z.b0P, Z.b0m, Z.b2I, Z.b07, Z.a6v, Z.a6Y, Z.a6w, Z.a6x, Z.a7A, Z.b1d, Z.a9r, Z.b04, Z.b3a, Z.b22, Z.a6K, Z.a6Q, Z.a86, Z.a7m, Z.a6T, Z.r_k1, Z.r_k2, Z.b3D, Z.b0X, Z.b0B, Z.b0j, Z.r_dl, Z.b3B, Z.b3b, Z.b2M, Z.r_sl, Z.b2H, Z.b2Q, Z.b2O, Z.b3A, Z.a9u, Z.r_o0, Z.r_o1, Z.b3i, Z.a99, Z.a23, Z.a3R, Z.b2x, Z.a7r, Z.a67, Z.a6D, Z.a4P, Z.a7q, Z.a7M, Z.b2A, Z.a6C, Z.a7U, Z.r_ag, Z.b3z, Z.b3p, Z.b3v, Z.a7d, Z.b0l, Z.a7H, Z.b2N, Z.a9k, Z.r_gs, Z.b25, Z.b2o, Z.b2z, Z.a8V, Z.a6O, Z.b3F, Z.a97, Z.b0o, Z.r_is, Z.b2s, Z.a9w, Z.b1q, Z.b2Y, Z.a9U, Z.a9i, Z.a6J, Z.r_mu, Z.b3u, Z.b26, Z.b3k, Z.b2V, Z.b2P, Z.b2Z, Z.b3s, Z.a5d, Z.b01, Z.a3b, Z.o_i0, Z.o_i, Z.a6y, Z.a7N, Z.a93, Z.b20, Z.b0L, Z.a9V, Z.b0G, Z.a7R, Z.b3j, Z.a3q, Z.o_d2, Z.a_0, Z.a_1, Z.b2E, Z.b2v, Z.a6I, Z.b0D, Z.a2k, Z.a6N, Z.a7a, Z.b0V, Z.a9R, Z.a3A, Z.b2y, Z.b2X, Z.b0y, Z.b0c, Z.a94, Z.b3n, Z.b3c, Z.W.own, Z.start0, Z.deq, Z.deqL, Z.flatE, Z.isD, Z.lf, Z.lfL, Z.noR, Z.frzL, qJ, xY, zH, xW, List.replicate, xD, nil_append, cons_append, yJ, jH, List.set_cons_zero, List.set_cons_succ, bind_some, jF, Option.map_none, jC, jW, jI, Nat.zero_add, Nat.reduceAdd, Nat.reduceSub, xF, Nat.add_zero, Nat.add_one_sub_one, and_self, and_true, true_and, Bool.and_self, Bool.and_true, Bool.true_and, Bool.not_true, Bool.not_false, Bool.and_false, yW, reduceIte, ite_self, decide_true, decide_false, Nat.reduceEqDiff, Nat.reduceLeDiff, beq_self_eq_true, isEmpty_nil])
set_option maxHeartbeats 1500000
namespace Q26
open PySem L2 Z
abbrev LO:=List D->Option W
abbrev LL:=D->List D->Option (W×D)
local macro_rules|`(tactic| walk_at "c") => `(tactic| exact⟨rfl, rfl, rfl, by decide +kernel, rfl, by decide +kernel, by decide +kernel⟩)
def top (i:Nat):Stmt:=PySem.Challenge.pw_twainhoard_k26_doubles_known.main.body.getD i (.Pass ⟨0,0,0,0⟩)
section
variable {P:Program}{w:World}{K:PySem.W.Frag}{mg:Str->Option Value}{base:Heap}{f:Addr}{fd:FuncData}{k:Nat}
abbrev Z8:Stmt:=top 1
theorem a1H:FnScope ["thing"] ["thing"] (defScope Z8):=by walk_at "c"
def a2r (g:LO):Prop:=∀d:D,isX d=false->g [d]=some (.v (.bl (whole d)))
theorem a5h (i0:mg "isinstance"=none)(m_int:mg "int"=none)(P7:mg "bool"=none)(F:Fun K "is_whole" "is_whole" Z8 f fd)(B:Binds K fd ["thing"] [])(hm:mg "is_whole"=some (.ref f)):∃g,Fn P w K mg base "is_whole" (k+1) g/\a2r g:=by
 have nd:=a1H.nd;refine⟨_,A8 F a1H B hm rfl rfl (fun cdv A outer s H E hr=>(c7 (j6 (E9 (Q4 (T:="int") (Q2 (by decide)) i0 m_int (a7 0)) (C9 (a39 (Q4 (T:="bool") (Q2 (by decide)) i0 P7 (a7 0)))))))),?_⟩
 intro d hd;have i1:=b1n hd;have i2:=a4D hd;cases d with
 | exn C=>cases hd
 | _=>repeat(first|walk_at "z r" | simp only[i1,i2,isI,isB,whole])
abbrev a1a:Stmt:=top 7
theorem a17:FnScope ["web","people","ties"] ["web"] (defScope a1a):=by walk_at "c"
def a03 (g:LO):Prop:=∀(n:Int) (ts:List Tie),WebOk n ts->g [webD n ts]=some (.o (.lst ((sortK (parK n ts)).map tupI)))
def one1:D->D
 | .int i=>.tup [.int i]
 | d=>d
def cut2:D->D
 | .tup [a,b,_]=>.tup [a,b]
 | d=>d
theorem a4B {a b c:D}:cutD [a,b,c] none (some 2)=[a,b]:=rfl
theorem a9C (n:Int)(ts:List Tie):((rngD 0 n.toNat).filter fun _=>true).map one1++((ts.map tieD).filter fun _=>true).map cut2=(parK n ts).map tupI:=by
 rw[q8,q8];unfold parK rngD;rw[zL,qF,qF,qF,qF];congr 1;apply jL;intro i _;show D.tup [.int (0+(i:Int))]=D.tup [.int (i:Int)];rw[Int.zero_add]
theorem a6k (k8:mg "sorted"=none)(g7:mg "range"=none)(F:Fun K "parties" "parties" a1a f fd)(B:Binds K fd ["web"] [])(hm:mg "parties"=some (.ref f)):∃g,Fn P w K mg base "parties" (k+1) g/\a03 g:=by
 have nd:=a17.nd
 refine⟨_,A8 F a17 B hm rfl rfl (fun cdv A outer s H E hr=>(b9 (E7 (a7 0) (D1 rfl (j4 (c8 1 nd) (j4 (c8 2 nd) B7))))
  (c7 (j6 (D2 hr rfl k8 (a8 (m7 (z7 (N:=["person"]) (js:=[none]) (li:=none) rfl (A1 (by exact(.own .nil)) rfl (by exact trivial) (by rfl)) (G8 (K1 g7 (a8 (a7 1) a9))) (fun _ _ _ _=>(c8 0 (show((["person"]:List Str)++[accN]).Nodup by decide +kernel))) (fun _ _ _ _=>B6) (fun _ _ _ _=>(m6 (a8 (a7 0) a9)))) (z7 (N:=["tie"]) (js:=[none]) (li:=none) rfl (A1 (by exact(.own .nil)) rfl (by exact trivial) (by rfl)) (J7 2) (fun _ _ _ _=>(c8 0 (show((["tie"]:List Str)++[accN]).Nodup by decide +kernel))) (fun _ _ _ _=>B6) (fun _ _ _ _=>(T7 (a7 0) a0R (a0H b8))))) a9)))))),?_⟩
 intro n ts hw;have hn:=hw.n1;have hl:=hw.len;obtain⟨pl,pne⟩:=O1 hw;have r1:(-(2^62:Int)<=n/\n<2^62):=by walk_at "o"
 have so:=E6 (ks:=parK n ts) (by walk_at "o") pne
 have pq:=a9C n ts;have ll:(((rngD 0 n.toNat).filter fun _=>true).map one1).length+(((ts.map tieD).filter fun _=>true).map cut2).length<=1000000:=by
  rw[q8,q8,zC,zC,zC,w9];walk_at "o"
 unfold webD;walk_at "q";rw[t8 (ρ1:=[some (.v (.tup [.int n,.tup (ts.map tieD)])),some (.v (.int n)),some (.v (.tup (ts.map tieD)))]) (xs:=rngD 0 n.toNat) (fun B=>∃o1:Option D,B=[o1.map .v]) (fun _=>true) one1]
 ·walk_at "q";rw[t8 (ρ1:=[some (.v (.tup [.int n,.tup (ts.map tieD)])),some (.v (.int n)),some (.v (.tup (ts.map tieD)))]) (xs:=ts.map tieD) (fun B=>∃o1:Option D,B=[o1.map .v]) (fun _=>true) cut2]
  ·repeat(first|walk_at "z r" | simp only[ll,pq,so])
  ·walk_at "q"
  ·rintro _ ⟨_,rfl⟩;rfl
  ·exact⟨none,rfl⟩
  ·rw[zC];unfold lim;walk_at "o"
  ·refine z8 fun y hy=>?_;obtain⟨x,hx,rfl⟩:=zZ.mp hy;obtain⟨t,_,rfl⟩:=zZ.mp (qW.mp hx).1;rfl
  ·rintro x hx _ zs ⟨o1,rfl⟩;obtain⟨⟨a,b,c⟩,ha,rfl⟩:=zZ.mp hx;refine⟨[some (.v (tieD (a,b,c)))],.v (.tup [.int a,.int b]),⟨some _,rfl⟩,?_,rfl,fun _=>⟨?_,.inl rfl⟩⟩
   ·walk_at "q"
   ·unfold tieD
    repeat(first|walk_at "z r" | simp only[a4B])
 ·repeat(first|walk_at "z r" | simp only[r1])
 ·rintro _ ⟨_,rfl⟩;rfl
 ·exact⟨none,rfl⟩
 ·rw[w9];unfold lim;walk_at "o"
 ·refine z8 fun y hy=>?_;obtain⟨x,hx,rfl⟩:=zZ.mp hy;obtain⟨i,rfl,_⟩:=C5 (qW.mp hx).1;rfl
 ·rintro x hx _ zs ⟨o1,rfl⟩;obtain⟨i,rfl,_⟩:=C5 hx;refine⟨[some (.v (.int i))],.v (.tup [.int i]),⟨some _,rfl⟩,?_,rfl,fun _=>⟨?_,.inl rfl⟩⟩
  ·walk_at "q"
  ·walk_at "q"
abbrev a0i:Stmt:=top 8
theorem a1C:FnScope ["web","thing"] ["web","thing"] (defScope a0i):=by walk_at "c"
def PD (d:D):Prop:=isX d=false/\∀xs,d= .tup xs->(∀y∈xs,isX y=false)/\xs.length<=1000
def ptyB (n:Int) (ts:List Tie):D->Bool
 | .tup xs=>match intsOf xs with
  | some k=>decide (k∈parK n ts)
  | none=>false
 | _=>false
theorem a1c {n:Int}{ts:List Tie}{k:List Int}:ptyB n ts (tupI k)=decide (k∈parK n ts):=by
 unfold tupI ptyB;dsimp only;rw[m5]
theorem a0q:∀{xs:List D},xs.all whole=true->∃k:List Int,xs=k.map .int
 | [],_=>⟨[],rfl⟩
 | x::xs,h=>by
  rw[all_cons,jJ] at h;obtain⟨k,rfl⟩:=a0q h.2;cases x with
  | int i=>exact⟨i::k,rfl⟩
  | _=>cases h.1
theorem a5p {xs:List D}(h:xs.all whole=false):intsOf xs=none:=by
 cases e:intsOf xs with
 | none=>rfl
 | some k=>
  rw[u7 e] at h;simp[whole] at h
def a10 (g:LO):Prop:=∀(n:Int) (ts:List Tie) (d:D),WebOk n ts->PD d->g [webD n ts,d]=some (.v (.bl (ptyB n ts d)))
theorem a5s {G3:LO}{a0e:LO}(G5:Fn P w K mg base "parties" k G3)(G0:a03 G3)(Z1:Fn P w K mg base "is_whole" k a0e)(a0k:a2r a0e)(i0:mg "isinstance"=none)(m9:mg "tuple"=none)(m_all:mg "all"=none)(F:Fun K "is_party" "is_party" a0i f fd)(B:Binds K fd ["web","thing"] [])(hm:mg "is_party"=some (.ref f)):∃g,Fn P w K mg base "is_party" (k+1) g/\a10 g:=by
 have nd:=a1C.nd;refine⟨_,A8 F a1C B hm rfl rfl (fun cdv A outer s H E hr=>(c7 (j6 (E9 (Q4 (T:="tuple") (Q2 (by decide)) i0 m9 (a7 1)) (E9 (qx_b (N7 rfl) N6 m_all (a8 (z7 (N:=["one"]) (js:=[none]) (li:=none) rfl (A1 (by exact(.own .nil)) rfl (by exact trivial) (by rfl)) (J7 1) (fun _ _ _ _=>(c8 0 (show((["one"]:List Str)++[accN]).Nodup by decide +kernel))) (fun _ _ _ _=>B6) (fun _ _ _ _=>(n9 Z1 hr (a8 (a7 0) a9)))) a9)) (C9 (a81 hr (a7 1) (n9 G5 hr (a8 (a7 0) a9))))))))),?_⟩
 intro n ts d hw hd;have ep:=G0 n ts hw;have it:=a0A (d:=d) hd.1;have lt:=F4 (sortK (parK n ts));cases d with
 | tup xs=>
  obtain⟨hx,hl⟩:=hd.2 xs rfl
  repeat(first|walk_at "z r" | simp only[it,isT])
  rw[t8 (ρ1:=[some (.v (webD n ts)),some (.v (.tup xs))]) (xs:=xs) (fun B=>∃o1:Option D,B=[o1.map .v]) (fun _=>true) (fun d=>.bl (whole d))]
  ·rw[q8];have gb:=a1l (r:=fun bs=>bs.all id) (C7 whole xs);rw[J0] at gb;cases ha:xs.all whole with
   | true=>
    obtain⟨k,rfl⟩:=a0q ha;have tl:=b1u (b:=false) (m5 k) (G6 (sortK (parK n ts)));have mm:decide (k∈sortK (parK n ts))=decide (k∈parK n ts):=by simp only[(m8 (parK n ts)).mem_iff]
    rw[ha] at gb;have e0:ptyB n ts (.tup (k.map .int))=decide (k∈parK n ts):=a1c;rw[e0]
    repeat(first|walk_at "z r" | simp only[gb,ep,lt,tl,mm])
   | false=>
    rw[ha] at gb;have e0:ptyB n ts (.tup xs)=false:=by unfold ptyB;dsimp only;rw[a5p ha]
    rw[e0]
    repeat(first|walk_at "z r" | simp only[gb])
  ·walk_at "q"
  ·rintro _ ⟨_,rfl⟩;rfl
  ·exact⟨none,rfl⟩
  ·unfold lim;walk_at "o"
  ·exact a1n _ _
  ·rintro x hx' _ zs ⟨o1,rfl⟩;have ew:=a0k x (hx x hx');refine⟨[some (.v x)],.v (.bl (whole x)),⟨some _,rfl⟩,?_,rfl,fun _=>⟨?_,.inl rfl⟩⟩
   ·walk_at "q"
   ·repeat(first|walk_at "z r" | simp only[ew])
 | exn C=>cases hd.1
 | _=>repeat(first|walk_at "z r" | simp only[it,isT,ptyB])
abbrev a4y:Stmt:=top 11
theorem a47:FnScope ["web"] ["web"] (defScope a4y):=by walk_at "c"
def a6S (g:LO):Prop:=∀(n:Int) (ts:List Tie),WebOk n ts->g [webD n ts]=some (.o (.dT (ts.map tkK) (ts.map fun t=>.int t.2.2)))
def keyT:D->List Key
 | .tup [.int a,.int b,.int _]=>[Sum.inl a,Sum.inl b]
 | _=>[]
def valT:D->D
 | .tup [_,_,c]=>c
 | d=>d
theorem a5m (ts:List Tie):(ts.map tieD).map keyT=ts.map tkK:=by rw[qF];rfl
theorem a40 (ts:List Tie):(ts.map tieD).map valT=ts.map fun t=>D.int t.2.2:=by rw[qF];rfl
theorem b0R (F:Fun K "gains" "gains" a4y f fd)(B:Binds K fd ["web"] [])(hm:mg "gains"=some (.ref f)):∃g,Fn P w K mg base "gains" (k+1) g/\a6S g:=by
 have nd:=a47.nd;refine⟨_,A8 F a47 B hm rfl rfl (fun cdv A outer s H E hr=>(c7 (j6 (a8Z (N:=["one","other","gain"]) (js:=[none,none,none]) (li:=none) 2 hr rfl (A1 (by exact(.own (.own (.own .nil)))) rfl (by exact trivial) (by rfl)) (J5 (j0 hr (a7 0) b8)) (fun _ _ _ _=>(D1 rfl (j4 (c8 0 (show((["one","other","gain"]:List Str)++[accN]).Nodup by decide +kernel)) (j4 (c8 1 (show((["one","other","gain"]:List Str)++[accN]).Nodup by decide +kernel)) (j4 (c8 2 (show((["one","other","gain"]:List Str)++[accN]).Nodup by decide +kernel)) B7))))) (fun _ _ _ _=>B6) (fun _ _ _ _=>(a8 (a7 0) (a8 (a7 1) a9))) (fun _ _ _ _=>b1X 2))))),?_⟩
 intro n ts hw;have hl:=hw.len;unfold webD;walk_at "q";rw[a8M (ρ1:=[some (.v (.tup [.int n,.tup (ts.map tieD)]))]) (xs:=ts.map tieD) (fun B=>∃o1 o2 o3:Option D,B=[o1.map .v,o2.map .v,o3.map .v]) keyT valT]
 ·rw[a5m,a40];walk_at "q"
 ·walk_at "q"
 ·rintro _ ⟨_,_,_,rfl⟩;rfl
 ·exact⟨none,none,none,rfl⟩
 ·rw[zC];unfold lim;walk_at "o"
 ·rw[a40];refine z8 fun y hy=>?_;obtain⟨x,hx,rfl⟩:=zZ.mp hy;rfl
 ·rw[a5m];exact a4U hw
 ·rintro x hx _ ks zs ⟨o1,o2,o3,rfl⟩ hk;obtain⟨⟨a,b,c⟩,ha,rfl⟩:=zZ.mp hx;unfold lim at hk;refine⟨[some (.v (.int a)),some (.v (.int b)),some (.v (.int c))],⟨some _,some _,some _,rfl⟩,?_⟩;rw[show tieD (a,b,c)= .tup [.int a,.int b,.int c] from rfl]
  repeat(first|walk_at "z r" | simp only[hk])
  rfl
abbrev D5:Stmt:=top 15
theorem J8:FnScope ["one","other"] ["one","other"] (defScope D5):=by walk_at "c"
def N9 (g:LO):Prop:=∀a b:Int,0<=a->0<=b->g [.int a,.int b]=some (.v (.int (Int.gcd a b:Nat)))
theorem a0J (F:Fun K "common_divisor" "common_divisor" D5 f fd)(B:Binds K fd ["one","other"] [])(hm:mg "common_divisor"=some (.ref f)):∃g,Fn P w K mg base "common_divisor" (k+1) g/\N9 g:=by
 have nd:=J8.nd
 refine⟨_,A8 F J8 B hm rfl rfl (fun cdv A outer s H E hr=>(b9 (a12 zU (b1k (a7 1) b8) (c7 (a5I 0 1 rfl nd (a8 (a7 1) (a8 (Q3 (a7 0) (a7 1)) a9)) rfl)))
  (c7 (j6 (a7 0))))),?_⟩
 intro a b ha hb;have l:=a85 (i:=0) (j:=1) (ρ:=[some (.v (.int a)),some (.v (.int b))]) (by decide) ha hb rfl rfl
 repeat(first|walk_at "z r" | rw[l])
abbrev a4I:Stmt:=top 16
theorem a5a:FnScope ["top","bottom","common"] ["top","bottom"] (defScope a4I):=by walk_at "c"
def a6L (g:LO):Prop:=∀t b:Int,0<b->b.natAbs<big->g [.int t,.int b]=some (.v (ratD (Rat.divInt t b)))
theorem a88 {D3:LO}(D8:Fn P w K mg base "common_divisor" k D3)(D6:N9 D3)(m_abs:mg "abs"=none)(F:Fun K "ratio" "ratio" a4I f fd)(B:Binds K fd ["top","bottom"] [])(hm:mg "ratio"=some (.ref f)):∃g,Fn P w K mg base "ratio" (k+1) g/\a6L g:=by
 have nd:=a5a.nd
 refine⟨_,A8 F a5a B hm rfl rfl (fun cdv A outer s H E hr=>(b9 (w8 (N4 hr (a7 1) b8) (c7 a84) t3)
  (b9 (w8 (a5P hr (a7 1) b8) (c7 (a5I 0 1 rfl nd (a8 (M2 (a7 0)) (a8 (M2 (a7 1)) a9)) rfl)) t3)
  (b9 (g9 2 nd (n9 D8 hr (a8 (qx_b b0a b4G m_abs (a8 (a7 0) a9)) (a8 (a7 1) a9))))
  (c7 (j6 (m6 (a8 (Z2 (a7 0) (a7 2)) (a8 (Z2 (a7 1) (a7 2)) a9))))))))),?_⟩
 intro t b hb hs;have d:=b2e (t:=t) hb hs;have c:=D6 (if t<0 then -t else t) b (by split<;>walk_at "o") (by walk_at "o")
 rw[b1L] at c;obtain⟨p1,p2⟩:=a4x (t:=t) hb;have z0:(b==0)=false:=by simpa using(by walk_at "o":b≠0)
 have n:decide (b<0)=false:=by simp;walk_at "o"
 unfold ratD;rw[p1,p2]
 repeat(first|walk_at "z r" | simp only[z0,n,c,d])
def poolD (p:Int):D:=.lst [.int p]
abbrev J6:Stmt:=top 27
theorem R6:FnScope ["script","k"] ["script","k"] (defScope J6):=by walk_at "c"
def W8 (g:LO):Prop:=∀(ns:List Int) (k:Int),ns.length<=63->0<=k->k<=63->∃m:Int,g [.lst (ns.map D.int),.int k]=some (.v (.int m))
theorem a1O (m_len:mg "len"=none)(F:Fun K "_law_cell_at" "_law_cell_at" J6 f fd)(B:Binds K fd ["script","k"] [])(hm:mg "_law_cell_at"=some (.ref f)):∃g,Fn P w K mg base "_law_cell_at" (k+1) g/\W8 g:=by
 have nd:=R6.nd
 refine⟨_,A8 F R6 B hm rfl rfl (fun cdv A outer s H E hr=>(b9 (w8 (a5P hr (a7 1) (qx_b r6 M9 m_len (a8 (a7 0) a9))) (c7 (j6 (j0 hr (a7 0) (a7 1)))) t3)
  (c7 (j6 b8)))),?_⟩
 intro ns k hl h0 hk
 by_cases h:k<ns.length
 ·have h':decide (k<(ns.length:Int))=true:=qL h;have ha:=a4p (ns:=ns) (i:=k) h0 h;refine⟨ns.getD k.toNat 0,?_⟩
  repeat(first|walk_at "z r" | simp only[zC,h',ha])
 ·have h':decide (k<(ns.length:Int))=false:=qK h;refine⟨0,?_⟩
  repeat(first|walk_at "z r" | simp only[zC,h'])
abbrev T0:Stmt:=top 28
theorem a0B:FnScope ["script","at","cell","big","turn","one"] ["script","at"] (defScope T0):=by walk_at "c"
def a1E (g:LO):Prop:=∀(ns:List Int) (k:Int),ns.length<=63->0<=k->k<=63->∃p:Int,g [.lst (ns.map D.int),.int k]=some (.o (poolD p))
theorem a4C {J1:LO}(G9:Fn P w K mg base "_law_cell_at" k J1)(I0:W8 J1)(g7:mg "range"=none)(F:Fun K "_law_pool" "_law_pool" T0 f fd)(B:Binds K fd ["script","at"] [])(hm:mg "_law_pool"=some (.ref f)):∃g,Fn P w K mg base "_law_pool" (k+1) g/\a1E g:=by
 have nd:=a0B.nd
 refine⟨_,A8 F a0B B hm rfl rfl (fun cdv A outer s H E hr=>(b9 (g9 2 nd (n9 G9 hr (a8 (a7 0) (a8 (a7 1) a9))))
  (b9 (w8 (b3E (a7 2) (a6d b8 b8)) (c7 (j6 (t6 (a8 (a7 2) a9)))) t3)
  (b9 (g9 3 nd b8)
  (b9 (A7 zU rfl (K1 g7 (a8 b8 a9)) (c8 4 nd) (b9 (g9 5 nd (Q3 (P0 (m7 (m7 (m7 (Q3 (a7 2) b8) (P0 (P0 b8 (a7 4)) (a7 4))) (P0 b8 (a7 1))) b8) b8) b8))
  (b9 (g9 5 nd (Q3 (P0 (a7 5) (a7 5)) b8))
  (b9 (g9 5 nd (Q3 (P0 (m7 (a7 5) (P0 b8 (a7 4))) b8) b8))
  (c7 (g9 3 nd (m7 (P0 (a7 3) b8) (Q3 (Z2 (a7 5) b8) b8))))))))
  (c7 (j6 (t6 (a8 (a7 3) a9))))))))),?_⟩
 intro ns k hl h0 hk;obtain⟨c,e1⟩:=I0 ns k hl h0 hk;have pw:CPow 10 18:=by decide
 have ln:=j5 ns;unfold poolD
 by_cases h:(10:Int)^(18:Int).toNat<=c
 ·have h':decide ((10:Int)^(18:Int).toNat<=c)=true:=qL h;refine⟨c,?_⟩
  repeat(first|walk_at "z r" | simp only[e1,ln,pw,h'])
 ·have h':decide ((10:Int)^(18:Int).toNat<=c)=false:=qK h;have c0:(0:Int)<998244353:=by decide
  have c1:(0:Int)<2147483647:=by decide
  have c2:(0:Int)<1000000007:=by decide
  have c3:(0:Int)<2147483587:=by decide
  have c4:(0:Int)<1000003:=by decide
  have c5:dOk 8:=a4b (by decide) (by decide)
  have r1:(-(2^62:Int)<=60/\(60:Int)<2^62):=by walk_at "o"
  repeat(first|walk_at "z i" | simp only[e1,ln,pw,h',r1])
  repeat(first|walk_at "z r" | simp only[e1,ln,pw,h',r1])
  generalize el:loopF _ _ _=r;refine B8 el (fun i ρ=>∃(b:Int) (o4 o5:Option D),ρ=[some (.v (.lst (ns.map .int))),some (.v (.int k)),some (.v (.int c)),some (.v (.int b)),o4.map .v,o5.map .v]) ⟨0,none,none,rfl⟩ ?_ ?_
  ·rintro i x _ hx ⟨b,o4,o5,rfl⟩;obtain⟨rfl,hi⟩:=R8 hx;have p1:mOk 89 (0+(i:Int)):=.inl (by decide)
   have p2:mOk (89*(0+(i:Int))) (0+(i:Int)):=.inr (.inl (by walk_at "o"))
   have p3:mOk 7 k:=.inl (by decide)
   have p4:∀a:Int,mOk a 48271:=fun a=>.inr (.inl (by decide))
   have p5:∀a:Int,mOk (a%2147483647) (a%2147483647):=fun a=>.inl (by
    have:=Int.emod_nonneg a (b:=2147483647) (by decide)
    have:=Int.emod_lt_of_pos a (b:=2147483647) (by decide)
    walk_at "o")
   have p6:mOk 7919 (0+(i:Int)):=.inl (by decide)
   have p7:∀a:Int,mOk a 69621:=fun a=>.inr (.inl (by decide))
   have p8:∀a:Int,mOk a 1000003:=fun a=>.inr (.inl (by decide))
   refine⟨?_,?_,?_⟩
   rotate_left
   ·repeat(first|walk_at "z r" | simp only[c0,c1,c2,c3,c4,c5,p1,p2,p3,p4,p5,p6,p7,p8])
    rfl
   ·exact⟨_,some (.int (0+(i:Int))),some (.int _),rfl⟩
  ·rintro _ rfl ⟨b,o4,o5,rfl⟩;refine⟨b,?_⟩;walk_at "q"
abbrev S6:Stmt:=top 29
theorem a0F:FnScope ["pool","many","number"] ["pool","many"] (defScope S6):=by walk_at "c"
def A9 (g:LL):Prop:=∀(p m:Int),0<m->m<=10^12->∃(i q:Int),(0<=i/\i<m)/\g (poolD p) [.int m]=some (.v (.int i),poolD q)
theorem a4J (F:Fun K "_law_take" "_law_take" S6 f fd)(B:Binds K fd ["pool","many"] [])(hm:mg "_law_take"=some (.ref f)):∃g,FnL P w K mg base "_law_take" (k+1) g/\A9 g:=by
 have nd:=a0F.nd
 refine⟨_,a0d F a0F B hm rfl rfl (fun cdv A outer s H E hr=>(b9 (g9 2 nd (Q3 (j0 hr (a7 0) b8) (a7 1)))
  (b9 (E7 (Z2 (j0 hr (a7 0) b8) (a7 1)) (U7 (a7 0) b8))
  (c7 (j6 (a7 2)))))),?_⟩
 intro p m hm h12;have dm:dOk m:=⟨hm,zK (show m.natAbs<2^70 by walk_at "o") (yB (by decide) (by decide))⟩
 have i10:ixN 1 0=some 0:=rfl;refine⟨p%m,p/m,⟨Int.emod_nonneg _ (by walk_at "o"),Int.emod_lt_of_pos _ hm⟩,?_⟩
 unfold poolD
 repeat(first|walk_at "z r" | simp only[hm,dm,i10,qJ,xY])
abbrev L1:Stmt:=top 30
theorem V5:FnScope ["pool","kind","ring","a","b"] ["pool","kind","ring","a","b"] (defScope L1):=by walk_at "c"
def Y3 (g:LL):Prop:=∀(p kind ring a b:Int),0<=kind->kind<6->0<=a->a<=63->0<=b->b<=63->∃(w:Bool) (q:Int),g (poolD p) [.int kind,.int ring,.int a,.int b]=some (.v (.bl w),poolD q)
theorem a2d {j9:LL}(c9:FnL P w K mg base "_law_take" k j9)(g5:A9 j9)(F:Fun K "_law_wanted" "_law_wanted" L1 f fd)(B:Binds K fd ["pool","kind","ring","a","b"] [])(hm:mg "_law_wanted"=some (.ref f)):∃g,FnL P w K mg base "_law_wanted" (k+1) g/\Y3 g:=by
 have nd:=V5.nd
 refine⟨_,a0d F V5 B hm rfl rfl (fun cdv A outer s H E hr=>(b9 (w8 (N4 hr (a7 1) b8) (c7 (j6 (J9 hr (l7 c9 hr (a8 (a7 0) (a8 b8 a9))) b8))) t3)
  (b9 (w8 (N4 hr (a7 1) b8) (c7 (j6 (a7B (E9 (J9 hr (a7 4) (m7 (a7 3) b8)) (C9 (b1b hr (a7 4) (a7 2)))) (a7B (E9 (J9 hr (a7 3) b8) (C9 (J9 hr (a7 4) (V2 (a7 2) b8)))) (C9 (J9 hr (l7 c9 hr (a8 (a7 0) (a8 b8 a9))) b8)))))) t3)
  (b9 (w8 (N4 hr (a7 1) b8) (c7 (j6 (E9 (J9 hr (Q3 (m7 (a7 3) (a7 4)) b8) b8) (C9 (qx_gt (l7 c9 hr (a8 (a7 0) (a8 b8 a9))) b8))))) t3)
  (b9 (w8 (N4 hr (a7 1) b8) (c7 (j6 (a7B (J9 hr (Z2 (a7 3) b8) (Z2 (a7 4) b8)) (C9 (E9 (J9 hr (a7 4) (m7 (a7 3) b8)) (C9 (J9 hr (l7 c9 hr (a8 (a7 0) (a8 b8 a9))) b8))))))) t3)
  (c7 (j6 (a7B (J9 hr (a7 1) b8) (C9 (J9 hr (l7 c9 hr (a8 (a7 0) (a8 b8 a9))) b8)))))))))),?_⟩
 intro p kind ring a b k0 k6 a0 a1 b0 b1;obtain⟨i2,q2,_,e2⟩:=g5 p 2 (by decide) (by decide)
 obtain⟨i6,q6,_,e6⟩:=g5 p 6 (by decide) (by decide)
 obtain⟨i4,q4,_,e4⟩:=g5 p 4 (by decide) (by decide)
 have l2:lfC (poolD q2)=true:=rfl;have l6:lfC (poolD q6)=true:=rfl;have l4:lfC (poolD q4)=true:=rfl;have c2:(0:Int)<2:=by decide
 have d3:dOk 3:=a4b (by decide) (by decide)
 have hc:kind=0\/kind=1\/kind=2\/kind=3\/kind=4\/kind=5:=by walk_at "o"
 rcases hc with rfl|rfl|rfl|rfl|rfl|rfl
 ·refine⟨i2==0,q2,?_⟩
  repeat(first|walk_at "z r" | simp only[Int.reduceBEq,e2,l2])
 ·cases h1:(b==a+1) with
  | true=>
   cases h2:decide (b<ring) with
   | true=>
    refine⟨true,p,?_⟩
    repeat(first|walk_at "z r" | simp only[Int.reduceBEq,h1,h2])
   | false=>
    cases h3:(a==0) with
    | true=>
     cases h4:(b==ring-1) with
     | true=>
      refine⟨true,p,?_⟩
      repeat(first|walk_at "z r" | simp only[Int.reduceBEq,h1,h2,h3,h4])
     | false=>
      refine⟨i6==0,q6,?_⟩
      repeat(first|walk_at "z r" | simp only[Int.reduceBEq,h1,h2,h3,h4,e6,l6])
    | false=>
     refine⟨i6==0,q6,?_⟩
     repeat(first|walk_at "z r" | simp only[Int.reduceBEq,h1,h2,h3,e6,l6])
  | false=>
   cases h3:(a==0) with
   | true=>
    cases h4:(b==ring-1) with
    | true=>
     refine⟨true,p,?_⟩
     repeat(first|walk_at "z r" | simp only[Int.reduceBEq,h1,h3,h4])
    | false=>
     refine⟨i6==0,q6,?_⟩
     repeat(first|walk_at "z r" | simp only[Int.reduceBEq,h1,h3,h4,e6,l6])
   | false=>
    refine⟨i6==0,q6,?_⟩
    repeat(first|walk_at "z r" | simp only[Int.reduceBEq,h1,h3,e6,l6])
 ·cases h1:((a+b)%2==1) with
  | true=>
   refine⟨decide (0<i4),q4,?_⟩
   repeat(first|walk_at "z r" | simp only[Int.reduceBEq,h1,c2,e4,l4])
  | false=>
   refine⟨false,p,?_⟩
   repeat(first|walk_at "z r" | simp only[Int.reduceBEq,h1,c2])
 ·cases h1:(a/3==b/3) with
  | true=>
   refine⟨true,p,?_⟩
   repeat(first|walk_at "z r" | simp only[Int.reduceBEq,h1,d3])
  | false=>
   cases h2:(b==a+1) with
   | true=>
    refine⟨i2==0,q2,?_⟩
    repeat(first|walk_at "z r" | simp only[Int.reduceBEq,h1,h2,d3,e2,l2])
   | false=>
    refine⟨false,p,?_⟩
    repeat(first|walk_at "z r" | simp only[Int.reduceBEq,h1,h2,d3])
 ·refine⟨true,p,?_⟩
  repeat(first|walk_at "z r" | simp only[Int.reduceBEq])
 ·refine⟨i4==0,q4,?_⟩
  repeat(first|walk_at "z r" | simp only[Int.reduceBEq,e4,l4])
theorem a2g {m:Nat}{i:Int}(h0:0<=i)(h:i<m):ixN m i=some i.toNat:=by unfold ixN;rw[if_pos h0,if_pos h]
theorem a6e {n:Int}{ts:List Tie}(hw:WebOk n ts){k:List Int}(hk:k∈parK n ts):(∃a,k=[a])\/∃a c,k=[a,c]/\0<=a/\a<c/\c<n/\1<=gainOf ts k:=by
 unfold parK at hk;rcases qG.mp hk with z|z
 ·obtain⟨i,_,rfl⟩:=zZ.mp z;exact .inl ⟨_,rfl⟩
 ·obtain⟨t,ht,rfl⟩:=zZ.mp z;have b:=hw.t t ht;refine .inr ⟨t.1,t.2.1,rfl,b.1,b.2.1,b.2.2.1,?_⟩;have key:∀ts:List Tie,(∀t∈ts,1<=t.2.2)->t∈ts->1<=gainOf ts [t.1,t.2.1]:=by
   intro ts
   induction ts with
   | nil=>intro _ h;cases h
   | cons u us ih=>
    intro h1 h2;rw[gainOf]
    split
    ·exact h1 u zJ
    ·rename_i ne;rcases zX.mp h2 with rfl|h2
     ·exact absurd rfl ne
     ·exact ih (fun t ht=>h1 t (zI _ ht)) h2
  exact key ts (fun t ht=>(hw.t t ht).2.2.2.1) ht
def sS (s:Tie):Nat:=s.1.toNat
def sE (s:Tie):Nat:=s.2.1.toNat
def mkv (m:List Int) (v:Nat):Int:=m.getD v 0
def Kept (m:List Int) (s:Tie):Prop:=mkv m (sS s)+s.2.2<=mkv m (sE s)
structure StOk (N:Nat) (S:List Tie):Prop where
 rng:∀s∈S,0<=s.1/\s.1<N/\0<=s.2.1/\s.2.1<N
 ne:∀s∈S,s.1≠s.2.1
 sz:∀s∈S,s.2.2<=10^15
 len:S.length<=200
def parAt (p:List (Option Tie)) (v:Nat):Option Tie:=p.getD v none
def upd1 (f:Nat->Nat) (e x:Nat):Nat->Nat:=fun v=>if v=e then x else f v
structure Bf (S:List Tie) (N k i:Nat) (m:List Int) (p:List (Option Tie)) (last:Option Nat) (r t:Nat->Nat) (c:Nat):Prop where
 lm:m.length=N
 lp:p.length=N
 par:∀v s,parAt p v=some s->s∈S/\sE s=v/\r v<=r (sS s)+1/\(mkv m v<mkv m (sS s)+s.2.2\/mkv m v<=mkv m (sS s)+s.2.2/\t (sS s)<t v)
 rk:∀v,r v<=k
 tc:∀v,t v<=c
 up:∀v,0<r v->∃s,parAt p v=some s
 ok:∀j s,S[j]? =some s->Kept m s\/(if j<i then k else k-1)<=r (sS s)
 m0:∀v,0<=mkv m v
 mb:∀v,mkv m v<=10^15*c
 cb:c<=(k-1)*S.length+i
 la:match last with
  | none=>∀j s,S[j]? =some s->j<i->Kept m s
  | some v=>v<N/\r v=k
theorem F8 {m:List Int}{e v:Nat}{x:Int}(he:e<m.length):mkv (m.set e x) v=if v=e then x else mkv m v:=by
 unfold mkv;rw[zQ,zQ]
 by_cases h:v=e
 ·rw[if_pos h,h,yS he];rfl
 ·rw[if_neg h,zR (fun z=>h z.symm)]
theorem a60 {p:List (Option Tie)}{e v:Nat}{x:Option Tie}(he:e<p.length):parAt (p.set e x) v=if v=e then x else parAt p v:=by
 unfold parAt;rw[zQ,zQ]
 by_cases h:v=e
 ·rw[if_pos h,h,yS he];rfl
 ·rw[if_neg h,zR (fun z=>h z.symm)]
theorem Bf.start {S:List Tie}{N:Nat}:Bf S N 1 0 (List.replicate N 0) (List.replicate N none) none (fun _=>0) (fun _=>0) 0:=by
 have h0:∀v,mkv (List.replicate N 0) v=0:=fun v=>by
  unfold mkv;rw[zQ,yI];split<;>rfl
 refine⟨length_replicate,length_replicate,fun v s h=>?_,fun _=>jN _,fun _=>zE _,fun v h=>absurd h (jD 0),fun j s h=>.inr (by simp),fun v=>by rw[h0];decide,fun v=>by rw[h0];decide,jN _,fun j s _ h=>absurd h (Nat.not_lt_zero j)⟩
 unfold parAt at h;rw[zQ,yI] at h;split at h<;>cases h
theorem Bf.next {S:List Tie}{N k i:Nat}{m:List Int}{p:List (Option Tie)}{last:Option Nat}{r t:Nat->Nat}{c:Nat}(h:Bf S N k i m p last r t c)(hi:i=S.length)(hk:1<=k):Bf S N (k+1) 0 m p none r t c where
 lm:=h.lm
 lp:=h.lp
 par:=h.par
 rk:=fun v=>Nat.le_succ_of_le (h.rk v)
 tc:=h.tc
 up:=h.up
 ok:=fun j s hs=>by
  rcases h.ok j s hs with z|z
  ·exact .inl z
  ·right;have hj:j<i:=by rw[hi];exact(zG.mp hs).1
   rw[if_pos hj] at z;rw[if_neg (Nat.not_lt_zero j)];walk_at "o"
 m0:=h.m0
 mb:=h.mb
 cb:=by
  have:=h.cb
  have e:(k+1-1)*S.length=(k-1)*S.length+S.length:=by
   rw[<-Nat.succ_mul];congr 1;walk_at "o"
  walk_at "o"
 la:=fun j s _ z=>absurd z (Nat.not_lt_zero j)
theorem Bf.skip {S:List Tie}{N k i:Nat}{m:List Int}{p:List (Option Tie)}{last:Option Nat}{r t:Nat->Nat}{c:Nat}(h:Bf S N k i m p last r t c){s:Tie}(hs:S[i]? =some s)(hk:Kept m s):Bf S N k (i+1) m p last r t c where
 lm:=h.lm
 lp:=h.lp
 par:=h.par
 rk:=h.rk
 tc:=h.tc
 up:=h.up
 ok:=fun j s' hs'=>by
  by_cases hj:j=i
  ·subst hj;rw[hs] at hs';cases hs';exact .inl hk
  ·rcases h.ok j s' hs' with z|z
   ·exact .inl z
   ·right
    by_cases h2:j<i
    ·rw[if_pos h2] at z;rw[if_pos (by walk_at "o")];exact z
    ·rw[if_neg h2] at z;rw[if_neg (by walk_at "o")];exact z
 m0:=h.m0
 mb:=h.mb
 cb:=by have:=h.cb;walk_at "o"
 la:=by
  have hl:=h.la;cases last with
  | none=>
   intro j s' hs' hj
   by_cases h2:j=i
   ·subst h2;rw[hs] at hs';cases hs';exact hk
   ·exact hl j s' hs' (by walk_at "o")
  | some v=>exact hl
theorem Bf.raise {S:List Tie}{N k i:Nat}{m:List Int}{p:List (Option Tie)}{last:Option Nat}{r t:Nat->Nat}{c:Nat}(h:Bf S N k i m p last r t c)(hS:StOk N S){s:Tie}(hs:S[i]? =some s)(hk:¬Kept m s)(k1:1<=k):Bf S N k (i+1) (m.set (sE s) (mkv m (sS s)+s.2.2)) (p.set (sE s) (some s)) (some (sE s)) (upd1 r (sE s) k) (upd1 t (sE s) (c+1)) (c+1):=by
 have sm:=qX hs;have g:=hS.rng s sm;have gn:=hS.ne s sm;have gz:=hS.sz s sm;have eN:sE s<N:=by unfold sE;walk_at "o"
 have uN:sS s<N:=by unfold sS;walk_at "o"
 have ue:sS s≠sE s:=by unfold sS sE;walk_at "o"
 have em:sE s<m.length:=by rw[h.lm];exact eN
 have ep:sE s<p.length:=by rw[h.lp];exact eN
 have rise:mkv m (sE s)<mkv m (sS s)+s.2.2:=by unfold Kept at hk;walk_at "o"
 have ru:k-1<=r (sS s):=by
  rcases h.ok i s hs with z|z
  ·exact absurd z hk
  ·rwa [if_neg (jD i)] at z
 have old:∀v,mkv m v<=mkv (m.set (sE s) (mkv m (sS s)+s.2.2)) v:=fun v=>by
  rw[F8 em]
  split
  ·rename_i z;rw[z];walk_at "o"
  ·exact Int.le_refl _
 refine⟨by rw[qS];exact h.lm,by rw[qS];exact h.lp,fun v s' hp=>?_,fun v=>?_,fun v=>?_,fun v hv=>?_,fun j s' hs'=>?_,fun v=>Int.le_trans (h.m0 v) (old v),fun v=>?_,by have:=h.cb;walk_at "o",⟨eN,?_⟩⟩
 ·rw[a60 ep] at hp
  by_cases hv:v=sE s
  ·rw[if_pos hv] at hp;cases hp;subst hv;refine⟨sm,rfl,?_,.inr ⟨?_,?_⟩⟩
   ·unfold upd1;rw[if_pos rfl,if_neg ue];walk_at "o"
   ·rw[F8 em,F8 em,if_pos rfl,if_neg ue];exact Int.le_refl _
   ·unfold upd1;rw[if_pos rfl,if_neg ue];have:=h.tc (sS s);walk_at "o"
  ·rw[if_neg hv] at hp;obtain⟨p1,p2,p3,p4⟩:=h.par v s' hp;refine⟨p1,p2,?_,?_⟩
   ·unfold upd1;rw[if_neg hv]
    split
    ·have:=h.rk v;walk_at "o"
    ·exact p3
   ·rw[F8 em,if_neg hv,F8 em]
    by_cases hu:sS s'=sE s
    ·rw[if_pos hu];rw[hu] at p4;left;rcases p4 with z|z
     ·walk_at "o"
     ·walk_at "o"
    ·rw[if_neg hu];unfold upd1;rw[if_neg hv,if_neg hu];exact p4
 ·unfold upd1;split
  ·exact zE _
  ·exact h.rk v
 ·unfold upd1;split
  ·exact zE _
  ·have:=h.tc v;walk_at "o"
 ·unfold upd1 at hv;rw[a60 ep]
  by_cases z:v=sE s
  ·rw[if_pos z];exact⟨_,rfl⟩
  ·rw[if_neg z] at hv ⊢;exact h.up v hv
 ·by_cases hu:sS s'=sE s
  ·right;unfold upd1;rw[if_pos hu]
   split<;>walk_at "o"
  ·by_cases hj:j=i
   ·subst hj;rw[hs] at hs';cases hs';left;unfold Kept;rw[F8 em,F8 em,if_neg ue,if_pos rfl];exact Int.le_refl _
   ·rcases h.ok j s' hs' with z|z
    ·left;unfold Kept at z ⊢
     have:=old (sE s')
     rw[F8 em (v:=sS s'),if_neg hu];walk_at "o"
    ·right;unfold upd1;rw[if_neg hu]
     by_cases h2:j<i
     ·rw[if_pos h2] at z;rw[if_pos (by walk_at "o")];exact z
     ·rw[if_neg h2] at z;rw[if_neg (by walk_at "o")];exact z
 ·rw[F8 em];have hb:=h.mb
  split
  ·have:=hb (sS s);walk_at "o"
  ·have:=hb v;walk_at "o"
 ·unfold upd1;rw[if_pos rfl]
theorem Bf.all {S:List Tie}{N k i:Nat}{m:List Int}{p:List (Option Tie)}{r t:Nat->Nat}{c:Nat}(h:Bf S N k i m p none r t c)(hi:i=S.length):∀s∈S,Kept m s:=fun s hs=>by
 obtain⟨j,hj⟩:=List.getElem?_of_mem hs;exact h.la j s hj (by rw[hi];exact(zG.mp hj).1)
def nxt (p:List (Option Tie)) (v:Nat):Nat:=match parAt p v with
 | some s=>sS s
 | none=>v
def far (p:List (Option Tie)) (v:Nat):Nat->Nat
 | 0=>v
 | j+1=>nxt p (far p v j)
theorem a0v (p:List (Option Tie))(v a:Nat):∀b,far p v (a+b)=far p (far p v a) b
 | 0=>rfl
 | b+1=>by rw[<-Nat.add_assoc,far,far,a0v p v a b]
structure Ringed (S:List Tie) (N:Nat) (p:List (Option Tie)) (v:Nat):Prop where
 back:∀j<N,∃s,parAt p (far p v j)=some s
 rng:∀j≤N,far p v j<N
theorem a1q:∀{n:Nat} {l:List Nat},l.Nodup->(∀x∈l,x<n)->l.length<=n
 | 0,l,_,h=>by
  cases l with
  | nil=>exact zE _
  | cons x l=>exact absurd (h x zJ) (Nat.not_lt_zero x)
 | n+1,l,nd,h=>by
  have h2:=a1q (n:=n) (l:=l.erase n) (nd.erase n) fun x hx=>by
   have z:=(List.Nodup.mem_erase_iff nd).mp hx
   have:=h x z.2
   have:=z.1
   walk_at "o"
  rw[List.length_erase] at h2;split at h2<;>walk_at "o"
theorem pigeon:∀(n:Nat) (f:Nat->Nat),(∀j≤n,f j<n)->∃i j,i<j/\j<=n/\f i=f j:=by
 intro n f hf
 let l:=(List.range (n+1)).map f
 have hl:¬l.Nodup:=by
  intro nd
  have:=a1q (n:=n) nd fun x hx=>by
   obtain⟨j,hj,rfl⟩:=zZ.mp hx;rw[jS] at hj;exact hf j (by walk_at "o")
  simp[l] at this;walk_at "o"
 have:∃i j,i<j/\j<n+1/\f i=f j:=by
  apply Classical.byContradiction;intro hn;apply hl;refine yF.mpr ?_;refine List.Pairwise.imp_of_mem ?_ (List.pairwise_lt_range (n:=n+1));intro a b ha hb hab e;exact hn ⟨a,b,hab,jS.mp hb,e⟩
 obtain⟨i,j,h1,h2,h3⟩:=this;exact⟨i,j,h1,by walk_at "o",h3⟩
theorem Bf.ringed {S:List Tie}{N:Nat}{m:List Int}{p:List (Option Tie)}{r t:Nat->Nat}{c i v:Nat}(h:Bf S N N i m p (some v) r t c)(hS:StOk N S):Ringed S N p v:=by
 have key:∀j≤N,N<=r (far p v j)+j/\far p v j<N:=by
  intro j
  induction j with
  | zero=>intro _;exact⟨by show N<=r v+0;rw[h.la.2];exact zE _,h.la.1⟩
  | succ j ih=>
   intro hj;obtain⟨i1,i2⟩:=ih (by walk_at "o")
   obtain⟨s,hs⟩:=h.up (far p v j) (by walk_at "o")
   obtain⟨p1,p2,p3,p4⟩:=h.par _ s hs;have e:far p v (j+1)=sS s:=by rw[far,nxt,hs]
   rw[e];have g:=hS.rng s p1;exact⟨by walk_at "o",by unfold sS;walk_at "o"⟩
 exact⟨fun j hj=>h.up _ (by have:=(key j (by walk_at "o")).1;walk_at "o"),fun j hj=>(key j hj).2⟩
def ringL (p:List (Option Tie)) (v:Nat):Nat->List Tie
 | 0=>[]
 | q+1=>ringL p v q++((parAt p (far p v q)).toList)
theorem Ringed.turn {S:List Tie}{N:Nat}{p:List (Option Tie)}{v:Nat}(h:Ringed S N p v):(∀a,N<=a->∃s,parAt p (far p v a)=some s)/\∃q,1<=q/\q<=N/\far p v (N+q)=far p v N:=by
 obtain⟨i,j,hij,hj,e⟩:=pigeon N (far p v) h.rng;have back:∀a,i<=a->∃b,i<=b/\b<j/\far p v a=far p v b:=by
  intro a
  induction a with
  | zero=>intro ha;exact⟨0,ha,by walk_at "o",rfl⟩
  | succ a ih=>
   intro ha
   by_cases h2:a+1=i
   ·exact⟨a+1,by walk_at "o",by walk_at "o",rfl⟩
   ·obtain⟨b,b1,b2,b3⟩:=ih (by walk_at "o")
    by_cases h3:b+1=j
    ·exact⟨i,zE _,hij,by rw[far,b3];show far p v (b+1)=_;rw[h3,e]⟩
    ·exact⟨b+1,by walk_at "o",by walk_at "o",by rw[far,far,b3]⟩
 refine⟨fun a ha=>?_,j-i,by walk_at "o",by walk_at "o",?_⟩
 ·obtain⟨b,b1,b2,b3⟩:=back a (by walk_at "o")
  rw[b3];exact h.back b (by walk_at "o")
 ·have per:∀d,far p v (i+d+(j-i))=far p v (i+d):=by
   intro d
   induction d with
   | zero=>rw[Nat.add_zero,show i+(j-i)=j by walk_at "o"];exact e.symm
   | succ d ih=>rw[show i+(d+1)+(j-i)=(i+d+(j-i))+1 by walk_at "o",far,ih];rfl
  have:=per (N-i)
  rwa [show i+(N-i)=N by walk_at "o"] at this
structure Ring (S:List Tie) (N:Nat) (R:List Tie):Prop where
 mem:∀s∈R,s∈S
 ne:1<=R.length
 len:R.length<=N
 prm:(R.map sS).Perm (R.map sE)
 pos:0<(R.map fun s=>s.2.2).sum
 nd:(R.map sE).Nodup
theorem O2 {p:List (Option Tie)}{v:Nat}:∀{q:Nat},(∀a<q,∃s,parAt p (far p v a)=some s)->(ringL p v q).length=q
 | 0,_=>rfl
 | q+1,h=>by
  obtain⟨s,hs⟩:=h q (by walk_at "o")
  rw[ringL,hs,toList_some,zM,O2 fun a ha=>h a (by walk_at "o")]
  rfl
theorem a2s {p:List (Option Tie)}{v:Nat}(hE:∀u s,parAt p u=some s->sE s=u):∀{q:Nat},(∀a<q,∃s,parAt p (far p v a)=some s)->(ringL p v q).map sE++[far p v q]=v::(ringL p v q).map sS
 | 0,_=>rfl
 | q+1,h=>by
  obtain⟨s,hs⟩:=h q (by walk_at "o")
  have ih:=a2s hE (q:=q) fun a ha=>h a (by walk_at "o")
  rw[ringL,hs,toList_some,zL,zL,yL,yL,hE _ s hs,ih,far,nxt,hs];rfl
theorem a3c {S:List Tie}{N k i:Nat}{m:List Int}{p:List (Option Tie)}{last:Option Nat}{r t:Nat->Nat}{c v:Nat}(h:Bf S N k i m p last r t c):∀{q:Nat},(∀a<q,∃s,parAt p (far p v a)=some s)->mkv m v<mkv m (far p v q)+((ringL p v q).map fun s=>s.2.2).sum\/mkv m v<=mkv m (far p v q)+((ringL p v q).map fun s=>s.2.2).sum/\t (far p v q)+q<=t v
 | 0,_=>.inr ⟨by show mkv m v<=mkv m v+0;walk_at "o",zE _⟩
 | q+1,hq=>by
  obtain⟨s,hs⟩:=hq q (by walk_at "o")
  have ih:=a3c h (v:=v) (q:=q) fun a ha=>hq a (by walk_at "o")
  obtain⟨_,_,_,p4⟩:=h.par _ s hs;have e:far p v (q+1)=sS s:=by rw[far,nxt,hs]
  rw[e,ringL,hs,toList_some,zL,sum_append,yL];have e2:[s.2.2].sum=s.2.2:=by simp
  rw[e2];generalize ((ringL p v q).map fun s=>s.2.2).sum=W at ih ⊢;walk_at "o"
theorem a26 {S:List Tie}{N k i:Nat}{m:List Int}{p:List (Option Tie)}{last:Option Nat}{r t:Nat->Nat}{c v:Nat}(h:Bf S N k i m p last r t c):∀{q:Nat},∀s∈ringL p v q,s∈S
 | 0,s,hs=>by cases hs
 | q+1,s,hs=>by
  rw[ringL] at hs;rcases qG.mp hs with z|z
  ·exact a26 h s z
  ·cases e:parAt p (far p v q) with
   | none=>rw[e] at z;cases z
   | some s'=>
    rw[e,toList_some] at z;rw[zN.mp z];exact(h.par _ s' e).1
theorem a3H {p:List (Option Tie)}{v:Nat}(hE:∀u s,parAt p u=some s->sE s=u):∀{q:Nat},(∀a<q,∃s,parAt p (far p v a)=some s)->(ringL p v q).map sE=(List.range q).map (far p v)
 | 0,_=>rfl
 | q+1,h=>by
  obtain⟨s,hs⟩:=h q (by walk_at "o")
  rw[ringL,hs,toList_some,zL,yL,hE _ s hs,a3H hE fun a ha=>h a (by walk_at "o"),range_succ,zL,yL]
theorem a8A {p:List (Option Tie)}{v q:Nat}(e:far p v q=v)(hf:∀a,0<a->a<q->far p v a≠v):((List.range q).map (far p v)).Nodup:=by
 refine yF.mpr ?_;refine List.Pairwise.imp_of_mem ?_ (List.pairwise_lt_range (n:=q));intro i j hi hj hij h;rw[jS] at hi hj;have h1:far p v (i+(q-j))=v:=by
  rw[a0v,h,<-a0v,show j+(q-j)=q by walk_at "o",e]
 exact hf (i+(q-j)) (by walk_at "o") (by walk_at "o") h1
theorem Bf.ring {S:List Tie}{N k i:Nat}{m:List Int}{p:List (Option Tie)}{last:Option Nat}{r t:Nat->Nat}{c v q:Nat}(h:Bf S N k i m p last r t c)(hq:∀a<q,∃s,parAt p (far p v a)=some s)(h1:1<=q)(h2:q<=N)(e:far p v q=v)(hf:∀a,0<a->a<q->far p v a≠v):Ring S N (ringL p v q) where
 mem:=a26 h
 ne:=by rw[O2 hq];exact h1
 len:=by rw[O2 hq];exact h2
 prm:=by
  have:=a2s (v:=v) (fun u s hs=>(h.par u s hs).2.1) hq
  rw[e] at this;have z:(v::(ringL p v q).map sE).Perm (v::(ringL p v q).map sS):=by
   rw[<-this];exact(List.perm_append_singleton v _).symm
  exact(z.cons_inv).symm
 pos:=by
  have:=a3c (v:=v) h hq
  rw[e] at this;walk_at "o"
 nd:=by
  rw[a3H (fun u s hs=>(h.par u s hs).2.1) hq];exact a8A e hf
structure Tz (n:Int) (a b:Int) (ts:List Tie):Prop where
 t:∀t∈ts,0<=t.1/\t.1<t.2.1/\t.2.1<n/\1<=t.2.2/\t.2.2<=10^12/\(t.1<a\/t.1=a/\t.2.1<b)
 nd:(ts.map fun t=>(t.1,t.2.1)).Nodup
theorem Tz.next {n a b b':Int}{ts:List Tie}(h:Tz n a b ts)(hb:b<=b'):Tz n a b' ts:=⟨fun t ht=>by have:=h.t t ht;walk_at "o",h.nd⟩
theorem Tz.row {n a b b':Int}{ts:List Tie}(h:Tz n a b ts):Tz n (a+1) b' ts:=⟨fun t ht=>by have:=h.t t ht;walk_at "o",h.nd⟩
theorem Tz.put {n a b g:Int}{ts:List Tie}(h:Tz n a b ts)(ha:0<=a)(hab:a<b)(hb:b<n)(hg:1<=g/\g<=10^12):Tz n a (b+1) (ts++[(a,b,g)]):=by
 refine⟨fun t ht=>?_,?_⟩
 ·rcases qG.mp ht with z|z
  ·have:=h.t t z;walk_at "o"
  ·rw[zN.mp z];show 0<=a/\a<b/\b<n/\1<=g/\g<=10^12/\(a<a\/a=a/\b<b+1);walk_at "o"
 ·rw[zL,jR];refine⟨h.nd,by simp,fun x hx y hy e=>?_⟩
  subst e;obtain⟨t,ht,e⟩:=zZ.mp hx;have hy:x=(a,b):=by simpa using hy
  rw[hy] at e;injection e with e1 e2
  have:=h.t t ht
  walk_at "o"
theorem Tz.web {n a b:Int}{ts:List Tie}(h:Tz n a b ts)(hn:1<=n/\n<=8):WebOk n ts:=by
 refine⟨hn,fun t ht=>by have:=h.t t ht;walk_at "o",h.nd,?_⟩
 have nd:(ts.map fun t=>t.1.toNat*7+(t.2.1-1).toNat).Nodup:=by
  refine yF.mpr ?_;refine List.Pairwise.imp_of_mem ?_ (yF.mp h.nd);intro a b ha hb hab e
  have:=h.t a ha
  have:=h.t b hb
  exact hab (by rw[show a.1=b.1 by walk_at "o",show a.2.1=b.2.1 by walk_at "o"])
 have:=a1q (n:=49) nd fun x hx=>by
  obtain⟨t,ht,rfl⟩:=zZ.mp hx
  have:=h.t t ht
  walk_at "o"
 rw[zC] at this;walk_at "o"
theorem threeAt {i:Int}(h0:0<=i)(h3:i<3):∃s:Int,atI [D.int 3,.int 5,.int 7] i=some (.int s):=by
 have hc:i=0\/i=1\/i=2:=by walk_at "o"
 rcases hc with rfl|rfl|rfl
 ·exact⟨_,a_0⟩
 ·exact⟨_,a_1⟩
 ·exact⟨_,a_2⟩
abbrev a0o:Stmt:=top 31
theorem a1N:FnScope ["pool","most","n","kind","sort","base","ring","ties","a","b","more","gain"] ["pool","most"] (defScope a0o):=by walk_at "c"
def a2j (g:LL):Prop:=∀(p m:Int),1<=m->m<=8->∃(n q:Int) (ts:List Tie),WebOk n ts/\g (poolD p) [.int m]=some (.v (webD n ts),poolD q)
theorem a4Q {j9:LL}{L6:LL}(c9:FnL P w K mg base "_law_take" k j9)(g5:A9 j9)(M5:FnL P w K mg base "_law_wanted" k L6)(L7:Y3 L6)(m_min:mg "min"=none)(g7:mg "range"=none)(m9:mg "tuple"=none)(F:Fun K "_law_web" "_law_web" a0o f fd)(B:Binds K fd ["pool","most"] [])(hm:mg "_law_web"=some (.ref f)):∃g,FnL P w K mg base "_law_web" (k+1) g/\a2j g:=by
 have nd:=a1N.nd
 refine⟨_,a0d F a1N B hm rfl rfl (fun cdv A outer s H E hr=>(b9 (g9 2 nd (m7 b8 (l7 c9 hr (a8 (a7 0) (a8 (a7 1) a9)))))
  (b9 (g9 3 nd (l7 c9 hr (a8 (a7 0) (a8 b8 a9))))
  (b9 (g9 4 nd (l7 c9 hr (a8 (a7 0) (a8 b8 a9))))
  (b9 (g9 5 nd (m7 b8 (l7 c9 hr (a8 (a7 0) (a8 b8 a9)))))
  (b9 (g9 6 nd (qx_b (O4 rfl) a2l m_min (a8 (j0 hr (t6 (a8 b8 (a8 b8 (a8 b8 a9)))) (l7 c9 hr (a8 (a7 0) (a8 b8 a9)))) (a8 (m7 (V2 (a7 2) b8) (Q3 (a7 2) b8)) a9))))
  (b9 (g9 7 nd (t6 a9))
  (b9 (A7 zU rfl (K1 g7 (a8 (a7 2) a9)) (c8 8 nd) (c7 (A7 zU rfl (b0w g7 (a8 (m7 (a7 8) b8) (a8 (a7 2) a9))) (c8 9 nd) (c7 (w8 (S3 (l7 M5 hr (a8 (a7 0) (a8 (a7 3) (a8 (a7 6) (a8 (a7 8) (a8 (a7 9) a9))))))) (b9 (g9 10 nd (j0 hr (t6 (a8 b8 (a8 (l7 c9 hr (a8 (a7 0) (a8 b8 a9))) (a8 (l7 c9 hr (a8 (a7 0) (a8 b8 a9))) a9)))) (qx_b (O4 rfl) a2l m_min (a8 (a7 4) (a8 b8 a9)))))
  (b9 (g9 11 nd (j0 hr (t6 (a8 (a7 5) (a8 (m7 b8 (a7 10)) (a8 (m7 (a7 5) (a7 10)) (a8 (V2 (a6d b8 b8) (a7 10)) (a8 (m7 b8 (l7 c9 hr (a8 (a7 0) (a8 (a6d b8 b8) a9)))) a9)))))) (a7 4)))
  (c7 (K5 (G1 (a7 7) (a8 (m6 (a8 (a7 8) (a8 (a7 9) (a8 (a7 11) a9)))) a9)))))) t3)))))
  (c7 (j6 (m6 (a8 (a7 2) (a8 (qx_t C3 U5 m9 (a8 (a7 7) a9)) a9))))))))))))),?_⟩
 intro p m hm1 hm8;obtain⟨i1,p1,h1,e1⟩:=g5 p m (by walk_at "o") (by walk_at "o")
 obtain⟨i2,p2,h2,e2⟩:=g5 p1 6 (by decide) (by decide)
 obtain⟨i3,p3,h3,e3⟩:=g5 p2 5 (by decide) (by decide)
 obtain⟨i4,p4,h4,e4⟩:=g5 p3 40 (by decide) (by decide)
 obtain⟨i5,p5,h5,e5⟩:=g5 p4 3 (by decide) (by decide)
 have lp:∀q,lfC (poolD q)=true:=fun q=>rfl;obtain⟨s5,a5⟩:=threeAt h5.1 h5.2;obtain⟨n,en,hn⟩:∃n:Int,1+i1=n/\1<=n/\n<=8:=⟨_,rfl,by walk_at "o",by walk_at "o"⟩
 obtain⟨bs,eb,hb⟩:∃bs:Int,1+i4=bs/\1<=bs/\bs<=40:=⟨_,rfl,by walk_at "o",by walk_at "o"⟩
 obtain⟨rg,er⟩:∃rg:Int,(if n-1+n%2<s5 then n-1+n%2 else s5)=rg:=⟨_,rfl⟩;have c2:(0:Int)<2:=by decide
 have r1:(-(2^62:Int)<=n/\n<2^62):=by walk_at "o"
 repeat(first|walk_at "z r" | simp only[e1,lp,e2,e3,e4,e5,a5,en,eb,c2,er,r1])
 generalize el:loopF _ _ _=r;refine B8 el (fun i ρ=>∃(p:Int) (ts:List Tie) (o8 o9 o10 o11:Option D),ρ=[some (.l (poolD p)),some (.v (.int m)),some (.v (.int n)),some (.v (.int i2)),some (.v (.int i3)),some (.v (.int bs)),some (.v (.int rg)),some (.o (.lst (ts.map tieD))),o8.map .v,o9.map .v,o10.map .v,o11.map .v]/\Tz n (i:Int) 0 ts) ⟨p5,[],none,none,none,none,rfl,⟨(fun _ h=>by cases h),nodup_nil⟩⟩ ?_ ?_
 ·rintro i x _ hx ⟨p,ts,o8,o9,o10,o11,rfl,ht⟩;obtain⟨rfl,hi⟩:=R8 hx;rw[Int.zero_add];have r2:((-(2^62:Int)<=(i:Int)+1/\(i:Int)+1<2^62)/\-(2^62:Int)<=n/\n<2^62):=by walk_at "o"
  repeat(first|walk_at "z i" | simp only[r2])
  generalize el2:loopF _ _ _=r2;refine B8 el2 (fun j ρ=>∃(p:Int) (ts:List Tie) (o9 o10 o11:Option D),ρ=[some (.l (poolD p)),some (.v (.int m)),some (.v (.int n)),some (.v (.int i2)),some (.v (.int i3)),some (.v (.int bs)),some (.v (.int rg)),some (.o (.lst (ts.map tieD))),some (.v (.int (i:Int))),o9.map .v,o10.map .v,o11.map .v]/\Tz n (i:Int) ((i:Int)+1+(j:Int)) ts) ⟨p,ts,o9,o10,o11,rfl,ht.next (by walk_at "o")⟩ ?_ ?_
  ·rintro j x _ hx ⟨p,ts,o9,o10,o11,rfl,ht⟩;obtain⟨rfl,hj⟩:=R8 hx;obtain⟨B,eB,hB⟩:∃B:Int,(i:Int)+1+(j:Int)=B/\(i:Int)<B/\B<n:=⟨_,rfl,by walk_at "o",by walk_at "o"⟩
   have eB':(i:Int)+1+((j+1:Nat):Int)=B+1:=by walk_at "o"
   rw[eB] at ht ⊢;rw[eB'];obtain⟨w,q0,ew⟩:=L7 p i2 rg (i:Int) B h2.1 h2.2 (by walk_at "o") (by walk_at "o") (by walk_at "o") (by walk_at "o")
   cases w with
   | false=>
    refine⟨_,?_,q0,ts,some (.int B),o10,o11,rfl,ht.next (by walk_at "o")⟩
    repeat(first|walk_at "z r" | simp only[ew,lp])
   | true=>
    obtain⟨j1,q1,g1,k1⟩:=g5 q0 4 (by decide) (by decide)
    obtain⟨j2,q2,g2,k2⟩:=g5 q1 3 (by decide) (by decide)
    obtain⟨j3,q3,g3,k3⟩:=g5 q2 (10^12) (by decide) (by decide)
    have k3:j9 (poolD q2) [.int ((10:Int)^(12:Int).toNat)]=some (.v (.int j3),poolD q3):=k3;have pw:CPow 10 12:=by decide
    obtain⟨mr,am,hm⟩:∃mr:Int,atI [D.int 0,.int j1,.int j2] (if 2<i3 then 2 else i3)=some (.int mr)/\0<=mr/\mr<=3:=by
     have hc:i3=0\/i3=1\/2<=i3:=by walk_at "o"
     rcases hc with rfl|rfl|h
     ·exact⟨0,a_0,by walk_at "o",by walk_at "o"⟩
     ·exact⟨j1,a_1,by walk_at "o",by walk_at "o"⟩
     ·refine⟨j2,?_,by walk_at "o",by walk_at "o"⟩
      by_cases z:2<i3
      ·rw[if_pos z];exact a_2
      ·rw[if_neg z,show i3=2 by walk_at "o"];exact a_2
    obtain⟨gn,ag,hg⟩:∃gn:Int,atI [D.int bs,.int (1+mr),.int (bs+mr),.int ((10:Int)^(12:Int).toNat-mr),.int (1+j3)] i3=some (.int gn)/\1<=gn/\gn<=10^12:=by
     have hc:i3=0\/i3=1\/i3=2\/i3=3\/i3=4:=by walk_at "o"
     rcases hc with rfl|rfl|rfl|rfl|rfl
     ·exact⟨_,a_0,by walk_at "o",by walk_at "o"⟩
     ·exact⟨_,a_1,by walk_at "o",by walk_at "o"⟩
     ·exact⟨_,a_2,by walk_at "o",by walk_at "o"⟩
     ·refine⟨_,a_3,?_,?_⟩<;>rw[show(10:Int)^(12:Int).toNat=10^12 from rfl]<;>walk_at "o"
     ·exact⟨_,a_4,by walk_at "o",by walk_at "o"⟩
    have hlen:ts.length<1000000:=by have:=(ht.web hn).len;walk_at "o"
    refine⟨_,?_,q3,ts++[((i:Int),B,gn)],some (.int B),some (.int mr),some (.int gn),rfl,ht.put (by walk_at "o") hB.1 hB.2 hg⟩
    rw[zL]
    repeat(first|walk_at "z r" | simp only[ew,lp,k1,k2,am,pw,k3,ag,zC,hlen])
    rfl
  ·rintro _ rfl ⟨p,ts,o9,o10,o11,rfl,ht⟩;refine⟨_,rfl,p,ts,some (.int (i:Int)),o9,o10,o11,rfl,?_⟩;rw[show((i+1:Nat):Int)=(i:Int)+1 by walk_at "o"]
   exact ht.row
 ·rintro _ rfl ⟨p,ts,o8,o9,o10,o11,rfl,ht⟩;have lt:lfL (ts.map tieD)=true:=z8 fun x hx=>by obtain⟨t,_,rfl⟩:=zZ.mp hx;rfl
  refine⟨n,p,ts,ht.web hn,?_⟩;unfold webD
  repeat(first|walk_at "z r" | simp only[lt,lp])
abbrev P9:Stmt:=top 32
theorem Y6:FnScope ["web","gains_v","person","a","b","gain"] ["web"] (defScope P9):=by walk_at "c"
def F7 (g:LO):Prop:=∀(n:Int) (ts:List Tie),WebOk n ts->g [webD n ts]=some (.o (.dT (oneK n.toNat++ts.map tkK) (List.replicate n.toNat (D.int 0)++ts.map fun t=>D.int t.2.2)))
theorem a2X (g7:mg "range"=none)(F:Fun K "_law_gains" "_law_gains" P9 f fd)(B:Binds K fd ["web"] [])(hm:mg "_law_gains"=some (.ref f)):∃g,Fn P w K mg base "_law_gains" (k+1) g/\F7 g:=by
 have nd:=Y6.nd
 refine⟨_,A8 F Y6 B hm rfl rfl (fun cdv A outer s H E hr=>(b9 (g9 1 nd b0Q)
  (b9 (A7 zU rfl (K1 g7 (a8 (j0 hr (a7 0) b8) a9)) (c8 2 nd) (c7 (a5A hr (a7 1) (a8 (a7 2) a9) b8)))
  (b9 (A7 zU rfl (J5 (j0 hr (a7 0) b8)) (D1 rfl (j4 (c8 3 nd) (j4 (c8 4 nd) (j4 (c8 5 nd) B7)))) (c7 (a5A hr (a7 1) (a8 (a7 3) (a8 (a7 4) a9)) (a7 5))))
  (c7 (j6 (a7 1))))))),?_⟩
 intro n ts hw;have hn:=hw.n1;have hl:=hw.len;have r1:(-(2^62:Int)<=n/\n<2^62):=by walk_at "o"
 unfold webD
 repeat(first|walk_at "z r" | simp only[r1])
 generalize el:loopF _ _ _=r;refine B8 el (fun i ρ=>∃(o1:Option D),ρ=[some (.v (.tup [.int n,.tup (ts.map tieD)])),some (.o (.dT (oneK i) (List.replicate i (D.int 0)))),o1.map .v,none,none,none]/\i<=n.toNat) ⟨none,rfl,jN _⟩ ?_ ?_
 ·rintro i x _ hx ⟨o1,rfl,hi⟩;obtain⟨rfl,hi'⟩:=R8 hx;obtain⟨q1,q2⟩:=a4G (kl:=oneK i) (xs:=List.replicate i (D.int 0)) (d:=.int 0) (a96 (i:=i));have hk:(oneK i).length<1000000:=by unfold oneK;rw[zC,length_range];walk_at "o"
  refine⟨_,?_,some (.int (0+(i:Int))),rfl,by walk_at "o"⟩
  rw[a8E,List.replicate_succ'];rw[Int.zero_add]
  repeat(first|walk_at "z r" | simp only[hk,q1,q2])
 ·rintro _ rfl ⟨o1,rfl,hi⟩;rw[w9];walk_at "q";generalize el2:loopF _ _ _=r2;refine B8 el2 (fun i ρ=>∃(o1 o2 o3 o4:Option D),ρ=[some (.v (.tup [.int n,.tup (ts.map tieD)])),some (.o (.dT (oneK n.toNat++(ts.take i).map tkK) (List.replicate n.toNat (D.int 0)++(ts.take i).map fun t=>D.int t.2.2))),o1.map .v,o2.map .v,o3.map .v,o4.map .v]/\i<=ts.length) ⟨o1,none,none,none,by simp,jN _⟩ ?_ ?_
  ·rintro i x _ hx ⟨o1,o2,o3,o4,rfl,hi⟩;rw[zV] at hx;cases ht:ts[i]? with
   | none=>rw[ht] at hx;cases hx
   | some t=>
    rw[ht] at hx;cases hx;obtain⟨a,b,c⟩:=t;have et:ts.take (i+1)=ts.take i++[(a,b,c)]:=by rw[take_add_one,ht];rfl
    have nin:tkK (a,b,c)∉oneK n.toNat++(ts.take i).map tkK:=by
     have nd:=a8b hw;rw[<-List.take_append_drop (i+1) ts,et,zL,zL,<-jQ,<-jQ] at nd;have nd2:=(jR.mp nd).1;intro z;exact(jR.mp nd2).2.2 _ z _ (by simp) rfl
    obtain⟨q1,q2⟩:=a4G (xs:=List.replicate n.toNat (D.int 0)++(ts.take i).map fun t=>D.int t.2.2) (d:=.int c) nin;have hk:(oneK n.toNat++(ts.take i).map tkK).length<1000000:=by
     unfold oneK;rw[zM,zC,zC,length_range,length_take];walk_at "o"
    have lt:=(zG.mp ht).1;refine⟨_,?_,o1,some (.int a),some (.int b),some (.int c),rfl,lt⟩;rw[et,zL,zL,<-jQ,<-jQ];rw[show tkK (a,b,c)=[Sum.inl a,Sum.inl b] from rfl] at q1 q2;rw[show tieD (a,b,c)= .tup [.int a,.int b,.int c] from rfl]
    repeat(first|walk_at "z r" | simp only[hk,q1,q2])
    rfl
  ·rintro _ rfl ⟨o1,o2,o3,o4,rfl,hi⟩;rw[zC,take_length];walk_at "q"
structure PairOk (n:Int) (ts:List Tie) (ps:List (List Int)):Prop where
 mem:∀p∈ps,p∈parK n ts
 len:ps.length<=8
 prm:ps.flatten.Perm (up n.toNat)
 srt:sortK ps=ps
theorem a2F (ks:List (List Int)):sortK (sortK ks)=sortK ks:=by
 unfold sortK;apply List.mergeSort_of_pairwise;have h:=P4 ks;unfold sortK at h;exact h.imp fun{a b} hab=>by unfold kleB;rw[hab];rfl
structure Pw (n:Int) (ts:List Tie) (fr:List Int) (ps:List (List Int)):Prop where
 par:∀p∈ps,p∈parK n ts
 perm:(ps.flatten++fr).Perm (up n.toNat)
theorem Pw.nd {n:Int}{ts:List Tie}{fr:List Int}{ps:List (List Int)}(h:Pw n ts fr ps):fr.Nodup:=((jR.mp (h.perm.nodup_iff.mpr (T4 _))).2).1
theorem Pw.rng {n:Int}{ts:List Tie}{fr:List Int}{ps:List (List Int)}(h:Pw n ts fr ps){x:Int}(hx:x∈fr):0<=x/\x<n.toNat:=A6.mp (h.perm.mem_iff.mp (qA _ hx))
theorem Pw.step {n:Int}{ts:List Tie}{fr p:List Int}{ps:List (List Int)}(h:Pw n ts fr ps)(hp:p∈parK n ts)(hs:∀x∈p,x∈fr)(hd:p.Nodup):Pw n ts (fr.filter fun x=>!decide (x∈p)) (ps++[p]) where
 par:=fun k hk'=>by
  rcases qG.mp hk' with z|z
  ·exact h.par k z
  ·rw[zN.mp z];exact hp
 perm:=by
  refine List.Perm.trans ?_ h.perm;rw[qY,jQ];refine List.Perm.append_left _ ?_;rw[jP,List.flatten_nil,xD];rw[List.perm_ext_iff_of_nodup _ h.nd]
  ·intro x;rw[qG,qW];constructor
   ·rintro(z|z)
    ·exact hs x z
    ·exact z.1
   ·intro z
    by_cases hx:x∈p
    ·exact .inl hx
    ·exact .inr ⟨z,by simpa using hx⟩
  ·rw[jR];exact⟨hd,h.nd.filter _,fun x hx y hy e=>by subst e;have:=(qW.mp hy).2;simp[hx] at this⟩
theorem W2 {gs:List (List Int)}(h:∀k∈gs,1<=k.length):gs.length<=gs.flatten.length:=by
 induction gs with
 | nil=>exact zE _
 | cons g gs ih=>
  have h1:=h g zJ;have h2:=ih fun k hk=>h k (zI _ hk);rw[jP,zM,qJ];walk_at "o"
theorem Pw.len {n:Int}{ts:List Tie}{fr:List Int}{ps:List (List Int)}(h:Pw n ts fr ps)(hw:WebOk n ts):ps.length+fr.length<=8:=by
 have z:=h.perm.length_eq;rw[zM,show(up n.toNat).length=n.toNat by unfold up;simp] at z
 have:=W2 fun k hk=>(A5 hw (h.par k hk)).2.1
 have:=hw.n1
 walk_at "o"
def pairK (one o:Int):List Int:=[if o<one then o else one,if o>one then o else one]
def mat (mu:List Int) (p:Int):Int:=mu.getD p.toNat 0
def MOk (mu:List Int):List Int->Prop
 | [a]=>mat mu a=a
 | [a,c]=>mat mu a=c/\mat mu c=a
 | _=>True
structure Mates (n:Int) (ps:List (List Int)) (mu:List Int):Prop where
 len:mu.length=n.toNat
 ok:∀p∈ps,MOk mu p
theorem a1Z {mu:List Int}{a x:Int}{v:Int}(h:0<=a)(hl:a<mu.length)(hx:0<=x):mat (mu.set a.toNat v) x=if x=a then v else mat mu x:=by
 unfold mat;rw[zQ,zQ]
 by_cases z:x=a
 ·rw[if_pos z,z,yS (by walk_at "o")];rfl
 ·rw[if_neg z,zR (by walk_at "o")]
theorem MOk.same {mu mu':List Int}{p:List Int}(h:MOk mu p)(e:∀x∈p,mat mu' x=mat mu x):MOk mu' p:=by
 match p,h,e with
 | [],_,_=>trivial
 | [a],h,e=>show mat mu' a=a;rw[e a (by simp)];exact h
 | [a,c],h,e=>exact⟨by rw[e a (by simp)];exact h.1,by rw[e c (by simp)];exact h.2⟩
 | _::_::_::_,_,_=>trivial
theorem Mates.put {n:Int}{ts:List Tie}{ps:List (List Int)}{i:Nat}{mu:List Int}{a c:Int}(hp:PairOk n ts ps)(h:Mates n (ps.take i) mu){k:List Int}(hk:ps[i]? =some k)(hac:k=[a]/\c=a\/k=[a,c]/\a≠c):Mates n (ps.take (i+1)) ((mu.set a.toNat c).set c.toNat a):=by
 have hd:ps.drop i=k::ps.drop (i+1):=by
  obtain⟨hi,e⟩:=zG.mp hk;rw[xZ hi,e]
 have nd:ps.flatten.Nodup:=(hp.prm.nodup_iff).mpr (T4 _);have fl:ps.flatten=(ps.take i).flatten++(k++(ps.drop (i+1)).flatten):=by
  rw[<-jP,<-hd,<-qY,List.take_append_drop]
 have inU:∀x∈ps.flatten,0<=x/\x<n.toNat:=fun x hx=>A6.mp (hp.prm.mem_iff.mp hx);rw[fl] at nd inU;rw[jR] at nd;have ak:a∈k:=by rcases hac with ⟨rfl,_⟩|⟨rfl,_⟩<;>simp
 have ck:c∈k:=by rcases hac with ⟨rfl,rfl⟩|⟨rfl,_⟩<;>simp
 have ia:=inU a (qA _ (xC _ ak));have ic:=inU c (qA _ (xC _ ck));have hl:=h.len;have get:∀x,0<=x->mat ((mu.set a.toNat c).set c.toNat a) x=if x=c then a else if x=a then c else mat mu x:=fun x hx=>by
  rw[a1Z ic.1 (by rw[qS];walk_at "o") hx,a1Z ia.1 (by walk_at "o") hx]
 refine⟨by rw[qS,qS];exact hl,fun p hp'=>?_⟩
 rw[take_add_one,hk] at hp';rcases qG.mp hp' with z|z
 ·refine(h.ok p z).same fun x hx=>?_;have hx':x∈(ps.take i).flatten:=List.mem_flatten.mpr ⟨p,z,hx⟩;rw[get x (inU x (xC _ hx')).1,if_neg (fun e=>nd.2.2 x hx' c (xC _ ck) e),if_neg (fun e=>nd.2.2 x hx' a (xC _ ak) e)]
 ·have e:p=k:=by simpa using z
  subst e;rcases hac with ⟨rfl,rfl⟩|⟨rfl,ne⟩
  ·show mat _ c=c;rw[get c ic.1,if_pos rfl]
  ·refine⟨?_,?_⟩
   ·rw[get a ia.1,if_neg ne,if_pos rfl]
   ·rw[get c ic.1,if_pos rfl]
theorem b0Y {a:D}:atI [a] (-1)=some a:=rfl
theorem b05 {a c:D}:atI [a,c] (-1)=some c:=rfl
def upS (n:Int) (ts:List Tie) (k:List Int):List Tie:=[(k.headD 0+n,k.getLastD 0,gainOf ts k),(k.getLastD 0+n,k.headD 0,gainOf ts k)]
def dnS (n:Int) (ts:List Tie) (mu:List Int) (p:Int):Tie:=(p,mat mu p+n,-gainOf ts (pairK p (mat mu p)))
def stepsOf (n:Int) (ts:List Tie) (mu:List Int):List Tie:=(sortK (parK n ts)).flatMap (upS n ts)++(up n.toNat).map (dnS n ts mu)
abbrev Y9:Stmt:=top 20
theorem a1J:FnScope ["web","mates","people","gained","steps","party","one","other","gain","person","mate"] ["web","mates"] (defScope Y9):=by walk_at "c"
def a11 (g:LO):Prop:=∀(n:Int) (ts:List Tie) (mu:List Int),WebOk n ts->mu.length=n.toNat->g [webD n ts,.lst (mu.map .int)]=some (.o (.lst ((stepsOf n ts mu).map tieD)))
theorem a4t {α β:Type}{f:α->List β}{l:List α}{i:Nat}{k:α}(h:l[i]? =some k):(l.take (i+1)).flatMap f=(l.take i).flatMap f++f k:=by
 rw[take_add_one,h,List.flatMap_append];simp
theorem K6 {n:Int}{ts:List Tie}:∀l:List (List Int),(l.flatMap (upS n ts)).length=2*l.length
 | []=>rfl
 | k::l=>by rw[xU,zM,K6 l,qJ];show 2+_=_;walk_at "o"
theorem a41 {G3:LO}{a33:LO}(G5:Fn P w K mg base "parties" k G3)(G0:a03 G3)(a4k:Fn P w K mg base "gains" k a33)(a30:a6S a33)(C8:mg "enumerate"=none)(m_min:mg "min"=none)(m_max:mg "max"=none)(F:Fun K "steps_of" "steps_of" Y9 f fd)(B:Binds K fd ["web","mates"] [])(hm:mg "steps_of"=some (.ref f)):∃g,Fn P w K mg base "steps_of" (k+1) g/\a11 g:=by
 have nd:=a1J.nd
 refine⟨_,A8 F a1J B hm rfl rfl (fun cdv A outer s H E hr=>(b9 (a5I 2 3 rfl nd (a8 (j0 hr (a7 0) b8) (a8 (n9 a4k hr (a8 (a7 0) a9)) a9)) rfl)
  (b9 (g9 4 nd (t6 a9))
  (b9 (A7 zU rfl (J5 (n9 G5 hr (a8 (a7 0) a9))) (c8 5 nd) (b9 (b13 6 7 8 rfl nd (a8 (j0 hr (a7 5) b8) (a8 (j0 hr (a7 5) (M2 b8)) (a8 (b0T hr (a7 3) (a8 (a7 5) (a8 b8 a9))) a9))) rfl)
  (c7 (K5 (a8n (a7 4) (a8 (t6 (a8 (m6 (a8 (m7 (a7 6) (a7 2)) (a8 (a7 7) (a8 (a7 8) a9)))) (a8 (m6 (a8 (m7 (a7 7) (a7 2)) (a8 (a7 6) (a8 (a7 8) a9)))) a9))) a9))))))
  (b9 (A7 zU rfl (a7w C8 (a8 (a7 1) a9)) (D1 rfl (j4 (c8 9 nd) (j4 (c8 10 nd) B7))) (b9 (g9 8 nd (b0T hr (a7 3) (a8 (m6 (a8 (qx_b (O4 rfl) a2l m_min (a8 (a7 9) (a8 (a7 10) a9))) (a8 (qx_b (a1u rfl) a5H m_max (a8 (a7 9) (a8 (a7 10) a9))) a9))) (a8 b8 a9))))
  (c7 (K5 (G1 (a7 4) (a8 (m6 (a8 (a7 9) (a8 (m7 (a7 10) (a7 2)) (a8 (M2 (a7 8)) a9)))) a9))))))
  (c7 (j6 (a7 4)))))))),?_⟩
 intro n ts mu hw hmu;have hn:=hw.n1;have eg:=a30 n ts hw;have ep:=G0 n ts hw;have lf1:lfL (ts.map fun t=>D.int t.2.2)=true:=z8 fun y hy=>by obtain⟨x,hx,rfl⟩:=zZ.mp hy;rfl
 have g6:∀k ρ,ge6 (tupI k) (.int 0) ρ (some (.dT (ts.map tkK) (ts.map fun t=>D.int t.2.2)))=some (.v (.int (gainOf ts k)),ρ):=fun k ρ=>by rw[b1w (a1Q k),a3i]
 unfold webD;unfold webD at eg ep;have lk:=F4 (sortK (parK n ts));have pk:=O1 hw;have kl:(sortK (parK n ts)).length<=63:=by rw[(m8 _).length_eq];exact pk.1
 have km:∀k∈sortK (parK n ts),k∈parK n ts:=fun k hk=>(m8 _).mem_iff.mp hk;unfold stepsOf;generalize sortK (parK n ts)=ks at lk kl km ep
 repeat(first|walk_at "z i" | simp only[eg,lf1,ep,lk])
 generalize el:loopF _ _ _=r;refine B8 el (fun i ρ=>∃(o5 o6 o7 o8:Option D),ρ=[some (.v (.tup [.int n,.tup (ts.map tieD)])),some (.v (.lst (mu.map .int))),some (.v (.int n)),some (.v (.dT (ts.map tkK) (ts.map fun t=>D.int t.2.2))),some (.o (.lst (((ks.take i).flatMap (upS n ts)).map tieD))),o5.map .v,o6.map .v,o7.map .v,o8.map .v,none,none]) ⟨none,none,none,none,rfl⟩ ?_ ?_
 ·rintro i x _ hx ⟨o5,o6,o7,o8,rfl⟩;rw[zV] at hx;cases hk:ks[i]? with
  | none=>rw[hk] at hx;cases hx
  | some k=>
   rw[hk] at hx;cases hx;have il:=(zG.mp hk).1;have e:=a4t (f:=upS n ts) hk;have hle:((ks.take i).flatMap (upS n ts)).length+2<=1000000:=by rw[K6,length_take];walk_at "o"
   have hle':((ks.take i).flatMap (upS n ts)).length<=999998:=by walk_at "o"
   rw[e,zL];rcases a6e hw (km k (qX hk)) with ⟨a,rfl⟩|⟨a,c,rfl,ha,hac,hc,hg1⟩
   ·refine⟨_,?_,some (tupI [a]),some (.int a),some (.int a),some (.int (gainOf ts [a])),rfl⟩;have gk:∀ρ,ge6 (.tup [.int a]) (.int 0) ρ (some (.dT (ts.map tkK) (ts.map fun t=>D.int t.2.2)))=some (.v (.int (gainOf ts [a])),ρ):=g6 [a];rw[show upS n ts [a]=[(a+n,a,gainOf ts [a]),(a+n,a,gainOf ts [a])] from rfl];unfold tupI
    repeat(first|walk_at "z r" | simp only[b0Y,gk,b3q,a9y,a9A,zC,hle,hle',tieD])
   ·refine⟨_,?_,some (tupI [a,c]),some (.int a),some (.int c),some (.int (gainOf ts [a,c])),rfl⟩;have gk:∀ρ,ge6 (.tup [.int a,.int c]) (.int 0) ρ (some (.dT (ts.map tkK) (ts.map fun t=>D.int t.2.2)))=some (.v (.int (gainOf ts [a,c])),ρ):=g6 [a,c];rw[show upS n ts [a,c]=[(a+n,c,gainOf ts [a,c]),(c+n,a,gainOf ts [a,c])] from rfl];unfold tupI
    repeat(first|walk_at "z r" | simp only[b05,gk,b3q,a9y,a9A,zC,hle,hle',tieD])
 ·rintro _ rfl ⟨o5,o6,o7,o8,rfl⟩;rw[zC,take_length,zL];have fl:(ks.flatMap (upS n ts)).length<=126:=by rw[K6];walk_at "o"
  generalize ks.flatMap (upS n ts)=U at fl
  repeat(first|walk_at "z i")
  generalize el2:loopF _ _ _=r2;refine B8 el2 (fun i ρ=>∃(o5 o6 o7 o8 o9 o10:Option D),ρ=[some (.v (.tup [.int n,.tup (ts.map tieD)])),some (.v (.lst (mu.map .int))),some (.v (.int n)),some (.v (.dT (ts.map tkK) (ts.map fun t=>D.int t.2.2))),some (.o (.lst (U.map tieD++((up i).map (dnS n ts mu)).map tieD))),o5.map .v,o6.map .v,o7.map .v,o8.map .v,o9.map .v,o10.map .v]) ⟨o5,o6,o7,o8,none,none,by simp[up]⟩ ?_ ?_
  ·rintro i x _ hx ⟨o5,o6,o7,o8,o9,o10,rfl⟩;obtain⟨hi,ex⟩:∃hi:i<mu.length,x= .tup [.int i,.int mu[i]]:=by
    unfold enumD at hx;rw[List.getElem?_mapIdx,zV] at hx
    by_cases z:i<mu.length
    ·refine⟨z,?_⟩;rw[qB z] at hx;simpa using hx.symm
    ·rw[jA (by walk_at "o")] at hx;cases hx
   subst ex;have em:mat mu (i:Int)=mu[i]:=by
    unfold mat;rw[qQ,zQ,qB hi];rfl
   have gk:∀ρ,ge6 (.tup [.int (if mu[i]<(i:Int) then mu[i] else(i:Int)),.int (if mu[i]>(i:Int) then mu[i] else(i:Int))]) (.int 0) ρ (some (.dT (ts.map tkK) (ts.map fun t=>D.int t.2.2)))=some (.v (.int (gainOf ts (pairK (i:Int) mu[i]))),ρ):=g6 (pairK (i:Int) mu[i]);have ul:(up i).length<=8:=by rw[v5];walk_at "o"
   have hle:U.length+(up i).length<1000000:=by walk_at "o"
   have us:(up (i+1)).map (dnS n ts mu)=(up i).map (dnS n ts mu)++[((i:Int),mu[i]+n,-gainOf ts (pairK (i:Int) mu[i]))]:=by
    unfold up;rw[range_succ,zL,zL,yL,yL,Int.zero_add];show _++[((i:Int),mat mu (i:Int)+n,-gainOf ts (pairK (i:Int) (mat mu (i:Int))))]=_;rw[em]
   refine⟨_,?_,o5,o6,o7,some (.int (gainOf ts (pairK (i:Int) mu[i]))),some (.int i),some (.int mu[i]),rfl⟩;rw[us,zL,<-jQ]
   repeat(first|walk_at "z r" | simp only[gk,zH,xW,zM,zC,hle,tieD])
  ·rintro _ rfl ⟨o5,o6,o7,o8,o9,o10,rfl⟩;have el3:(enumD (mu.map D.int)).length=n.toNat:=by unfold enumD;rw[length_mapIdx,zC,hmu]
   rw[el3];walk_at "q"
def optD:Option Tie->D
 | some s=>tieD s
 | none=>.non
theorem a0t (p:List (Option Tie)):lfL (p.map optD)=true:=z8 fun x hx=>by obtain⟨o,_,rfl⟩:=zZ.mp hx;cases o<;>rfl
theorem X1 (p:List Tie):lfL (p.map tieD)=true:=z8 fun x hx=>by obtain⟨o,_,rfl⟩:=zZ.mp hx;rfl
theorem a6z {m:List Int}{v:Int}(h:0<=v)(l:v<m.length):atI (m.map D.int) v=some (.int (mkv m v.toNat)):=a4p h l
theorem a9H {p:List (Option Tie)}{v:Int}(h:0<=v)(l:v<p.length):atI (p.map optD) v=some (optD (parAt p v.toNat)):=by
 refine a1j h ?_;unfold parAt;rw[zV,zQ,qB (by walk_at "o")]
 rfl
theorem rep0 (m:Nat):(List.replicate m [D.int 0]).flatten=(List.replicate m (0:Int)).map D.int:=by
 rw[List.map_replicate,List.flatten_replicate_singleton]
theorem repN (m:Nat):(List.replicate m [D.non]).flatten=(List.replicate m (none:Option Tie)).map optD:=by
 rw[List.map_replicate,List.flatten_replicate_singleton];rfl
def lastD:Option Nat->D
 | some v=>.int v
 | none=>.non
structure Calm (S:List Tie) (N:Nat) (m:List Int):Prop where
 len:m.length=N
 kept:∀s∈S,Kept m s
 m0:∀v,0<=mkv m v
 mb:∀v,mkv m v<=10^19
theorem Bf.calm {S:List Tie}{N k:Nat}{m:List Int}{p:List (Option Tie)}{r t:Nat->Nat}{c:Nat}(h:Bf S N k S.length m p none r t c)(hk1:1<=k)(hk:k<=16)(hS:S.length<=200):Calm S N m:=⟨h.lm,h.all rfl,h.m0,fun v=>by
 have h1:=h.mb v;have h2:=h.cb;have h3:(k-1)*S.length<=15*200:=Nat.mul_le_mul (by walk_at "o") hS
 have h4:c<=3200:=by walk_at "o"
 walk_at "o"⟩
abbrev a0Y:Stmt:=top 21
theorem a2T:FnScope ["marks","steps","raised_by","last","turn","step","start","end","more"] ["marks","steps"] (defScope a0Y):=by walk_at "c"
def a3p (g:LO):Prop:=∀(N:Nat) (S:List Tie),StOk N S->1<=N->N<=16->(∃(m:List Int) (p:List (Option Tie)),Calm S N m/\g [.lst ((List.replicate N (0:Int)).map .int),.lst (S.map tieD)]=some (.v (.tup [.lst (m.map .int),.lst (p.map optD),.non])))\/∃(m:List Int) (p:List (Option Tie)) (v:Nat) (r t:Nat->Nat) (c:Nat),Bf S N N S.length m p (some v) r t c/\g [.lst ((List.replicate N (0:Int)).map .int),.lst (S.map tieD)]=some (.v (.tup [.lst (m.map .int),.lst (p.map optD),.int v]))
theorem a5N (g7:mg "range"=none)(v4:mg "list"=none)(m_len:mg "len"=none)(F:Fun K "climbed" "climbed" a0Y f fd)(B:Binds K fd ["marks","steps"] [])(hm:mg "climbed"=some (.ref f)):∃g,Fn P w K mg base "climbed" (k+1) g/\a3p g:=by
 have nd:=a2T.nd
 refine⟨_,A8 F a2T B hm rfl rfl (fun cdv A outer s H E hr=>(b9 (a9F 0 2 3 rfl nd (N8 rfl v4 (a8 (a7 0) a9)) (b11 (b4f m_len (b1R 0))) b4g rfl)
  (b9 (A7 zU rfl (K1 g7 (a8 (qx_b r6 M9 m_len (a8 (a7 0) a9)) a9)) (c8 4 nd) (b9 (g9 3 nd U2)
  (b9 (A7 zU rfl (J5 (a7 1)) (c8 5 nd) (b9 (E7 (a7 5) (D1 rfl (j4 (c8 6 nd) (j4 (c8 7 nd) (j4 (c8 8 nd) B7)))))
  (c7 (w8 (a0C (a2w (a4N (j0 hr (a7 0) (a7 6)) U2) (a1R (a0C (a5w (a9e (j0 hr (a7 0) (a7 7)) U2) (a2S (a5P hr (j0 hr (a7 0) (a7 7)) (m7 (j0 hr (a7 0) (a7 6)) (a7 8))))))))) (c7 (E7 (m6 (a8 (m7 (j0 hr (a7 0) (a7 6)) (a7 8)) (a8 (a7 5) (a8 (a7 7) a9)))) (D1 rfl (j4 (U7 (a7 0) (a7 7)) (j4 (U7 (a7 2) (a7 7)) (j4 (c8 3 nd) B7)))))) t3))))
  (c7 (w8 (a9e (a7 3) U2) (c7 a8U) t3)))))
  (c7 (j6 (m6 (a8 (a7 0) (a8 (a7 2) (a8 (a7 3) a9))))))))),?_⟩
 intro N S hS hN1 hN;have l0:=j5 (List.replicate N (0:Int));have orp:oRep (.lst [.non]) (.int (N:Int))=some (.o (.lst ((List.replicate N (none:Option Tie)).map optD))):=by
  rw[b2u ⟨by walk_at "o",by rw[jK];unfold lim;walk_at "o"⟩,qQ,repN]
 have lo:=a0t (List.replicate N none);have ln:((List.replicate N (0:Int)).map D.int).length=N:=by rw[zC,length_replicate]
 have r1:(-(2^62:Int)<=(N:Int)/\(N:Int)<2^62):=by walk_at "o"
 repeat(first|walk_at "z i" | simp only[r_to,r_to2,r_to3,r_to4,b2c,b0b,b1T,b1f,r_fpv,b4a,r_fpc,l0,orp,lo,ln,r1,qQ])
 generalize el:loopF _ _ _=r0;refine b1l el (fun k ρ=>∃(m:List Int) (p:List (Option Tie)) (la:Option Nat) (r t:Nat->Nat) (c:Nat) (o4 o5 o6 o7 o8:Option D),ρ=[some (.o (.lst (m.map .int))),some (.v (.lst (S.map tieD))),some (.o (.lst (p.map optD))),some (.v (lastD la)),o4.map .v,o5.map .v,o6.map .v,o7.map .v,o8.map .v]/\Bf S N (k+1) 0 m p none r t c/\(k=0\/∃v,la=some v/\Bf S N k S.length m p (some v) r t c)) (fun ρ=>∃(m:List Int) (p:List (Option Tie)) (o4 o5 o6 o7 o8:Option D),ρ=[some (.o (.lst (m.map .int))),some (.v (.lst (S.map tieD))),some (.o (.lst (p.map optD))),some (.v .non),o4.map .v,o5.map .v,o6.map .v,o7.map .v,o8.map .v]/\Calm S N m) ⟨_,_,none,_,_,_,none,none,none,none,none,rfl,Bf.start,.inl rfl⟩ ?_ ?_
 ·rintro k x _ hx ⟨m,p,la,r,t,c,o4,o5,o6,o7,o8,rfl,hb,_⟩;obtain⟨rfl,hk⟩:=R8 hx
  repeat(first|walk_at "z i")
  generalize el2:loopF _ _ _=r2;refine B8 el2 (fun i ρ=>∃(m:List Int) (p:List (Option Tie)) (la:Option Nat) (r t:Nat->Nat) (c:Nat) (o5 o6 o7 o8:Option D),ρ=[some (.o (.lst (m.map .int))),some (.v (.lst (S.map tieD))),some (.o (.lst (p.map optD))),some (.v (lastD la)),some (.v (.int (0+(k:Int)))),o5.map .v,o6.map .v,o7.map .v,o8.map .v]/\Bf S N (k+1) i m p la r t c) ⟨m,p,none,r,t,c,o5,o6,o7,o8,rfl,hb⟩ ?_ ?_
  ·rintro i x _ hx ⟨m,p,la,r,t,c,o5,o6,o7,o8,rfl,hb⟩;rw[zV] at hx;cases hs:S[i]? with
   | none=>rw[hs] at hx;cases hx
   | some s=>
    rw[hs] at hx;cases hx;have g:=hS.rng s (qX hs);have lm:=hb.lm;have lp:=hb.lp;have a1:=a6z (m:=m) (v:=s.1) g.1 (by walk_at "o")
    have a2:=a6z (m:=m) (v:=s.2.1) g.2.2.1 (by walk_at "o")
    have a1:atI (m.map D.int) s.1=some (.int (mkv m (sS s))):=a1;have a2:atI (m.map D.int) s.2.1=some (.int (mkv m (sE s))):=a2;have x1:ixN (m.map D.int).length s.2.1=some (sE s):=a2g g.2.2.1 (by rw[zC];walk_at "o")
    have x2:ixN (p.map optD).length s.2.1=some (sE s):=a2g g.2.2.1 (by rw[zC];walk_at "o")
    have s1:(m.map D.int).set (sE s) (.int (mkv m (sS s)+s.2.2))=(m.set (sE s) (mkv m (sS s)+s.2.2)).map .int:=map_set.symm;have s2:(p.map optD).set (sE s) (.tup [.int s.1,.int s.2.1,.int s.2.2])=(p.set (sE s) (some s)).map optD:=by
     rw[map_set];rfl
    have eE:lastD (some (sE s))= .int s.2.1:=by
     show D.int ((s.2.1.toNat:Nat):Int)=_;rw[yH g.2.2.1]
    have fla:freeO (some (W.v (lastD la)))=true:=rfl
    by_cases hk:Kept m s
    ·have hd:decide (mkv m (sE s)<mkv m (sS s)+s.2.2)=false:=qK (by unfold Kept at hk;walk_at "o")
     refine⟨_,?_,m,p,la,r,t,c,some (tieD s),some (.int s.1),some (.int s.2.1),some (.int s.2.2),rfl,hb.skip hs hk⟩;unfold tieD
     repeat(first|walk_at "z r" | simp only[a1,a2,hd])
    ·have hd:decide (mkv m (sE s)<mkv m (sS s)+s.2.2)=true:=qL (by unfold Kept at hk;walk_at "o")
     refine⟨_,?_,_,_,some (sE s),_,_,_,some (tieD s),some (.int s.1),some (.int s.2.1),some (.int s.2.2),rfl,hb.raise hS hs hk (by walk_at "o")⟩
     rw[eE];unfold tieD
     repeat(first|walk_at "z r" | simp only[a1,a2,hd,x1,x2,s1,s2,fla])
  ·rintro _ rfl ⟨m,p,la,r,t,c,o5,o6,o7,o8,rfl,hb⟩;rw[zC] at hb;cases la with
   | none=>
    right;refine⟨_,?_,m,p,some (.int (0+(k:Int))),o5,o6,o7,o8,rfl,hb.calm (by walk_at "o") (by walk_at "o") hS.len⟩
    unfold lastD;walk_at "q"
   | some v=>
    left;refine⟨_,?_,m,p,some v,r,t,c,some (.int (0+(k:Int))),o5,o6,o7,o8,rfl,hb.next rfl (by walk_at "o"),.inr ⟨v,rfl,hb⟩⟩
    unfold lastD;walk_at "q"
 ·rintro _ rfl (⟨m,p,la,r,t,c,o4,o5,o6,o7,o8,rfl,hb,h⟩|⟨m,p,o4,o5,o6,o7,o8,rfl,hc⟩)
  ·rw[w9] at h hb;rcases h with h|⟨v,rfl,h⟩
   ·walk_at "o"
   ·right;have l1:=j5 m;have l2:=a0t p;refine⟨m,p,v,r,t,c,h,?_⟩;unfold lastD
    repeat(first|walk_at "z r" | simp only[l1,l2])
  ·left;have l1:=j5 m;have l2:=a0t p;refine⟨m,p,hc,?_⟩
   repeat(first|walk_at "z r" | simp only[l1,l2])
theorem b4d {l:List D}{x:D}:atI (l++[x]) (-1)=some x:=by
 unfold atI ixN;rw[zM,jK,if_neg (by decide),if_pos (by walk_at "o"),bind_some,show(-1+((l.length+1:Nat):Int)).toNat=l.length by walk_at "o"]
 simp
theorem b0f (S:List Tie)(s:Tie):atI ((S++[s]).map tieD) (-1)=some (tieD s):=by
 rw[zL];exact b4d
abbrev a1b:Stmt:=top 22
theorem a2R:FnScope ["steps","people","marks","raised_by","last","turn","ring"] ["steps","people"] (defScope a1b):=by walk_at "c"
def a3M (g:LO):Prop:=∀(n:Int) (N:Nat) (S:List Tie),1<=n->n<=8->2*n=(N:Int)->StOk N S->(∃m:List Int,Calm S N m/\g [.lst (S.map tieD),.int n]=some (.v (.tup [.lst (m.map .int),.lst []])))\/∃R:List Tie,Ring S N R/\g [.lst (S.map tieD),.int n]=some (.v (.tup [.non,.lst (R.map tieD)]))
def lenG:List (Option W)->Nat:=fun ρ=>match ρ[6]? with
 | some (some (W.o (D.lst xs)))=>xs.length
 | _=>0
theorem a5T {a1w:LO}(a1h:Fn P w K mg base "climbed" k a1w)(a1o:a3p a1w)(g7:mg "range"=none)(m_len:mg "len"=none)(F:Fun K "settled" "settled" a1b f fd)(B:Binds K fd ["steps","people"] [])(hm:mg "settled"=some (.ref f)):∃g,Fn P w K mg base "settled" (k+1) g/\a3M g:=by
 have nd:=a2R.nd
 refine⟨_,A8 F a2R B hm rfl rfl (fun cdv A outer s H E hr=>(b9 (E7 (n9 a1h hr (a8 (a2c (t6 (a8 b8 a9)) (P0 b8 (a7 1))) (a8 (a7 0) a9))) (D1 rfl (j4 (c8 2 nd) (j4 (c8 3 nd) (j4 (c8 4 nd) B7)))))
  (b9 (w8 (a9e (a7 4) U2) (c7 (j6 (m6 (a8 (a7 2) (a8 (t6 a9) a9))))) t3)
  (b9 (A7 zU rfl (K1 g7 (a8 (qx_b r6 M9 m_len (a8 (a7 2) a9)) a9)) (c8 5 nd) (c7 (g9 4 nd (j0 hr (j0 hr (a7 3) (a7 4)) b8))))
  (b9 (g9 6 nd (t6 (a8 (j0 hr (a7 3) (a7 4)) a9)))
  (b9 (a12 zU (a7v hr (j0 hr (j0 hr (a7 6) (M2 b8)) b8) (a7 4)) (c7 (K5 (G1 (a7 6) (a8 (j0 hr (a7 3) (j0 hr (j0 hr (a7 6) (M2 b8)) b8)) a9)))))
  (c7 (j6 (m6 (a8 U2 (a8 (a7 6) a9))))))))))),?_⟩
 intro n N S hn1 hn8 hN hS;have m2:mOk 2 n:=.inl (by decide)
 have orp:oRep (.lst [.int 0]) (.int (N:Int))=some (.o (.lst ((List.replicate N (0:Int)).map .int))):=by
  rw[b2u ⟨by walk_at "o",by rw[jK];unfold lim;walk_at "o"⟩,qQ,rep0]
 have l0:=j5 (List.replicate N (0:Int));have ls:=X1 S;rcases a1o N S hS (by walk_at "o") (by walk_at "o") with ⟨m,p,hc,e⟩|⟨m,p,v,r,t,c,hb,e⟩
 ·left;have l1:=j5 m;have l2:=a0t p;refine⟨m,hc,?_⟩
  repeat(first|walk_at "z r" | simp only[m2,hN,orp,l0,ls,e,l1,l2])
 ·right;have l1:=j5 m;have l2:=a0t p;have hr:=hb.ringed hS;obtain⟨tu,Q,q1,q2,eQ⟩:=hr.turn;have ln:(m.map D.int).length=N:=by rw[zC];exact hb.lm
  have lp:=hb.lp;have r1:(-(2^62:Int)<=(N:Int)/\(N:Int)<2^62):=by walk_at "o"
  repeat(first|walk_at "z r" | simp only[m2,hN,orp,l0,ls,e,l1,l2,ln,r1,qQ])
  generalize el:loopF _ _ _=r0;refine B8 el (fun j ρ=>∃(o5:Option D),ρ=[some (.v (.lst (S.map tieD))),some (.v (.int n)),some (.v (.lst (m.map .int))),some (.v (.lst (p.map optD))),some (.v (.int ((far p v j:Nat):Int))),o5.map .v,none]) ⟨none,rfl⟩ ?_ ?_
  ·rintro j x _ hx ⟨o5,rfl⟩;obtain⟨rfl,hj⟩:=R8 hx;obtain⟨s,hs⟩:=hr.back j hj;have hlt:=hr.rng j (by walk_at "o")
   have g:=hS.rng s (hb.par _ s hs).1;have a1:=a9H (p:=p) (v:=((far p v j:Nat):Int)) (by walk_at "o") (by walk_at "o")
   rw[qQ,hs] at a1;have a1:atI (p.map optD) ((far p v j:Nat):Int)=some (.tup [.int s.1,.int s.2.1,.int s.2.2]):=a1;have ef:((far p v (j+1):Nat):Int)=s.1:=by
    rw[far,nxt,hs];show((s.1.toNat:Nat):Int)=_;rw[yH g.1]
   refine⟨_,?_,some (.int (0+(j:Int))),rfl⟩;rw[ef]
   repeat(first|walk_at "z r" | simp only[a1])
  ·rintro _ rfl ⟨o5,rfl⟩;rw[w9];obtain⟨V,eV⟩:∃V,far p v N=V:=⟨_,rfl⟩;have tv:∀a,∃s,parAt p (far p V a)=some s:=fun a=>by rw[<-eV,<-a0v];exact tu _ (by walk_at "o")
   have eQ:far p V Q=V:=by rw[<-eV,<-a0v,eQ]
   have vl:V<N:=by rw[<-eV];exact hr.rng N (zE _)
   have fl:∀a,far p V a<N:=fun a=>by
    cases a with
    | zero=>exact vl
    | succ a=>
     obtain⟨s,hs⟩:=tv a;have g:=hS.rng s (hb.par _ s hs).1;rw[far,nxt,hs];show s.1.toNat<N;walk_at "o"
   have an:∀a,∃s:Tie,parAt p (far p V a)=some s/\s.1=((far p V (a+1):Nat):Int)/\atI (p.map optD) ((far p V a:Nat):Int)=some (.tup [.int s.1,.int s.2.1,.int s.2.2]):=fun a=>by
    obtain⟨s,hs⟩:=tv a;have g:=hS.rng s (hb.par _ s hs).1;refine⟨s,hs,?_,?_⟩
    ·rw[far,nxt,hs];show s.1=((s.1.toNat:Nat):Int);rw[yH g.1]
    ·have hlt:=fl a;have a1:=a9H (p:=p) (v:=((far p V a:Nat):Int)) (by walk_at "o") (by walk_at "o")
     rw[qQ,hs] at a1;exact a1
   rw[eV];obtain⟨s0,hs0,hs1,hs2⟩:=an 0;have hs2:atI (p.map optD) ((V:Nat):Int)=some (.tup [.int s0.1,.int s0.2.1,.int s0.2.2]):=hs2;have R1:[D.tup [.int s0.1,.int s0.2.1,.int s0.2.2]]=(ringL p V 1).map tieD:=by
    rw[ringL,hs0];rfl
   repeat(first|walk_at "z i" | simp only[hs2])
   rw[R1];generalize ew:whileV _ _ _=r1;refine a2a ew (fun ρ=>∃q:Nat,ρ=[some (.v (.lst (S.map tieD))),some (.v (.int n)),some (.v (.lst (m.map .int))),some (.v (.lst (p.map optD))),some (.v (.int ((V:Nat):Int))),o5.map .v,some (.o (.lst ((ringL p V (q+1)).map tieD)))]/\q+1<=Q/\∀a,0<a->a<q+1->far p V a≠V) (fun ρ=>∃q:Nat,ρ=[some (.v (.lst (S.map tieD))),some (.v (.int n)),some (.v (.lst (m.map .int))),some (.v (.lst (p.map optD))),some (.v (.int ((V:Nat):Int))),o5.map .v,some (.o (.lst ((ringL p V (q+1)).map tieD)))]/\q+1<=Q/\far p V (q+1)=V/\∀a,0<a->a<q+1->far p V a≠V) (fun ρ=>Q-lenG ρ) ⟨0,rfl,q1,fun a h1 h2=>by walk_at "o"⟩ ?_ ?_
   ·rintro _ ⟨q,rfl,hq,hfa⟩;obtain⟨s,hs,hs1,hs2⟩:=an q;have la:atI ((ringL p V (q+1)).map tieD) (-1)=some (.tup [.int s.1,.int s.2.1,.int s.2.2]):=by
     rw[ringL,hs,toList_some,b0f];rfl
    have rl:(ringL p V (q+1)).length=q+1:=O2 fun a _=>tv a
    by_cases hz:far p V (q+1)=V
    ·left;have z:((((far p V (q+1):Nat):Int)==((V:Nat):Int)))=true:=by rw[hz];exact beq_self_eq_true _
     refine⟨_,?_,q,rfl,hq,hz,hfa⟩
     repeat(first|walk_at "z r" | simp only[la,hs1,z])
    ·right;have z:((((far p V (q+1):Nat):Int)==((V:Nat):Int)))=false:=beq_eq_false_iff_ne.mpr (by walk_at "o")
     have hq2:q+2<=Q:=by
      rcases Nat.lt_or_ge (q+1) Q with h|h
      ·exact h
      ·exact absurd (by rw[show q+1=Q by walk_at "o"];exact eQ) hz
     obtain⟨s',hs',hs1',hs2'⟩:=an (q+1);have rn:ringL p V (q+1+1)=ringL p V (q+1)++[s']:=by rw[ringL,hs',toList_some]
     have rl2:(ringL p V (q+1+1)).length=q+1+1:=O2 fun a _=>tv a;have lt:(ringL p V (q+1)).length<1000000:=by walk_at "o"
     refine⟨[some (.v (.lst (S.map tieD))),some (.v (.int n)),some (.v (.lst (m.map .int))),some (.v (.lst (p.map optD))),some (.v (.int ((V:Nat):Int))),o5.map .v,some (.o (.lst ((ringL p V (q+1)).map tieD)))],_,?_,?_,⟨q+1,rfl,hq2,fun a h1 h2=>?_⟩,?_⟩
     ·repeat(first|walk_at "z r" | simp only[la,hs1,z])
     ·rw[rn,zL]
      repeat(first|walk_at "z r" | simp only[la,hs1,hs2',zC,lt])
      rfl
     ·by_cases z':a=q+1
      ·rw[z'];exact hz
      ·exact hfa a h1 (by walk_at "o")
     ·show Q-((ringL p V (q+1+1)).map tieD).length<Q-((ringL p V (q+1)).map tieD).length;rw[zC,zC,rl,rl2];walk_at "o"
   ·rintro _ rfl ⟨q,rfl,hq,hz,hfa⟩;have lr:=X1 (ringL p V (q+1));refine⟨ringL p V (q+1),hb.ring (fun a _=>tv a) (by walk_at "o") (by walk_at "o") hz hfa,?_⟩
    repeat(first|walk_at "z r" | simp only[lr])
def shM (n:Int) (m:List Int) (p:Int):Rat:=Rat.divInt (mkv m p.toNat-mkv m (p+n).toNat) 2
def shH (n:Int) (m:List Int):D->D
 | .int p=>ratD (shM n m p)
 | d=>d
theorem a6G (n:Int)(m:List Int):((rngD 0 n.toNat).filter fun _=>true).map (shH n m)=((up n.toNat).map (shM n m)).map ratD:=by
 rw[q8,a9I,qF,qF];rfl
abbrev U0:Stmt:=top 23
theorem a0x:FnScope ["marks","people"] ["marks"] (defScope U0):=by walk_at "c"
def a1M (g:LO):Prop:=∀(n:Int) (m:List Int),1<=n->n<=8->(m.length:Int)=2*n->g [.lst (m.map .int)]=some (.v (.tup (((up n.toNat).map (shM n m)).map ratD)))
theorem a4h {a4F:LO}(a35:Fn P w K mg base "ratio" k a4F)(a4r:a6L a4F)(m9:mg "tuple"=none)(m_len:mg "len"=none)(g7:mg "range"=none)(F:Fun K "shares_by" "shares_by" U0 f fd)(B:Binds K fd ["marks"] [])(hm:mg "shares_by"=some (.ref f)):∃g,Fn P w K mg base "shares_by" (k+1) g/\a1M g:=by
 have nd:=a0x.nd
 refine⟨_,A8 F a0x B hm rfl rfl (fun cdv A outer s H E hr=>(b9 (g9 1 nd (Z2 (qx_b r6 M9 m_len (a8 (a7 0) a9)) b8))
  (c7 (j6 (qx_t C3 U5 m9 (a8 (z7 (N:=["person","marks","people"]) (js:=[none,some 0,some 1]) (li:=none) rfl (A1 (by exact(.own (.cap rfl rfl rfl rfl (.cap rfl rfl rfl rfl .nil)))) rfl (by exact⟨rfl,⟨rfl,trivial⟩⟩) (by rfl)) (G8 (K1 g7 (a8 (a7 1) a9))) (fun _ _ _ _=>(c8 0 (show((["person","marks","people"]:List Str)++[accN]).Nodup by decide +kernel))) (fun _ _ _ _=>B6) (fun _ _ _ _=>(n9 a35 hr (a8 (V2 (j0 hr (a7 1) (a7 0)) (j0 hr (a7 1) (m7 (a7 0) (a7 2)))) (a8 b8 a9))))) a9)))))),?_⟩
 intro n m h1 h8 hm;have d2:dOk 2:=a4b (by decide) (by decide)
 have e2:((m.length:Nat):Int)/2=n:=by walk_at "o"
 have r1:(-(2^62:Int)<=n/\n<2^62):=by walk_at "o"
 have l1:=j5 m;have lr:lfL (((up n.toNat).map (shM n m)).map ratD)=true:=z8 fun x hx=>by obtain⟨q,_,rfl⟩:=zZ.mp hx;rfl
 repeat(first|walk_at "z r" | simp only[zC,d2,e2])
 rw[t8 (ρ1:=[some (.v (.lst (m.map .int))),some (.v (.int n))]) (xs:=rngD 0 n.toNat) (fun B=>∃o1:Option D,B=[o1.map .v,some (.v (.lst (m.map .int))),some (.v (.int n))]) (fun _=>true) (shH n m)]
 ·rw[a6G]
  repeat(first|walk_at "z r" | simp only[lr])
 ·repeat(first|walk_at "z r" | simp only[r1])
 ·rintro _ ⟨_,rfl⟩;rfl
 ·exact⟨none,rfl⟩
 ·rw[w9];unfold lim;walk_at "o"
 ·rw[a6G];exact lr
 ·rintro x hx _ zs ⟨o1,rfl⟩;obtain⟨i,rfl,hi⟩:=C5 hx;have a1:=a6z (m:=m) (v:=i) (by walk_at "o") (by walk_at "o")
  have a2:=a6z (m:=m) (v:=i+n) (by walk_at "o") (by walk_at "o")
  have er:=a4r (mkv m i.toNat-mkv m (i+n).toNat) 2 (by decide) (by decide)
  refine⟨[some (.v (.int i)),some (.v (.lst (m.map .int))),some (.v (.int n))],.v (ratD (shM n m i)),⟨some _,rfl⟩,?_,rfl,fun _=>⟨?_,.inl rfl⟩⟩
  ·walk_at "q"
  ·repeat(first|walk_at "z r" | simp only[a1,a2,er,b3O])
   rfl
def twice (a b:Int):List (List Int):=if a=b then[[a],[a]] else[pairK a b]
abbrev L3:Stmt:=top 24
theorem W3:FnScope ["one","other"] ["one","other"] (defScope L3):=by walk_at "c"
def Y7 (g:LO):Prop:=∀a b:Int,g [.int a,.int b]=some (.o (.lst ((twice a b).map tupI)))
theorem a2o (m_min:mg "min"=none)(m_max:mg "max"=none)(F:Fun K "party_twice" "party_twice" L3 f fd)(B:Binds K fd ["one","other"] [])(hm:mg "party_twice"=some (.ref f)):∃g,Fn P w K mg base "party_twice" (k+1) g/\Y7 g:=by
 have nd:=W3.nd;refine⟨_,A8 F W3 B hm rfl rfl (fun cdv A outer s H E hr=>(c7 (j6 (qx_if (a7v hr (a7 0) (a7 1)) (t6 (a8 (m6 (a8 (qx_b (O4 rfl) a2l m_min (a8 (a7 0) (a8 (a7 1) a9))) (a8 (qx_b (a1u rfl) a5H m_max (a8 (a7 0) (a8 (a7 1) a9))) a9))) a9)) (t6 (a8 (m6 (a8 (a7 0) a9)) (a8 (m6 (a8 (a7 0) a9)) a9))))))),?_⟩;intro a b;unfold twice
 by_cases h:a=b
 ·have z:(a==b)=true:=beq_iff_eq.mpr h;rw[if_pos h]
  repeat(first|walk_at "z r" | simp only[z])
  rfl
 ·have z:(a==b)=false:=beq_eq_false_iff_ne.mpr h;rw[if_neg h]
  repeat(first|walk_at "z r" | simp only[z])
  rfl
theorem J3 {a c:Int}(h:a<c):pairK a c=[a,c]/\pairK c a=[a,c]:=by
 unfold pairK;constructor
 ·rw[if_neg (by walk_at "o"),if_pos (by walk_at "o")]
 ·rw[if_pos h,if_neg (by walk_at "o")]
theorem a0c (a:Int):pairK a a=[a,a]:=by unfold pairK;rw[if_neg (by walk_at "o")]
theorem a1d {n:Int}{ts:List Tie}(hw:WebOk n ts)(a:Int):gainOf ts [a,a]=0:=by
 have key:∀ts:List Tie,(∀t∈ts,t.1<t.2.1)->gainOf ts [a,a]=0:=by
  intro ts
  induction ts with
  | nil=>intro _;rfl
  | cons t ts ih=>
   intro h;rw[gainOf,if_neg (fun e=>?_)]
   ·exact ih fun t ht=>h t (zI _ ht)
   ·have:=h t zJ
    injection e with e1 e2
    injection e2 with e2 _
    walk_at "o"
 exact key ts fun t ht=>(hw.t t ht).2.1
structure Up (n:Int) (ts:List Tie) (s:Tie):Prop where
 x:n<=s.1/\s.1<2*n
 y:0<=s.2.1/\s.2.1<n
 g:s.2.2=gainOf ts (pairK (s.1-n) s.2.1)
 par:∀k∈twice (s.1-n) s.2.1,k∈parK n ts
structure Dn (n:Int) (ts:List Tie) (mu:List Int) (s:Tie):Prop where
 x:0<=s.1/\s.1<n
 y:s.2.1=mat mu s.1+n
 g:s.2.2= -gainOf ts (pairK s.1 (mat mu s.1))
theorem K4 {n:Int}{ts:List Tie}{a:Int}(h:0<=a/\a<n):[a]∈parK n ts:=by
 rw[a2N];exact .inl ⟨a.toNat,by walk_at "o",by congr 1;walk_at "o"⟩
theorem up_of {n:Int}{ts:List Tie}(hw:WebOk n ts){k:List Int}(hk:k∈parK n ts):∀s∈upS n ts k,Up n ts s:=by
 have hp:=(A5 hw hk).1;have hn:=hw.n1;rcases a6e hw hk with ⟨a,rfl⟩|⟨a,c,rfl,ha,hac,hc,_⟩
 ·have ha:=hp a (by simp)
  intro s hs;have es:s=(a+n,a,gainOf ts [a]):=by
   rw[show upS n ts [a]=[(a+n,a,gainOf ts [a]),(a+n,a,gainOf ts [a])] from rfl] at hs;simpa using hs
  subst es;refine⟨⟨by show n<=a+n;walk_at "o",by show a+n<2*n;walk_at "o"⟩,ha,?_,fun k hk=>?_⟩
  ·show gainOf ts [a]=gainOf ts (pairK (a+n-n) a);rw[show a+n-n=a by walk_at "o",a0c,a1d hw,E3]
  ·rw[show(a+n,a,gainOf ts [a]).1-n=a by show a+n-n=a;walk_at "o",twice,if_pos rfl] at hk
   simp only[zX,jE,jX,or_self] at hk;rw[hk];exact K4 ha
 ·intro s hs;obtain⟨p1,p2⟩:=J3 hac;have es:s=(a+n,c,gainOf ts [a,c])\/s=(c+n,a,gainOf ts [a,c]):=by
   rw[show upS n ts [a,c]=[(a+n,c,gainOf ts [a,c]),(c+n,a,gainOf ts [a,c])] from rfl] at hs;simpa using hs
  rcases es with rfl|rfl
  ·refine⟨⟨by show n<=a+n;walk_at "o",by show a+n<2*n;walk_at "o"⟩,⟨by show 0<=c;walk_at "o",hc⟩,?_,fun k hk=>?_⟩
   ·show gainOf ts [a,c]=gainOf ts (pairK (a+n-n) c);rw[show a+n-n=a by walk_at "o",p1]
   ·have hk:k∈twice (a+n-n) c:=hk;rw[show a+n-n=a by walk_at "o",twice,if_neg (by walk_at "o"),p1] at hk
    rw[zN.mp hk];assumption
  ·refine⟨⟨by show n<=c+n;walk_at "o",by show c+n<2*n;walk_at "o"⟩,⟨ha,by show a<n;walk_at "o"⟩,?_,fun k hk=>?_⟩
   ·show gainOf ts [a,c]=gainOf ts (pairK (c+n-n) a);rw[show c+n-n=c by walk_at "o",p2]
   ·have hk:k∈twice (c+n-n) a:=hk;rw[show c+n-n=c by walk_at "o",twice,if_neg (by walk_at "o"),p2] at hk
    rw[zN.mp hk];assumption
structure MuOk (n:Int) (mu:List Int):Prop where
 len:mu.length=n.toNat
 rng:∀p,0<=p->p<n->0<=mat mu p/\mat mu p<n
theorem E4 {n:Int}{ts:List Tie}{mu:List Int}(hw:WebOk n ts){s:Tie}(hs:s∈stepsOf n ts mu):Up n ts s\/Dn n ts mu s:=by
 unfold stepsOf at hs;rcases qG.mp hs with z|z
 ·obtain⟨k,hk,hs⟩:=mem_flatMap.mp z;exact .inl (up_of hw ((m8 _).mem_iff.mp hk) s hs)
 ·obtain⟨p,hp,rfl⟩:=zZ.mp z
  have:=A6.mp hp
  exact .inr ⟨⟨this.1,by show p<n;walk_at "o"⟩,rfl,rfl⟩
theorem a44 {n:Int}{ts:List Tie}{mu:List Int}{N:Nat}(hw:WebOk n ts)(hm:MuOk n mu)(hN:2*n=(N:Int)):StOk N (stepsOf n ts mu):=by
 have hn:=hw.n1;have hG:∀k,0<=gainOf ts k/\gainOf ts k<=10^15:=fun k=>a25 hw.t k;refine⟨fun s hs=>?_,fun s hs=>?_,fun s hs=>?_,?_⟩
 ·rcases E4 hw hs with h|h
  ·have:=h.x;have:=h.y;walk_at "o"
  ·have:=h.x;have:=h.y;have:=hm.rng s.1 h.x.1 h.x.2;walk_at "o"
 ·rcases E4 hw hs with h|h
  ·have:=h.x;have:=h.y;walk_at "o"
  ·have:=h.x;have:=h.y;have:=hm.rng s.1 h.x.1 h.x.2;walk_at "o"
 ·rcases E4 hw hs with h|h
  ·rw[h.g];exact(hG _).2
  ·rw[h.g];have:=(hG (pairK s.1 (mat mu s.1))).1;walk_at "o"
 ·unfold stepsOf;rw[zM,K6,zC,v5,(m8 _).length_eq]
  have:=(O1 hw).1
  walk_at "o"
def worthK (ts:List Tie) (ks:List (List Int)):Int:=(ks.map (gainOf ts)).sum
theorem a72 (ts:List Tie)(a b:List (List Int)):worthK ts (a++b)=worthK ts a+worthK ts b:=by
 unfold worthK;rw[zL,sum_append]
theorem b0F {n:Int}{ts:List Tie}(hw:WebOk n ts)(a b:Int):worthK ts (twice a b)=gainOf ts (pairK a b):=by
 unfold twice worthK
 by_cases h:a=b
 ·subst h;rw[if_pos rfl,a0c,a1d hw];simp[E3]
 ·rw[if_neg h];simp
theorem a5L (a b:Int):(pairK a b).Perm [a,b]:=by
 unfold pairK
 by_cases h:b<a
 ·rw[if_pos h,if_neg (by walk_at "o")];exact List.Perm.swap _ _ _
 ·rw[if_neg h]
  by_cases h2:b>a
  ·rw[if_pos h2]
  ·rw[if_neg h2,show b=a by walk_at "o"]
theorem a57 (a b:Int):(twice a b).flatten.Perm [a,b]:=by
 unfold twice
 by_cases h:a=b
 ·subst h;rw[if_pos rfl];exact xP _
 ·rw[if_neg h];simpa using a5L a b
theorem a6r {ts:List Tie}{a b:List (List Int)}(h:a.Perm b):worthK ts a=worthK ts b:=by
 unfold worthK
 induction h with
 | nil=>rfl
 | cons x _ ih=>rw[zH,zH,jG,jG,ih]
 | swap x y l=>simp only[zH,jG];walk_at "o"
 | trans _ _ h1 h2=>rw[h1,h2]
def Gp (ts:List Tie) (a b:Int):Int:=gainOf ts (pairK a b)
theorem a2z (a b:Int):pairK a b=pairK b a:=by
 by_cases h:a<b
 ·rw[(J3 h).1,(J3 h).2]
 ·by_cases h2:b<a
  ·rw[(J3 h2).1,(J3 h2).2]
  ·rw[show a=b by walk_at "o"]
theorem b2m (ts:List Tie)(a b:Int):Gp ts a b=Gp ts b a:=by unfold Gp;rw[a2z]
theorem a6f (a b:Int):twice a b=twice b a:=by
 unfold twice
 by_cases h:a=b
 ·rw[h]
 ·rw[if_neg h,if_neg fun z=>h z.symm,a2z]
theorem U3 {a b:List Int}(h:a.Perm b):a.sum=b.sum:=by
 induction h with
 | nil=>rfl
 | cons x _ ih=>rw[jG,jG,ih]
 | swap x y l=>simp only[jG];walk_at "o"
 | trans _ _ h1 h2=>rw[h1,h2]
structure MuP (n:Int) (ts:List Tie) (mu:List Int):Prop where
 len:mu.length=n.toNat
 prm:mu.Perm (up n.toNat)
 par:∀p,0<=p->p<n->∀k∈twice p (mat mu p),k∈parK n ts
theorem a4u {n:Int}{mu:List Int}(h:mu.length=n.toNat):mu=(up n.toNat).map (mat mu):=by
 apply List.ext_getElem
 ·rw[zC,v5];exact h
 ·intro i h1 h2;rw[getElem_map];have hi:i<n.toNat:=by walk_at "o"
  have e:(up n.toNat)[i]'(by rw[v5];exact hi)=(i:Int):=by
   have:=a5X hi
   rw[zQ,qB (by rw[v5];exact hi)] at this
   exact this
  rw[e];unfold mat;rw[qQ,zQ,qB h1];rfl
theorem MuP.ok {n:Int}{ts:List Tie}{mu:List Int}(h:MuP n ts mu):MuOk n mu:=⟨h.len,fun p h0 h1=>by
 have hm:mat mu p∈mu:=by
  unfold mat;rw[zQ,qB (by rw[h.len];walk_at "o")]
  exact getElem_mem _
 have:=A6.mp (h.prm.mem_iff.mp hm)
 walk_at "o"⟩
def worthM (n:Int) (ts:List Tie) (mu:List Int):Int:=((up n.toNat).map fun p=>Gp ts p (mat mu p)).sum
theorem MuP.start {n:Int}{ts:List Tie}:MuP n ts (up n.toNat):=⟨v5 _,xP _,fun p h0 h1 k hk=>by
 have e:mat (up n.toNat) p=p:=by
  unfold mat;rw[a5X (by walk_at "o")];walk_at "o"
 rw[e,twice,if_pos rfl] at hk;simp only[zX,jE,jX,or_self] at hk
 rw[hk];exact K4 ⟨h0,h1⟩⟩
def updM (n:Int):List Tie->List Int->List Int
 | [],mu=>mu
 | s::R,mu=>updM n R (if n<=s.1 then mu.set s.2.1.toNat (s.1-n) else mu)
theorem a3L (n:Int)(s:Tie):∀(R:List Tie) (mu:List Int),updM n (R++[s]) mu=if n<=s.1 then(updM n R mu).set s.2.1.toNat (s.1-n) else updM n R mu
 | [],mu=>rfl
 | t::R,mu=>by rw[cons_append,updM,updM,a3L n s R]
theorem a2p (n:Int):∀(R:List Tie) (mu:List Int),(updM n R mu).length=mu.length
 | [],mu=>rfl
 | s::R,mu=>by
  rw[updM,a2p n R]
  split
  ·rw[qS]
  ·rfl
theorem a0I (n:Int){y:Int}(hy:0<=y):∀(R:List Tie) (mu:List Int),(∀s∈R,n<=s.1->0<=s.2.1/\s.2.1<mu.length/\s.2.1≠y)->mat (updM n R mu) y=mat mu y
 | [],mu,_=>rfl
 | s::R,mu,h=>by
  have hs:=h s zJ;rw[updM]
  by_cases z:n<=s.1
  ·rw[if_pos z,a0I n hy R _ fun t ht hz=>by rw[qS];exact h t (zI _ ht) hz]
   have:=hs z
   rw[a1Z this.1 this.2.1 hy,if_neg fun e=>this.2.2 e.symm]
  ·rw[if_neg z,a0I n hy R _ fun t ht=>h t (zI _ ht)]
theorem a6B (n:Int):∀(R:List Tie) (mu:List Int),(R.map fun s=>s.2.1).Nodup->(∀s∈R,n<=s.1->0<=s.2.1/\s.2.1<mu.length)->∀s∈R,n<=s.1->mat (updM n R mu) s.2.1=s.1-n
 | [],_,_,_,s,hs,_=>by cases hs
 | t::R,mu,nd,h,s,hs,hz=>by
  rw[zH,nodup_cons] at nd;rcases zX.mp hs with rfl|hs
  ·have hb:=h s zJ hz;rw[updM,if_pos hz,a0I n hb.1 R _ fun t ht hz'=>?_]
   ·rw[a1Z hb.1 hb.2 hb.1,if_pos rfl]
   ·have:=h t (zI _ ht) hz'
    rw[qS];exact⟨this.1,this.2,fun e=>nd.1 (zZ.mpr ⟨t,ht,e⟩)⟩
  ·rw[updM];refine a6B n R _ nd.2 (fun u hu hz'=>?_) s hs hz
   have:=h u (zI _ hu) hz'
   split
   ·rw[qS];exact this
   ·exact this
theorem a2I {n:Int}{ts:List Tie}{mu:List Int}{N:Nat}{R:List Tie}(hw:WebOk n ts)(hm:MuP n ts mu)(hN:2*n=(N:Int))(h:Ring (stepsOf n ts mu) N R):
  (∀s∈R,n<=s.1->Up n ts s)/\(∀s∈R,¬n<=s.1->Dn n ts mu s)/\((R.filter fun s=>!decide (n<=s.1)).map fun s=>s.1).Perm ((R.filter fun s=>decide (n<=s.1)).map fun s=>s.2.1)/\((R.filter fun s=>decide (n<=s.1)).map fun s=>s.1-n).Perm ((R.filter fun s=>!decide (n<=s.1)).map fun s=>mat mu s.1)/\(R.map fun s=>s.2.1).Nodup:=by
 have hn:=hw.n1;have ho:=hm.ok;have st:=a44 hw ho hN;have u1:∀s∈R,n<=s.1->Up n ts s:=fun s hs z=>by
  rcases E4 hw (h.mem s hs) with k|k
  ·exact k
  ·have:=k.x;walk_at "o"
 have d1:∀s∈R,¬n<=s.1->Dn n ts mu s:=fun s hs z=>by
  rcases E4 hw (h.mem s hs) with k|k
  ·have:=k.x;walk_at "o"
  ·exact k
 have e1:R.map ((fun v:Nat=>(v:Int))∘sS)=R.map fun s=>s.1:=jL fun s hs=>by
  show((s.1.toNat:Nat):Int)=s.1;exact yH (st.rng s (h.mem s hs)).1
 have e2:R.map ((fun v:Nat=>(v:Int))∘sE)=R.map fun s=>s.2.1:=jL fun s hs=>by
  show((s.2.1.toNat:Nat):Int)=s.2.1;exact yH (st.rng s (h.mem s hs)).2.2.1
 have pr:(R.map fun s=>s.1).Perm (R.map fun s=>s.2.1):=by
  have:=h.prm.map fun v:Nat=>(v:Int)
  rwa [qF,qF,e1,e2] at this
 have nd:(R.map fun s=>s.2.1).Nodup:=by
  rw[<-e2,<-qF];exact yF.mpr (h.nd.imp fun{a b} hab e=>hab (by have e:((a:Nat):Int)=((b:Nat):Int):=e;walk_at "o"))
 have lo:∀(q:Int->Bool),((R.filter fun s=>q s.1).map fun s=>s.1).Perm ((R.filter fun s=>q s.2.1).map fun s=>s.2.1):=fun q=>by
  have:=pr.filter q
  rw[filter_map,filter_map] at this;exact this
 have eU:(R.filter fun s=>!decide (n<=s.2.1))=R.filter fun s=>decide (n<=s.1):=List.filter_congr fun s hs=>by
  by_cases z:n<=s.1
  ·have:=(u1 s hs z).y
   simp[z];walk_at "o"
  ·have:=(d1 s hs z).y
   have:=ho.rng s.1 (d1 s hs z).x.1 (d1 s hs z).x.2
   simp[z];walk_at "o"
 have eD:(R.filter fun s=>decide (n<=s.2.1))=R.filter fun s=>!decide (n<=s.1):=List.filter_congr fun s hs=>by
  by_cases z:n<=s.1
  ·have:=(u1 s hs z).y
   simp[z];walk_at "o"
  ·have:=(d1 s hs z).y
   have:=ho.rng s.1 (d1 s hs z).x.1 (d1 s hs z).x.2
   simp[z];walk_at "o"
 have p1:=lo fun v=>!decide (n<=v);have p2:=lo fun v=>decide (n<=v);rw[eU] at p1;rw[eD] at p2;refine⟨u1,d1,p1,?_,nd⟩;have p3:=p2.map fun v:Int=>v-n;rw[qF,qF] at p3;have e3:(R.filter fun s=>!decide (n<=s.1)).map ((fun v:Int=>v-n)∘fun s=>s.2.1)=(R.filter fun s=>!decide (n<=s.1)).map fun s=>mat mu s.1:=jL fun s hs=>by
  obtain⟨a,b⟩:=qW.mp hs
  have:=(d1 s a (by simpa using b)).y
  show s.2.1-n=_;walk_at "o"
 rw[e3] at p3;exact p3
theorem a8j {R:List Tie}{n:Int}(f:Tie->Int):(R.map f).sum=((R.filter fun s=>decide (n<=s.1)).map f).sum+((R.filter fun s=>!decide (n<=s.1)).map f).sum:=by
 induction R with
 | nil=>rfl
 | cons s R ih=>
  rw[zH,jG,ih]
  by_cases z:n<=s.1
  ·rw[yK (by simpa using z),List.filter_cons_of_neg (by simpa using z),zH,jG];walk_at "o"
  ·rw[List.filter_cons_of_neg (by simpa using z),yK (by simpa using z),zH,jG];walk_at "o"
theorem a1i {B U:List Int}(hB:B.Nodup)(hU:U.Nodup)(hs:∀x∈B,x∈U):(B++U.filter fun x=>!decide (x∈B)).Perm U:=by
 rw[List.perm_ext_iff_of_nodup _ hU]
 ·intro x;rw[qG,qW];constructor
  ·rintro(z|z)
   ·exact hs x z
   ·exact z.1
  ·intro z
   by_cases hx:x∈B
   ·exact .inl hx
   ·exact .inr ⟨z,by simpa using hx⟩
 ·rw[jR];exact⟨hB,hU.filter _,fun x hx y hy e=>by subst e;have:=(qW.mp hy).2;simp[hx] at this⟩
theorem a56 {n:Int}{ts:List Tie}{mu:List Int}{N:Nat}{R:List Tie}(hw:WebOk n ts)(hm:MuP n ts mu)(hN:2*n=(N:Int))(h:Ring (stepsOf n ts mu) N R):MuP n ts (updM n R mu)/\worthM n ts mu<worthM n ts (updM n R mu):=by
 have hn:=hw.n1;have ho:=hm.ok;obtain⟨u1,d1,pa,pb,nd⟩:=a2I hw hm hN h;have hl:=hm.len;have rg:∀s∈R,n<=s.1->0<=s.2.1/\s.2.1<mu.length:=fun s hs z=>by have:=(u1 s hs z).y;walk_at "o"
 have at1:=a6B n R mu nd rg;generalize eU:(R.filter fun s=>decide (n<=s.1))=U at pa pb;generalize eD:(R.filter fun s=>!decide (n<=s.1))=Dd at pa pb;have mU:∀s∈U,s∈R/\n<=s.1:=fun s hs=>by rw[<-eU] at hs;obtain⟨a,b⟩:=qW.mp hs;exact⟨a,by simpa using b⟩
 have mD:∀s∈Dd,s∈R/\¬n<=s.1:=fun s hs=>by rw[<-eD] at hs;obtain⟨a,b⟩:=qW.mp hs;exact⟨a,by simpa using b⟩
 obtain⟨Y,eY⟩:∃Y,U.map (fun s=>s.2.1)=Y:=⟨_,rfl⟩;have ndY:Y.Nodup:=by
  rw[<-eY,<-eU];exact(List.Sublist.map _ List.filter_sublist).nodup nd
 have inY:∀y∈Y,y∈up n.toNat:=fun y hy=>by
  rw[<-eY] at hy;obtain⟨s,hs,rfl⟩:=zZ.mp hy
  have:=(u1 s (mU s hs).1 (mU s hs).2).y
  exact A6.mpr ⟨this.1,by walk_at "o"⟩
 have fp:=a1i ndY (T4 n.toNat) inY;generalize eZ:((up n.toNat).filter fun x=>!decide (x∈Y))=Z at fp;have farZ:∀z∈Z,mat (updM n R mu) z=mat mu z:=fun z hz=>by
  rw[<-eZ] at hz;obtain⟨z1,z2⟩:=qW.mp hz;have z1:=A6.mp z1;refine a0I n z1.1 R mu fun s hs hz'=>?_
  have:=rg s hs hz'
  refine⟨this.1,this.2,fun e=>?_⟩
  have:z∈Y:=by
   rw[<-eY,<-e];exact zZ.mpr ⟨s,by rw[<-eU];exact qW.mpr ⟨hs,by simpa using hz'⟩,rfl⟩
  simp[this] at z2
 have newY:Y.map (mat (updM n R mu))=U.map fun s=>s.1-n:=by
  rw[<-eY,qF];exact jL fun s hs=>at1 s (mU s hs).1 (mU s hs).2
 rw[eY] at pa;have oldY:(Y.map (mat mu)).Perm (U.map fun s=>s.1-n):=by
  have:=pa.map (mat mu)
  rw[qF] at this;exact this.symm.trans pb.symm
 have lenU:(updM n R mu).length=n.toNat:=by rw[a2p];exact hl
 have prm:(updM n R mu).Perm (up n.toNat):=by
  rw[a4u lenU];refine((fp.map (mat (updM n R mu))).symm).trans ?_;rw[zL,newY,jL farZ];refine(List.Perm.append_right _ oldY.symm).trans ?_;rw[<-zL];refine(fp.map (mat mu)).trans ?_;rw[<-a4u hl];exact hm.prm
 refine⟨⟨lenU,prm,fun p h0 h1 k hk=>?_⟩,?_⟩
 ·by_cases hp:p∈Y
  ·rw[<-eY] at hp;obtain⟨s,hs,rfl⟩:=zZ.mp hp;rw[at1 s (mU s hs).1 (mU s hs).2,a6f] at hk;exact(u1 s (mU s hs).1 (mU s hs).2).par k hk
  ·have hz:p∈Z:=by rw[<-eZ];exact qW.mpr ⟨A6.mpr ⟨h0,by walk_at "o"⟩,by simpa using hp⟩
   rw[farZ p hz] at hk;exact hm.par p h0 h1 k hk
 ·unfold worthM;rw[<-U3 (fp.map fun p=>Gp ts p (mat mu p)),<-U3 (fp.map fun p=>Gp ts p (mat (updM n R mu) p)),zL,zL,sum_append,sum_append];have eZ2:Z.map (fun p=>Gp ts p (mat (updM n R mu) p))=Z.map fun p=>Gp ts p (mat mu p):=jL fun z hz=>by rw[farZ z hz]
  rw[eZ2];have eN:(Y.map fun p=>Gp ts p (mat (updM n R mu) p))=U.map fun s=>s.2.2:=by
   rw[<-eY,qF];refine jL fun s hs=>?_;show Gp ts s.2.1 (mat (updM n R mu) s.2.1)=_;rw[at1 s (mU s hs).1 (mU s hs).2,b2m];exact(u1 s (mU s hs).1 (mU s hs).2).g.symm
  have eO:(Y.map fun p=>Gp ts p (mat mu p)).sum= -(Dd.map fun s=>s.2.2).sum:=by
   have h1:=U3 (pa.map fun p=>Gp ts p (mat mu p));rw[qF] at h1;rw[<-h1];have key:∀L:List Tie,(∀s∈L,Dn n ts mu s)->(L.map ((fun p=>Gp ts p (mat mu p))∘fun s=>s.1)).sum= -(L.map fun s=>s.2.2).sum:=by
    intro L
    induction L with
    | nil=>intro _;rfl
    | cons s L ih=>
     intro hL;have g:=(hL s zJ).g;rw[zH,jG,ih fun t ht=>hL t (zI _ ht),zH,jG,g];show Gp ts s.1 (mat mu s.1)+_=_;unfold Gp;walk_at "o"
   exact key Dd fun s hs=>d1 s (mD s hs).1 (mD s hs).2
  have sp:=a8j (R:=R) (n:=n) fun s=>s.2.2;rw[eU,eD] at sp;have pos:=h.pos;rw[eN,eO];walk_at "o"
def xM (n:Int) (m:List Int) (p:Int):Int:=mkv m p.toNat-mkv m (p+n).toNat
def dblK (n:Int) (mu:List Int):List (List Int):=(up n.toNat).flatMap fun p=>twice p (mat mu p)
structure CovOk (n:Int) (ts:List Tie) (xs:List Int) (os:List (List Int)):Prop where
 len:xs.length=n.toNat
 rng:∀x∈xs,0<=x/\x<=10^19
 all:∀a c,[a,c]∈parK n ts->2*gainOf ts [a,c]<=xs.getD a.toNat 0+xs.getD c.toNat 0
 o:∀k∈os,k∈parK n ts
 so:sortK os=os
 held:os.flatten.Perm (up n.toNat++up n.toNat)
 lo:os.length<=16
 sum:xs.sum=worthK ts os
theorem a5u (mu:List Int):∀l:List Int,(l.flatMap fun p=>twice p (mat mu p)).flatten.Perm (l++l.map (mat mu))
 | []=>xP _
 | p::l=>by
  rw[xU,qY,zH];refine((a57 _ _).append (a5u mu l)).trans ?_;show(p::mat mu p::(l++l.map (mat mu))).Perm (p::(l++(mat mu p::l.map (mat mu))));exact List.Perm.cons _ List.perm_middle.symm
theorem a3T {n:Int}{ts:List Tie}(hw:WebOk n ts)(mu:List Int):∀l:List Int,worthK ts (l.flatMap fun p=>twice p (mat mu p))=(l.map fun p=>Gp ts p (mat mu p)).sum
 | []=>rfl
 | p::l=>by
  rw[xU,a72,a3T hw mu l,b0F hw,zH,jG];rfl
theorem a4L (mu:List Int):∀l:List Int,(l.flatMap fun p=>twice p (mat mu p)).length<=2*l.length
 | []=>zE _
 | p::l=>by
  have ih:=a4L mu l
  have:(twice p (mat mu p)).length<=2:=by
   unfold twice
   split
   ·exact zE 2
   ·exact Nat.le_succ 1
  rw[xU,zM,qJ];walk_at "o"
theorem Z5 {f g:Int->Int}:∀{l:List Int},(∀x∈l,f x<=g x)->(l.map f).sum<=(l.map g).sum
 | [],_=>Int.le_refl _
 | x::l,h=>by
  have h1:=h x zJ;have h2:=Z5 (f:=f) (g:=g) (l:=l) fun y hy=>h y (zI _ hy);rw[zH,zH,jG,jG];walk_at "o"
theorem a4q {f g:Int->Int}:∀l:List Int,(l.map fun x=>f x-g x).sum=(l.map f).sum-(l.map g).sum
 | []=>rfl
 | x::l=>by rw[zH,jG,a4q l,zH,zH,jG,jG];walk_at "o"
theorem a7u {f g:Int->Int}:∀l:List Int,(l.map fun x=>f x+g x).sum=(l.map f).sum+(l.map g).sum
 | []=>rfl
 | x::l=>by rw[zH,jG,a7u l,zH,zH,jG,jG];walk_at "o"
theorem a7t {f:Int->Int}:∀l:List Int,(l.map fun x=>2*f x).sum=2*(l.map f).sum
 | []=>rfl
 | x::l=>by rw[zH,jG,a7t l,zH,jG];walk_at "o"
theorem a5V {n:Int}{ts:List Tie}{mu m:List Int}{N:Nat}(hw:WebOk n ts)(hm:MuP n ts mu)(hN:2*n=(N:Int))(hc:Calm (stepsOf n ts mu) N m):CovOk n ts ((up n.toNat).map (xM n m)) (sortK (dblK n mu)):=by
 have hn:=hw.n1;have get:∀a,0<=a->a<n->((up n.toNat).map (xM n m)).getD a.toNat 0=xM n m a:=fun a h0 h1=>by
  have e:(up n.toNat)[a.toNat]? =some a:=by
   unfold up;rw[zV,jU (by walk_at "o")]
   simp only[jF,Option.some.injEq];walk_at "o"
  rw[zQ,zV,e];rfl
 have upm:∀k∈parK n ts,∀s∈upS n ts k,Kept m s:=fun k hk s hs=>hc.kept s (xC _ (mem_flatMap.mpr ⟨k,(m8 _).mem_iff.mpr hk,hs⟩));have dnm:∀p,0<=p->p<n->Kept m (dnS n ts mu p):=fun p h0 h1=>hc.kept _ (qA _ (zZ.mpr ⟨p,A6.mpr ⟨h0,by walk_at "o"⟩,rfl⟩))
 have nn:∀a,0<=a->a<n->0<=xM n m a:=fun a h0 h1=>by
  have z:=upm [a] (K4 ⟨h0,h1⟩) (a+n,a,gainOf ts [a]) (by rw[show upS n ts [a]=[(a+n,a,gainOf ts [a]),(a+n,a,gainOf ts [a])] from rfl];simp)
  have z:mkv m (a+n).toNat+gainOf ts [a]<=mkv m a.toNat:=z;rw[E3] at z;unfold xM;walk_at "o"
 have two:∀a c,[a,c]∈parK n ts->0<=a/\a<c/\c<n/\2*gainOf ts [a,c]<=xM n m a+xM n m c:=fun a c hk=>by
  rcases a6e hw hk with ⟨x,e⟩|⟨x,y,e,h1,h2,h3,_⟩
  ·cases e
  ·cases e;have z1:=upm [a,c] hk (a+n,c,gainOf ts [a,c]) (by rw[show upS n ts [a,c]=[(a+n,c,gainOf ts [a,c]),(c+n,a,gainOf ts [a,c])] from rfl];simp)
   have z2:=upm [a,c] hk (c+n,a,gainOf ts [a,c]) (by rw[show upS n ts [a,c]=[(a+n,c,gainOf ts [a,c]),(c+n,a,gainOf ts [a,c])] from rfl];simp)
   have z1:mkv m (a+n).toNat+gainOf ts [a,c]<=mkv m c.toNat:=z1;have z2:mkv m (c+n).toNat+gainOf ts [a,c]<=mkv m a.toNat:=z2;refine⟨h1,h2,h3,?_⟩;unfold xM;walk_at "o"
 have po:=m8 (dblK n mu);have ml:=a4u hm.len;have mp:((up n.toNat).map (mat mu)).Perm (up n.toNat):=by rw[<-ml];exact hm.prm
 refine⟨by rw[zC,v5],fun x hx=>?_,fun a c hk=>?_,fun k hk=>?_,a2F _,?_,?_,?_⟩
 ·obtain⟨p,hp,rfl⟩:=zZ.mp hx
  have:=A6.mp hp
  have b1:=hc.mb p.toNat;have b2:=hc.m0 (p+n).toNat;have b3:=nn p this.1 (by walk_at "o")
  refine⟨b3,?_⟩;unfold xM;walk_at "o"
 ·obtain⟨h1,h2,h3,z⟩:=two a c hk;rw[get a h1 (by walk_at "o"),get c (by walk_at "o") h3]
  exact z
 ·obtain⟨p,hp,hk⟩:=mem_flatMap.mp (po.mem_iff.mp hk)
  have:=A6.mp hp
  exact hm.par p this.1 (by walk_at "o") k hk
 ·exact(po.flatten).trans ((a5u mu _).trans (List.Perm.append_left _ mp))
 ·rw[po.length_eq]
  have:=a4L mu (up n.toNat)
  rw[v5] at this;unfold dblK;walk_at "o"
 ·rw[a6r po,show worthK ts (dblK n mu)=((up n.toNat).map fun p=>Gp ts p (mat mu p)).sum from a3T hw mu _];have eX:((up n.toNat).map (xM n m)).sum=((up n.toNat).map fun p=>mkv m p.toNat).sum-((up n.toNat).map fun p=>mkv m (p+n).toNat).sum:=a4q _;have lo:((up n.toNat).map (xM n m)).sum<=((up n.toNat).map fun p=>Gp ts p (mat mu p)).sum:=by
   have h1:=U3 (mp.map fun q=>mkv m (q+n).toNat);rw[qF] at h1;have h2:((up n.toNat).map fun p=>mkv m p.toNat-mkv m (mat mu p+n).toNat).sum<=((up n.toNat).map fun p=>Gp ts p (mat mu p)).sum:=Z5 fun p hp=>by
    have:=A6.mp hp
    have z:mkv m p.toNat + -gainOf ts (pairK p (mat mu p))<=mkv m (mat mu p+n).toNat:=dnm p this.1 (by walk_at "o")
    show mkv m p.toNat-mkv m (mat mu p+n).toNat<=gainOf ts (pairK p (mat mu p));walk_at "o"
   rw[a4q] at h2;have h1:((up n.toNat).map fun p=>mkv m (mat mu p+n).toNat).sum=((up n.toNat).map fun p=>mkv m (p+n).toNat).sum:=h1;walk_at "o"
  have hi:2*((up n.toNat).map fun p=>Gp ts p (mat mu p)).sum<=2*((up n.toNat).map (xM n m)).sum:=by
   rw[<-a7t];have h1:=U3 (mp.map (xM n m));rw[qF] at h1;have h1:((up n.toNat).map fun p=>xM n m (mat mu p)).sum=((up n.toNat).map (xM n m)).sum:=h1;have h2:((up n.toNat).map fun p=>2*Gp ts p (mat mu p)).sum<=((up n.toNat).map fun p=>xM n m p+xM n m (mat mu p)).sum:=Z5 fun p hp=>by
    have hp':=A6.mp hp;have hpar:=hm.par p hp'.1 (by walk_at "o")
    have hr:=hm.ok.rng p hp'.1 (by walk_at "o")
    show 2*gainOf ts (pairK p (mat mu p))<=_
    by_cases e:p=mat mu p
    ·rw[<-e,a0c,a1d hw]
     have:=nn p hp'.1 (by walk_at "o")
     walk_at "o"
    ·have hk:pairK p (mat mu p)∈parK n ts:=hpar _ (by unfold twice;rw[if_neg e];exact List.mem_singleton_self _)
     by_cases lt:p<mat mu p
     ·rw[(J3 lt).1] at hk ⊢;exact(two _ _ hk).2.2.2
     ·have lt:mat mu p<p:=by walk_at "o"
      rw[(J3 lt).2] at hk ⊢
      have:=(two _ _ hk).2.2.2
      walk_at "o"
   rw[a7u,h1] at h2;walk_at "o"
  walk_at "o"
theorem a70 {n:Int}{ts:List Tie}(hw:WebOk n ts)(mu:List Int):worthM n ts mu<=8*10^15:=by
 have hn:=hw.n1;have key:∀l:List Int,(l.map fun p=>Gp ts p (mat mu p)).sum<=(l.length:Int)*10^15:=by
  intro l
  induction l with
  | nil=>simp
  | cons p l ih=>
   have:=(a25 hw.t (pairK p (mat mu p))).2
   rw[zH,jG,qJ];show gainOf ts (pairK p (mat mu p))+_<=_;walk_at "o"
 have:=key (up n.toNat)
 rw[v5] at this;unfold worthM;walk_at "o"
theorem a2V {k:Nat}{gf gf2:FG}{fi2:FI}{fe:FX}(I:Ev->Prop)(ys:D->List D)(h:D->D)(hI:∀B,I B->B.length=k):∀(xs:List D),(∀x∈xs,∀B zs,I B->∃Bm B',I B'/\gf x (B++acc zs)=some (Bm++acc zs)/\fi2 (Bm++acc zs)=some (ys x,B'++acc zs))->
  (∀x∈xs,∀y∈ys x,∀B zs,I B->∃B' w,I B'/\gf2 y (B++acc zs)=some (B'++acc zs)/\fe (B'++acc zs)=some (w,B'++acc zs)/\(w= .v (h y)\/w= .o (h y)))->
  ∀(B:Ev) (zs:List D),zs.length+(xs.flatMap ys).length<=lim->I B->∃B',I B'/\loopC (turnC2 k gf fi2 gf2 fe) xs (B++acc zs)=some (B'++acc (zs++(xs.flatMap ys).map h))
 | [],_,_,B,zs,hl,i=>⟨B,i,by simp[loopC]⟩
 | x::xs,s1,s2,B,zs,hl,i=>by
  obtain⟨Bm,B1,i1,e1,e2⟩:=s1 x zJ B zs i;rw[xU,zM] at hl
  obtain⟨B2,i2,e3⟩:=X6 (gf:=gf2) (t:=fun ρ=>some (true,ρ)) (fe:=fe) I (fun _=>true) h hI (ys x) (fun y hy B zs i=>by
   obtain⟨B',w,a,b,c,d⟩:=s2 x zJ y hy B zs i
   exact⟨B',w,a,b,rfl,fun _=>⟨c,d⟩⟩) B1 zs (by walk_at "o") i1
  rw[q8] at e3;obtain⟨B3,i3,e4⟩:=a2V I ys h hI xs (fun y hy=>s1 y (zI _ hy)) (fun y hy=>s2 y (zI _ hy)) B2 (zs++(ys x).map h) (by rw[zM,zC];walk_at "o") i2
  refine⟨B3,i3,?_⟩;rw[loopC,turnC2,e1];simp only[bind_some,e2,e3];rw[e4,xU,zL,jQ]
theorem a22 {fi:FI}{js:List (Option Nat)}{gf gf2:FG}{fi2:FI}{fe:FX}{ρ ρ1:Ev}{xs:List D}(I:Ev->Prop)(ys:D->List D)(h:D->D)(ei:fi ρ=some (xs,ρ1))(hI:∀B,I B->B.length=js.length)(h0:I (capE none js ρ1))(hl:(xs.flatMap ys).length<=lim)(hf:lfL ((xs.flatMap ys).map h)=true)
  (s1:∀x∈xs,∀B zs,I B->∃Bm B',I B'/\gf x (B++acc zs)=some (Bm++acc zs)/\fi2 (Bm++acc zs)=some (ys x,B'++acc zs))
  (s2:∀x∈xs,∀y∈ys x,∀B zs,I B->∃B' w,I B'/\gf2 y (B++acc zs)=some (B'++acc zs)/\fe (B'++acc zs)=some (w,B'++acc zs)/\(w= .v (h y)\/w= .o (h y))):
  fComp2 fi js gf fi2 gf2 fe ρ=some (.o (.lst ((xs.flatMap ys).map h)),ρ1):=by
 obtain⟨B',i',e⟩:=a2V I ys h hI xs s1 s2 (capE none js ρ1) [] (by rw[xY];walk_at "o") h0
 unfold fComp2;rw[ei];simp only[bind_some];rw[show capE none js ρ1++[some (.l (.lst []))]=capE none js ρ1++acc [] from rfl,e];simp only[bind_some,nil_append,a51 (hI B' i'),backG,lfC,hf,jC]
theorem V1 {ks:List (List Int)}{x:D}(h:x∈ks.map tupI):∃k∈ks,x=tupI k:=by obtain⟨k,hk,rfl⟩:=zZ.mp h;exact⟨k,hk,rfl⟩
def ysM:D->List D
 | .tup [.int a,.int b]=>(twice a b).map tupI
 | _=>[]
theorem b2n {n:Int}{mu:List Int}(h:mu.length=n.toNat):enumD (mu.map D.int)=(up n.toNat).map fun p=>D.tup [.int p,.int (mat mu p)]:=by
 unfold enumD;apply List.ext_getElem
 ·rw[length_mapIdx,zC,zC,v5];exact h
 ·intro i h1 h2;have hi:i<mu.length:=by rw[length_mapIdx,zC] at h1;exact h1
  rw[List.getElem_mapIdx,getElem_map,getElem_map];have e:(up n.toNat)[i]'(by rw[v5];walk_at "o")=(i:Int):=by
   have:=a5X (show i<n.toNat by walk_at "o")
   rw[zQ,qB (by rw[v5];walk_at "o")] at this
   exact this
  rw[e];unfold mat;rw[qQ,zQ,qB hi];rfl
theorem a7k (mu:List Int):∀l:List Int,((l.map fun p=>D.tup [.int p,.int (mat mu p)]).flatMap ysM).map id=(l.flatMap fun p=>twice p (mat mu p)).map tupI
 | []=>rfl
 | p::l=>by
  have ih:=a7k mu l;rw[zH,xU,zL,ih,xU,zL,map_id];rfl
abbrev R7:Stmt:=top 25
theorem a0X:FnScope ["mates"] ["mates"] (defScope R7):=by walk_at "c"
def a1A (g:LO):Prop:=∀(n:Int) (mu:List Int),n<=8->mu.length=n.toNat->g [.lst (mu.map .int)]=some (.v (.tup ((sortK (dblK n mu)).map tupI)))
theorem a4f {N1:LO}(M8:Fn P w K mg base "party_twice" k N1)(M6:Y7 N1)(m9:mg "tuple"=none)(k8:mg "sorted"=none)(C8:mg "enumerate"=none)(F:Fun K "double_of" "double_of" R7 f fd)(B:Binds K fd ["mates"] [])(hm:mg "double_of"=some (.ref f)):∃g,Fn P w K mg base "double_of" (k+1) g/\a1A g:=by
 have nd:=a0X.nd;refine⟨_,A8 F a0X B hm rfl rfl (fun cdv A outer s H E hr=>(c7 (j6 (qx_t C3 U5 m9 (a8 (D2 hr rfl k8 (a8 (a5j (N:=["person","mate","party"]) (js:=[none,none,none]) rfl (A1 (by exact(.own (.own (.own .nil)))) rfl (by exact trivial) (by rfl)) (G8 (a7w C8 (a8 (a7 0) a9))) (fun _ _ _ _=>(D1 rfl (j4 (c8 0 (show((["person","mate","party"]:List Str)++[accN]).Nodup by decide +kernel)) (j4 (c8 1 (show((["person","mate","party"]:List Str)++[accN]).Nodup by decide +kernel)) B7)))) (fun _ _ _ _=>(J5 (n9 M8 hr (a8 (a7 0) (a8 (a7 1) a9))))) (fun _ _ _ _=>(c8 2 (show((["person","mate","party"]:List Str)++[accN]).Nodup by decide +kernel))) (fun _ _ _ _=>(a7 2))) a9)) a9))))),?_⟩
 intro n mu h8 hl;have ef:((enumD (mu.map D.int)).flatMap ysM).map id=(dblK n mu).map tupI:=by rw[b2n hl];exact a7k mu _
 have dl:(dblK n mu).length<=16:=by
  have:=a4L mu (up n.toNat)
  rw[v5] at this;unfold dblK;walk_at "o"
 have ne:∀k∈dblK n mu,k≠[]:=fun k hk=>by
  obtain⟨p,_,hk⟩:=mem_flatMap.mp hk;unfold twice at hk;split at hk
  ·simp only[zX,jE,jX,or_self] at hk;rw[hk];exact List.cons_ne_nil _ _
  ·rw[zN.mp hk];exact List.cons_ne_nil _ _
 have so:=E6 (ks:=dblK n mu) (by walk_at "o") ne
 have ls:=F4 (sortK (dblK n mu));have ld:=F4 (dblK n mu);walk_at "q";rw[a22 (ρ1:=[some (.v (.lst (mu.map .int)))]) (xs:=enumD (mu.map .int)) (fun B=>∃o1 o2 o3:Option D,B=[o1.map .v,o2.map .v,o3.map .v]) ysM id]
 ·rw[ef]
  repeat(first|walk_at "z r" | simp only[so,ls])
 ·walk_at "q"
 ·rintro _ ⟨_,_,_,rfl⟩;rfl
 ·exact⟨none,none,none,rfl⟩
 ·have:=yQ List.length ef
  rw[zC,zC] at this;rw[this];unfold lim;walk_at "o"
 ·rw[ef];exact ld
 ·rintro x hx _ zs ⟨o1,o2,o3,rfl⟩;obtain⟨i,hi,rfl⟩:=a46 hx;rw[getElem_map];have et:=M6 (i:Int) (mu[i]'(by rw[zC] at hi;exact hi))
  have lt:=F4 (twice (i:Int) (mu[i]'(by rw[zC] at hi;exact hi)))
  refine⟨[some (.v (.int i)),some (.v (.int (mu[i]'(by rw[zC] at hi;exact hi)))),o3.map .v],[some (.v (.int i)),some (.v (.int (mu[i]'(by rw[zC] at hi;exact hi)))),o3.map .v],⟨some _,some _,o3,rfl⟩,?_,?_⟩
  ·walk_at "q"
  ·repeat(first|walk_at "z r" | simp only[et,lt,ysM])
 ·rintro x hx y hy _ zs ⟨o1,o2,o3,rfl⟩;obtain⟨i,hi,rfl⟩:=a46 hx;rw[getElem_map] at hy;obtain⟨k,_,rfl⟩:=V1 (show y∈(twice _ _).map tupI from hy);refine⟨[o1.map .v,o2.map .v,some (.v (tupI k))],.v (tupI k),⟨o1,o2,some _,rfl⟩,?_,?_,.inl rfl⟩
  ·walk_at "q"
  ·walk_at "q"
def muW (n:Int) (ts:List Tie):List (Option W)->Nat:=fun ρ=>match ρ[2]? with
 | some (some (W.o (D.lst xs)))=>(8*10^15-worthM n ts ((intsOf xs).getD [])).toNat
 | _=>0
theorem a9M (n:Int)(ts:List Tie)(mu:List Int)(a b c d e f g:Option W):muW n ts [a,b,some (.o (.lst (mu.map .int))),c,d,e,f,g]=(8*10^15-worthM n ts mu).toNat:=by
 show(8*10^15-worthM n ts ((intsOf (mu.map D.int)).getD [])).toNat=_;rw[m5];rfl
abbrev a4o:Stmt:=top 19
theorem a4S:FnScope ["web","people","mates","marks","ring","start","end","more"] ["web"] (defScope a4o):=by walk_at "c"
def a7c (g:LO):Prop:=∀(n:Int) (ts:List Tie),WebOk n ts->∃(xs:List Int) (os:List (List Int)),CovOk n ts xs os/\g [webD n ts]=some (.v (.tup [.tup ((xs.map fun x=>Rat.divInt x 2).map ratD),.tup (os.map tupI)]))
theorem b0W {X0:LO}{P8:LO}{U6:LO}{W1:LO}(X5:Fn P w K mg base "settled" k X0)(a09:a3M X0)(P6:Fn P w K mg base "steps_of" k P8)(a0j:a11 P8)(T9:Fn P w K mg base "shares_by" k U6)(W0:a1M U6)(S8:Fn P w K mg base "double_of" k W1)(U9:a1A W1)(v4:mg "list"=none)(g7:mg "range"=none)(F:Fun K "cover" "cover" a4o f fd)(B:Binds K fd ["web"] [])(hm:mg "cover"=some (.ref f)):∃g,Fn P w K mg base "cover" (k+1) g/\a7c g:=by
 have nd:=a4S.nd
 refine⟨_,A8 F a4S B hm rfl rfl (fun cdv A outer s H E hr=>(b9 (g9 1 nd (j0 hr (a7 0) b8))
  (b9 (g9 2 nd (a2f rfl v4 g7 (a8 (a7 1) a9)))
  (b9 (E7 (n9 X5 hr (a8 (n9 P6 hr (a8 (a7 0) (a8 (a7 2) a9))) (a8 (a7 1) a9))) (D1 rfl (j4 (c8 3 nd) (j4 (c8 4 nd) B7))))
  (b9 (a12 zU (S3 (a7 4)) (b9 (A7 zU rfl (J5 (a7 4)) (D1 rfl (j4 (c8 5 nd) (j4 (c8 6 nd) (j4 (c8 7 nd) B7)))) (c7 (w8 (b3E (a7 5) (a7 1)) (c7 (E7 (V2 (a7 5) (a7 1)) (U7 (a7 2) (a7 6)))) t3)))
  (c7 (E7 (n9 X5 hr (a8 (n9 P6 hr (a8 (a7 0) (a8 (a7 2) a9))) (a8 (a7 1) a9))) (D1 rfl (j4 (c8 3 nd) (j4 (c8 4 nd) B7)))))))
  (c7 (j6 (m6 (a8 (n9 T9 hr (a8 (a7 3) a9)) (a8 (n9 S8 hr (a8 (a7 2) a9)) a9)))))))))),?_⟩
 intro n ts hw;have hn:=hw.n1;obtain⟨N,hN⟩:∃N:Nat,2*n=(N:Int):=⟨(2*n).toNat,by walk_at "o"⟩
 have ew:webD n ts= .tup [.int n,.tup (ts.map tieD)]:=rfl;have r1:(0<=n/\n<=1000):=by walk_at "o"
 have ru:rngD 0 n.toNat=(up n.toNat).map .int:=a9I _;have lu:lfL ((up n.toNat).map D.int)=true:=j5 _;have st:∀mu,MuP n ts mu->∃a b:D,X0 [.lst ((stepsOf n ts mu).map tieD),.int n]=some (.v (.tup [a,b]))/\((∃m,Calm (stepsOf n ts mu) N m/\a= .lst (m.map .int)/\b= .lst [])\/∃R,Ring (stepsOf n ts mu) N R/\a= .non/\b= .lst (R.map tieD)):=fun mu hm=>by
  rcases a09 n N (stepsOf n ts mu) hn.1 hn.2 hN (a44 hw hm.ok hN) with ⟨m,hc,e⟩|⟨R,hr,e⟩
  ·exact⟨_,_,e,.inl ⟨m,hc,rfl,rfl⟩⟩
  ·exact⟨_,_,e,.inr ⟨R,hr,rfl,rfl⟩⟩
 have ss:∀mu:List Int,MuP n ts mu->P8 [.tup [.int n,.tup (ts.map tieD)],.lst (mu.map .int)]=some (.o (.lst ((stepsOf n ts mu).map tieD))):=fun mu hm=>a0j n ts mu hw hm.len;have ls:∀mu:List Int,lfL ((stepsOf n ts mu).map tieD)=true:=fun mu=>X1 _;obtain⟨a0,b0,e0,h0⟩:=st (up n.toNat) MuP.start;have s0:=ss (up n.toNat) MuP.start;have ls0:=ls (up n.toNat);rw[ew]
 repeat(first|walk_at "z i" | simp only[r1,ru,lu,jC,and_self,s0,ls0,e0])
 generalize ew:whileV _ _ _=r;refine a2a ew (fun ρ=>∃(mu:List Int) (a b:D) (o5 o6 o7:Option D),ρ=[some (.v (.tup [.int n,.tup (ts.map tieD)])),some (.v (.int n)),some (.o (.lst (mu.map .int))),some (.v a),some (.v b),o5.map .v,o6.map .v,o7.map .v]/\MuP n ts mu/\((∃m,Calm (stepsOf n ts mu) N m/\a= .lst (m.map .int)/\b= .lst [])\/∃R,Ring (stepsOf n ts mu) N R/\a= .non/\b= .lst (R.map tieD))) (fun ρ=>∃(mu m:List Int) (o5 o6 o7:Option D),ρ=[some (.v (.tup [.int n,.tup (ts.map tieD)])),some (.v (.int n)),some (.o (.lst (mu.map .int))),some (.v (.lst (m.map .int))),some (.v (.lst [])),o5.map .v,o6.map .v,o7.map .v]/\MuP n ts mu/\Calm (stepsOf n ts mu) N m) (muW n ts) ⟨up n.toNat,a0,b0,none,none,none,rfl,MuP.start,h0⟩ ?_ ?_
 ·rintro _ ⟨mu,a,b,o5,o6,o7,rfl,hm,⟨m,hc,rfl,rfl⟩|⟨R,hr,rfl,rfl⟩⟩
  ·refine .inl ⟨_,?_,mu,m,o5,o6,o7,rfl,hm,hc⟩
   repeat(first|walk_at "z r" | simp only[isEmpty_nil,Bool.not_true])
  ·refine .inr ⟨[some (.v (.tup [.int n,.tup (ts.map tieD)])),some (.v (.int n)),some (.o (.lst (mu.map .int))),some (.v .non),some (.v (.lst (R.map tieD))),o5.map .v,o6.map .v,o7.map .v],?_⟩;have ne:(R.map tieD).isEmpty=false:=by
    have:=hr.ne
    cases R with
    | nil=>simp at this
    | cons s R=>rfl
   obtain⟨hm',hwo⟩:=a56 hw hm hN hr;obtain⟨u1,_,_,_,_⟩:=a2I hw hm hN hr;obtain⟨a1,b1,e1,h1⟩:=st _ hm';have s1:=ss _ hm';have ls1:=ls (updM n R mu);have hl:=hm.len
   repeat(first|walk_at "z i" | simp only[ne,Bool.not_false,true_and])
   generalize el:loopF _ _ _=r2;refine B8 el (fun i ρ=>∃(o5 o6 o7:Option D),ρ=[some (.v (.tup [.int n,.tup (ts.map tieD)])),some (.v (.int n)),some (.o (.lst ((updM n (R.take i) mu).map .int))),some (.v .non),some (.v (.lst (R.map tieD))),o5.map .v,o6.map .v,o7.map .v]) ⟨o5,o6,o7,rfl⟩ ?_ ?_
   ·rintro i x _ hx ⟨o5,o6,o7,rfl⟩;rw[zV] at hx;cases hs:R[i]? with
    | none=>rw[hs] at hx;cases hx
    | some s=>
     rw[hs] at hx;cases hx;have eT:R.take (i+1)=R.take i++[s]:=by rw[take_add_one,hs];rfl
     have lu:=a2p n (R.take i) mu;refine⟨_,?_,some (.int s.1),some (.int s.2.1),some (.int s.2.2),rfl⟩;rw[eT,a3L]
     by_cases hge:n<=s.1
     ·have hd:decide (n<=s.1)=true:=qL hge;have hy:=(u1 s (qX hs) hge).y;have x1:ixN ((updM n (R.take i) mu).map D.int).length s.2.1=some s.2.1.toNat:=a2g hy.1 (by rw[zC];walk_at "o")
      have sx:((updM n (R.take i) mu).map D.int).set s.2.1.toNat (.int (s.1-n))=((updM n (R.take i) mu).set s.2.1.toNat (s.1-n)).map .int:=map_set.symm;rw[if_pos hge];unfold tieD
      repeat(first|walk_at "z r" | simp only[hd,x1,sx])
     ·have hd:decide (n<=s.1)=false:=qK hge;rw[if_neg hge];unfold tieD
      repeat(first|walk_at "z r" | simp only[hd])
   ·rintro _ rfl ⟨o5,o6,o7,rfl⟩;rw[zC,take_length];refine⟨[some (.v (.tup [.int n,.tup (ts.map tieD)])),some (.v (.int n)),some (.o (.lst ((updM n R mu).map .int))),some (.v a1),some (.v b1),o5.map .v,o6.map .v,o7.map .v],?_,⟨updM n R mu,a1,b1,o5,o6,o7,rfl,hm',h1⟩,?_⟩
    ·repeat(first|walk_at "z r" | simp only[s1,ls1,e1])
    ·rw[a9M,a9M]
     have:=a70 hw (updM n R mu)
     walk_at "o"
 ·rintro _ rfl ⟨mu,m,o5,o6,o7,rfl,hm,hc⟩;have e3:=W0 n m hn.1 hn.2 (by rw[hc.len];exact hN.symm)
  have e4:=U9 n mu hn.2 hm.len;have l3:lfL (((up n.toNat).map (shM n m)).map ratD)=true:=z8 fun x hx=>by obtain⟨q,_,rfl⟩:=zZ.mp hx;rfl
  have l4:=F4 (sortK (dblK n mu));have es:((up n.toNat).map (xM n m)).map (fun x=>Rat.divInt x 2)=(up n.toNat).map (shM n m):=by rw[qF];rfl
  refine⟨_,_,a5V hw hm hN hc,?_⟩;rw[es]
  repeat(first|walk_at "z r" | simp only[e3,e4,l3,l4])
theorem a34 {n:Int}{ts:List Tie}:∀{xs:List D},xs.all (ptyB n ts)=true->∃ks:List (List Int),xs=ks.map tupI/\∀k∈ks,k∈parK n ts
 | [],_=>⟨[],rfl,fun _ h=>nomatch h⟩
 | x::xs,h=>by
  rw[all_cons,jJ] at h;obtain⟨ks,rfl,hk⟩:=a34 h.2;have h1:=h.1;unfold ptyB at h1;split at h1
  ·rename_i ds;split at h1
   ·rename_i k e;refine⟨k::ks,by rw[u7 e];rfl,fun q hq=>?_⟩
    rcases zX.mp hq with rfl|hq
    ·exact xI h1
    ·exact hk q hq
   ·cases h1
  ·cases h1
theorem a7E {n:Int}{ts:List Tie}{ks:List (List Int)}(h:∀k∈ks,k∈parK n ts):(ks.map tupI).all (ptyB n ts)=true:=by
 rw[xQ];intro x hx;obtain⟨k,hk,rfl⟩:=V1 hx;rw[a1c,qL (h k hk)]
def PDs (d:D):Prop:=isX d=false/\∀xs,d= .tup xs->(∀y∈xs,PD y)/\xs.length<=20
def ptsB (n:Int) (ts:List Tie):D->Bool
 | .tup xs=>xs.all (ptyB n ts)
 | _=>false
abbrev R5:Stmt:=top 9
theorem Y5:FnScope ["web","thing"] ["web","thing"] (defScope R5):=by walk_at "c"
def a0N (g:LO):Prop:=∀(n:Int) (ts:List Tie) (d:D),WebOk n ts->PDs d->g [webD n ts,d]=some (.v (.bl (ptsB n ts d)))
theorem a2Y {a0r:LO}(a0g:Fn P w K mg base "is_party" k a0r)(a0m:a10 a0r)(i0:mg "isinstance"=none)(m9:mg "tuple"=none)(m_all:mg "all"=none)(F:Fun K "is_parties" "is_parties" R5 f fd)(B:Binds K fd ["web","thing"] [])(hm:mg "is_parties"=some (.ref f)):∃g,Fn P w K mg base "is_parties" (k+1) g/\a0N g:=by
 have nd:=Y5.nd;refine⟨_,A8 F Y5 B hm rfl rfl (fun cdv A outer s H E hr=>(c7 (j6 (E9 (Q4 (T:="tuple") (Q2 (by decide)) i0 m9 (a7 1)) (C9 (qx_b (N7 rfl) N6 m_all (a8 (z7 (N:=["party","web"]) (js:=[none,some 0]) (li:=none) rfl (A1 (by exact(.own (.cap rfl rfl rfl rfl .nil))) rfl (by exact⟨rfl,trivial⟩) (by rfl)) (J7 1) (fun _ _ _ _=>(c8 0 (show((["party","web"]:List Str)++[accN]).Nodup by decide +kernel))) (fun _ _ _ _=>B6) (fun _ _ _ _=>(n9 a0g hr (a8 (a7 1) (a8 (a7 0) a9))))) a9))))))),?_⟩
 intro n ts d hw hd;have it:=a0A hd.1;cases d with
 | tup xs=>
  obtain⟨hx,hl⟩:=hd.2 xs rfl
  repeat(first|walk_at "z r" | simp only[it,isT])
  rw[t8 (ρ1:=[some (.v (webD n ts)),some (.v (.tup xs))]) (xs:=xs) (fun B=>∃o1:Option D,B=[o1.map .v,some (.v (webD n ts))]) (fun _=>true) (fun y=>.bl (ptyB n ts y))]
  ·rw[q8];have gb:=a1l (r:=fun bs=>bs.all id) (C7 (ptyB n ts) xs);rw[J0] at gb
   repeat(first|walk_at "z r" | simp only[gb,ptsB])
  ·walk_at "q"
  ·rintro _ ⟨_,rfl⟩;rfl
  ·exact⟨none,rfl⟩
  ·unfold lim;walk_at "o"
  ·exact a1n _ _
  ·rintro x hx' _ zs ⟨o1,rfl⟩;have e:=a0m n ts x hw (hx x hx');refine⟨[some (.v x),some (.v (webD n ts))],.v (.bl (ptyB n ts x)),⟨some _,rfl⟩,?_,rfl,fun _=>⟨?_,.inl rfl⟩⟩
   ·walk_at "q"
   ·repeat(first|walk_at "z r" | simp only[e])
 | exn C=>cases hd.1
 | _=>repeat(first|walk_at "z r" | simp only[it,isT,ptsB])
def gtT:D->Bool
 | .tup [.tup a,.tup b]=>match intsOf a,intsOf b with
  | some x,some y=>HT.lexLt y x
  | _,_=>false
 | _=>false
theorem a5k (ks:List (List Int)):∀x∈zipD (ks.map tupI) ((ks.map tupI).drop 1),∃a b,x= .tup [tupI a,tupI b]:=fun x hx=>by
 unfold zipD at hx;rw[<-List.map_drop,List.mem_iff_getElem?] at hx;obtain⟨i,hi⟩:=hx;rw[List.getElem?_zipWith,zV,zV] at hi;cases h1:ks[i]? with
 | none=>rw[h1] at hi;cases hi
 | some a=>
  cases h2:(ks.drop 1)[i]? with
  | none=>rw[h1,h2] at hi;cases hi
  | some b=>rw[h1,h2] at hi;cases hi;exact⟨a,b,rfl⟩
theorem a3Z (a b:List Int):gtT (.tup [tupI a,tupI b])=HT.lexLt b a:=by
 show(match intsOf (a.map D.int),intsOf (b.map D.int) with
  | some x,some y=>HT.lexLt y x
  | _,_=>false)=_
 rw[m5,m5]
theorem b0z:∀{ks:List (List Int)},(∀x∈zipD (ks.map tupI) ((ks.map tupI).drop 1),gtT x=false)->ks.Pairwise (fun a b=>HT.lexLt b a=false)
 | [],_=>List.Pairwise.nil
 | [a],_=>by simp
 | a::b::r,h=>by
  have ez:zipD ((a::b::r).map tupI) (((a::b::r).map tupI).drop 1)= .tup [tupI a,tupI b]::zipD ((b::r).map tupI) (((b::r).map tupI).drop 1):=rfl;rw[ez] at h;have h1:=h _ zJ;rw[a3Z] at h1;have ih:=b0z fun x hx=>h x (zI _ hx);refine pairwise_cons.mpr ⟨fun c hc=>?_,ih⟩;rcases zX.mp hc with rfl|hc
  ·exact h1
  ·exact PyProof.Rows.KeyOrd.kle_trans (O:=lexO) h1 ((pairwise_cons.mp ih).1 c hc)
theorem a50 (ks:List (List Int)):(!(zipD (ks.map tupI) ((ks.map tupI).drop 1)).any gtT)=decide (ks=sortK ks):=by
 rw[Bool.eq_iff_iff,yV,Bool.not_eq_true',List.any_eq_false];constructor
 ·intro h;have pw:=b0z fun x hx=>by simpa using h x hx
  unfold sortK;refine(List.mergeSort_of_pairwise (pw.imp fun{a b} hab=>?_)).symm;unfold kleB;rw[hab];rfl
 ·intro h x hx;obtain⟨a,b,rfl⟩:=a5k ks x hx;have pw:=P4 ks;rw[<-h] at pw
  have:∀{ks:List (List Int)},ks.Pairwise (fun a b=>HT.lexLt b a=false)->∀x∈zipD (ks.map tupI) ((ks.map tupI).drop 1),gtT x=false:=by
   intro ks
   induction ks with
   | nil=>intro _ x hx;simp[zipD] at hx
   | cons a r ih=>
    intro pw x hx;cases r with
    | nil=>simp[zipD] at hx
    | cons b r=>
     have ez:zipD ((a::b::r).map tupI) (((a::b::r).map tupI).drop 1)= .tup [tupI a,tupI b]::zipD ((b::r).map tupI) (((b::r).map tupI).drop 1):=rfl;rw[ez] at hx;rcases zX.mp hx with rfl|hx
     ·rw[a3Z];exact(pairwise_cons.mp pw).1 b zJ
     ·exact ih (pairwise_cons.mp pw).2 x hx
  simp[this pw _ hx]
abbrev W6:Stmt:=top 2
theorem a0U:FnScope ["row"] ["row"] (defScope W6):=by walk_at "c"
def a1z (g:LO):Prop:=∀ks:List (List Int),ks.length<=20->g [.tup (ks.map tupI)]=some (.v (.bl (decide (ks=sortK ks))))
theorem a4E (m_any:mg "any"=none)(m_zip:mg "zip"=none)(F:Fun K "is_sorted" "is_sorted" W6 f fd)(B:Binds K fd ["row"] [])(hm:mg "is_sorted"=some (.ref f)):∃g,Fn P w K mg base "is_sorted" (k+1) g/\a1z g:=by
 have nd:=a0U.nd;refine⟨_,A8 F a0U B hm rfl rfl (fun cdv A outer s H E hr=>(c7 (j6 (a39 (qx_b (a73 rfl) N6 m_any (a8 (z7 (N:=["one","other"]) (js:=[none,none]) (li:=none) rfl (A1 (by exact(.own (.own .nil))) rfl (by exact trivial) (by rfl)) (G8 (b4C m_zip (a8 (a7 0) (a8 (T7 (a7 0) (a0H b8) a0R) a9)))) (fun _ _ _ _=>(D1 rfl (j4 (c8 0 (show((["one","other"]:List Str)++[accN]).Nodup by decide +kernel)) (j4 (c8 1 (show((["one","other"]:List Str)++[accN]).Nodup by decide +kernel)) B7)))) (fun _ _ _ _=>B6) (fun _ _ _ _=>(b1b hr (a7 1) (a7 0)))) a9)))))),?_⟩
 intro ks hl;walk_at "q";rw[t8 (ρ1:=[some (.v (.tup (ks.map tupI)))]) (xs:=zipD (ks.map tupI) ((ks.map tupI).drop 1)) (fun B=>∃o1 o2:Option D,B=[o1.map .v,o2.map .v]) (fun _=>true) (fun d=>.bl (gtT d))]
 ·rw[q8];have gb:=a1l (r:=fun bs=>bs.any id) (C7 gtT (zipD (ks.map tupI) ((ks.map tupI).drop 1)));rw[List.any_map,show(id∘gtT)=gtT from rfl] at gb;rw[<-a50]
  repeat(first|walk_at "z r" | simp only[gb])
 ·repeat(first|walk_at "z r" | simp only[a9b])
 ·rintro _ ⟨_,_,rfl⟩;rfl
 ·exact⟨none,none,rfl⟩
 ·rw[b2d];simp[lim];walk_at "o"
 ·exact a1n _ _
 ·rintro x hx _ zs ⟨o1,o2,rfl⟩;obtain⟨a,b,rfl⟩:=a5k ks x hx;have lt:oLtT (tupI b) (tupI a)=some (.v (.bl (HT.lexLt b a))):=by
   show(intsOf (b.map D.int)).bind _=_;rw[m5,bind_some,m5,jF]
  rw[a3Z];refine⟨[some (.v (tupI a)),some (.v (tupI b))],.v (.bl (HT.lexLt b a)),⟨some _,some _,rfl⟩,?_,rfl,fun _=>⟨?_,.inl rfl⟩⟩
  ·walk_at "q"
  ·repeat(first|walk_at "z r" | simp only[lt])
abbrev C1:Stmt:=top 10
theorem E5:FnScope ["web","thing"] ["web","thing"] (defScope C1):=by walk_at "c"
def F1 (g:LO):Prop:=∀(n:Int) (ts:List Tie) (d:D),WebOk n ts->PDs d->(ptsB n ts d=false->g [webD n ts,d]=some (.v (.bl false)))/\∀ks:List (List Int),d= .tup (ks.map tupI)->(∀k∈ks,k∈parK n ts)->g [webD n ts,d]=some (.v (.bl (decide (ks=sortK ks))))
theorem S5 {P5:LO}{U8:LO}(O8:Fn P w K mg base "is_parties" k P5)(O9:a0N P5)(T5:Fn P w K mg base "is_sorted" k U8)(T1:a1z U8)(F:Fun K "is_sorted_parties" "is_sorted_parties" C1 f fd)(B:Binds K fd ["web","thing"] [])(hm:mg "is_sorted_parties"=some (.ref f)):∃g,Fn P w K mg base "is_sorted_parties" (k+1) g/\F1 g:=by
 have nd:=E5.nd;refine⟨_,A8 F E5 B hm rfl rfl (fun cdv A outer s H E hr=>(c7 (j6 (E9 (n9 O8 hr (a8 (a7 0) (a8 (a7 1) a9))) (C9 (n9 T5 hr (a8 (a7 1) a9))))))),?_⟩;intro n ts d hw hd;have e1:=O9 n ts d hw hd;refine⟨fun h=>?_,fun ks e hk=>?_⟩
 ·rw[h] at e1
  repeat(first|walk_at "z r" | simp only[e1])
 ·subst e;have hl:=(hd.2 _ rfl).2;rw[zC] at hl;have e2:=T1 ks hl;rw[show ptsB n ts (.tup (ks.map tupI))=true from a7E hk] at e1
  repeat(first|walk_at "z r" | simp only[e1,e2])
def itemsD:D->List D
 | .tup xs=>xs
 | _=>[]
theorem a2L:∀ps:List (List Int),((ps.map tupI).flatMap itemsD).map id=ps.flatten.map .int
 | []=>rfl
 | p::ps=>by
  have:=a2L ps
  rw[zH,xU,zL,this,jP,zL];rw[map_id];rfl
theorem W9 {ns:List Int}(h:ns.length<64):gSort (.lst (ns.map .int))=some (.o (.lst ((sortI ns).map .int))):=by
 unfold gSort gSortI;dsimp only;rw[m5,bind_some,if_pos h]
abbrev a5U:Stmt:=top 13
theorem a6U:FnScope ["some"] ["some"] (defScope a5U):=by walk_at "c"
def a83 (g:LO):Prop:=∀ps:List (List Int),ps.length<=20->ps.flatten.length<=40->g [.tup (ps.map tupI)]=some (.o (.lst ((sortI ps.flatten).map .int)))
theorem b1Q (k8:mg "sorted"=none)(F:Fun K "held" "held" a5U f fd)(B:Binds K fd ["some"] [])(hm:mg "held"=some (.ref f)):∃g,Fn P w K mg base "held" (k+1) g/\a83 g:=by
 have nd:=a6U.nd;refine⟨_,A8 F a6U B hm rfl rfl (fun cdv A outer s H E hr=>(c7 (j6 (D2 hr rfl k8 (a8 (a5j (N:=["party","person"]) (js:=[none,none]) rfl (A1 (by exact(.own (.own .nil))) rfl (by exact trivial) (by rfl)) (J7 0) (fun _ _ _ _=>(c8 0 (show((["party","person"]:List Str)++[accN]).Nodup by decide +kernel))) (fun _ _ _ _=>(J5 (a7 0))) (fun _ _ _ _=>(c8 1 (show((["party","person"]:List Str)++[accN]).Nodup by decide +kernel))) (fun _ _ _ _=>(a7 1))) a9))))),?_⟩
 intro ps hl h2;have ef:=a2L ps;have so:=W9 (ns:=ps.flatten) (by walk_at "o")
 walk_at "q";rw[a22 (ρ1:=[some (.v (.tup (ps.map tupI)))]) (xs:=ps.map tupI) (fun B=>∃o1 o2:Option D,B=[o1.map .v,o2.map .v]) itemsD id]
 ·rw[ef]
  repeat(first|walk_at "z r" | simp only[so])
 ·walk_at "q"
 ·rintro _ ⟨_,_,rfl⟩;rfl
 ·exact⟨none,none,rfl⟩
 ·have:=yQ List.length ef
  rw[zC,zC] at this;rw[this];unfold lim;walk_at "o"
 ·rw[ef];exact j5 _
 ·rintro x hx _ zs ⟨o1,o2,rfl⟩;obtain⟨p,_,rfl⟩:=V1 hx;refine⟨[some (.v (tupI p)),o2.map .v],[some (.v (tupI p)),o2.map .v],⟨some _,o2,rfl⟩,?_,?_⟩
  ·walk_at "q"
  ·rw[show tupI p= .tup (p.map .int) from rfl]
   repeat(first|walk_at "z r" | simp only[itemsD])
 ·rintro x hx y hy _ zs ⟨o1,o2,rfl⟩;obtain⟨p,_,rfl⟩:=V1 hx;obtain⟨i,_,rfl⟩:=a8Y (show y∈p.map D.int from hy);refine⟨[o1.map .v,some (.v (.int i))],.v (.int i),⟨o1,some _,rfl⟩,?_,?_,.inl rfl⟩
  ·walk_at "q"
  ·walk_at "q"
theorem a05 (m:Nat):(up m).map D.int=rngD 0 m:=by unfold up rngD;rw[qF];rfl
theorem a1T {n:Int}{ts:List Tie}(hw:WebOk n ts):∀{ks:List (List Int)},(∀k∈ks,k∈parK n ts)->ks.flatten.length<=2*ks.length
 | [],_=>zE _
 | k::ks,h=>by
  have h1:=a1T hw fun q hq=>h q (zI _ hq);have h2:=(A5 hw (h k zJ)).2.2;rw[jP,zM,qJ];walk_at "o"
theorem a4W {a b:List Int}(h:a.Perm b):sortI a=sortI b:=PySem.W.lks_uniq (((D4 a).trans h).trans (D4 b).symm) (F5 a) (F5 b)
def up2 (n:Int):List Int:=up n.toNat++up n.toNat
def dblB (n:Int) (ts:List Tie):D->Bool
 | .tup xs=>xs.all (ptyB n ts)&&match tupsOf xs with
  | some ks=>decide (ks=sortK ks)&&decide (sortI ks.flatten=sortI (up2 n))
  | none=>false
 | _=>false
theorem a08 {n:Int}{ts:List Tie}{ks:List (List Int)}(h:∀k∈ks,k∈parK n ts):dblB n ts (.tup (ks.map tupI))=(decide (ks=sortK ks)&&decide (sortI ks.flatten=sortI (up2 n))):=by
 unfold dblB;dsimp only;rw[a7E h,G6,Bool.true_and]
theorem a7p {n:Int}{ts:List Tie}{d:D}(h:ptsB n ts d=false):dblB n ts d=false:=by
 cases d with
 | tup xs=>
  have hb:xs.all (ptyB n ts)=false:=h;unfold dblB;dsimp only;rw[hb,yW]
 | _=>rfl
theorem rng2 (n:Nat):rngD 0 n++rngD 0 n=(up n++up n).map D.int:=by rw[zL,a05]
theorem a7j {C:Prop}{b:D->FS}{xs:List D}{ρ:Ev}{r:Option R}(e:loopF b xs ρ=r)(I:Nat->Ev->Prop)(Bw:W->Prop)(h0:I 0 ρ)(st:∀i x ρ,xs[i]? =some x->I i ρ->(∃ρ',b x ρ=some (.nx ρ')/\I (i+1) ρ')\/∃w ρ',b x ρ=some (.rt w ρ')/\Bw w)(c1:∀ρ',r=some (.nx ρ')->I xs.length ρ'->C)(c2:∀w ρ',r=some (.rt w ρ')->Bw w->C):C:=by
 have key:∀(ys:List D) (k:Nat) (ρ:Ev),xs.drop k=ys->I k ρ->(∃ρ',loopF b ys ρ=some (.nx ρ')/\I (k+ys.length) ρ')\/∃w ρ',loopF b ys ρ=some (.rt w ρ')/\Bw w:=by
  intro ys
  induction ys with
  | nil=>intro k ρ _ h;exact .inl ⟨ρ,rfl,h⟩
  | cons y ys ih=>
   intro k ρ hd h;have hy:xs[k]? =some y:=by
    have:=yQ (fun l=>l[0]?) hd
    rw[List.getElem?_drop] at this;simpa using this
   have hd':xs.drop (k+1)=ys:=by rw[<-drop_drop,hd];rfl
   rcases st k y ρ hy h with ⟨ρ1,e1,i1⟩|⟨w,ρ1,e1,q⟩
   ·rcases ih (k+1) ρ1 hd' i1 with ⟨ρ2,e2,i2⟩|⟨w,ρ2,e2,q⟩
    ·refine .inl ⟨ρ2,by rw[loopF,e1];exact e2,?_⟩
     rw[qJ,show k+(ys.length+1)=k+1+ys.length by walk_at "o"];exact i2
    ·exact .inr ⟨w,ρ2,by rw[loopF,e1];exact e2,q⟩
   ·exact .inr ⟨w,ρ1,by rw[loopF,e1];rfl,q⟩
 rcases key xs 0 ρ rfl h0 with ⟨ρ',e1,i⟩|⟨w,ρ',e1,q⟩
 ·exact c1 ρ' (by rw[<-e];exact e1) (by rw[Nat.zero_add] at i;exact i)
 ·exact c2 w ρ' (by rw[<-e];exact e1) q
abbrev S0:Stmt:=top 18
theorem a0K:FnScope ["web","thing"] ["web","thing"] (defScope S0):=by walk_at "c"
def a1K (g:LO):Prop:=∀(n:Int) (ts:List Tie) (d:D),WebOk n ts->PDs d->g [webD n ts,d]=some (.v (.bl (dblB n ts d)))
theorem a4l {C2:LO}{a5K:LO}(C0:Fn P w K mg base "is_sorted_parties" k C2)(B9:F1 C2)(a6j:Fn P w K mg base "held" k a5K)(a5J:a83 a5K)(k8:mg "sorted"=none)(v4:mg "list"=none)(g7:mg "range"=none)(F:Fun K "is_double" "is_double" S0 f fd)(B:Binds K fd ["web","thing"] [])(hm:mg "is_double"=some (.ref f)):∃g,Fn P w K mg base "is_double" (k+1) g/\a1K g:=by
 have nd:=a0K.nd;refine⟨_,A8 F a0K B hm rfl rfl (fun cdv A outer s H E hr=>(c7 (j6 (E9 (n9 C0 hr (a8 (a7 0) (a8 (a7 1) a9))) (C9 (J9 hr (n9 a6j hr (a8 (a7 1) a9)) (D2 hr rfl k8 (a8 (a2c (a2f rfl v4 g7 (a8 (j0 hr (a7 0) b8) a9)) b8) a9)))))))),?_⟩;intro n ts d hw hd;have hn:=hw.n1;obtain⟨e1,e2⟩:=B9 n ts d hw hd;have r1:(-(2^62:Int)<=n/\n<2^62):=by walk_at "o"
 have r2:(0<=n/\n<=1000):=by walk_at "o"
 have rp:oRep (.lst (rngD 0 n.toNat)) (.int 2)=some (.o (.lst ((up2 n).map .int))):=by
  rw[a38 (by rw[w9];walk_at "o"),rng2];rfl
 have lu:=j5 (up2 n);have ul:(up2 n).length<=16:=by unfold up2;rw[zM,v5];walk_at "o"
 have so:=W9 (ns:=up2 n) (by walk_at "o")
 have lr:lfL (rngD 0 n.toNat)=true:=by rw[<-a05];exact j5 _
 have ls:=j5 (sortI (up2 n));cases hb:ptsB n ts d with
 | false=>
  rw[a7p hb];have e1:=e1 hb
  repeat(first|walk_at "z r" | simp only[e1])
 | true=>
  cases d with
  | tup xs=>
   obtain⟨ks,rfl,hk⟩:=a34 hb;obtain⟨_,hl⟩:=hd.2 _ rfl;rw[zC] at hl;have fl:=a1T hw hk;have e2:=e2 ks rfl hk;have e3:=a5J ks hl (by walk_at "o")
   rw[a08 hk];have l1:=j5 (sortI ks.flatten);have dq:deqL (deq 19) ((sortI ks.flatten).map D.int) ((sortI (up2 n)).map D.int)=some (decide (sortI ks.flatten=sortI (up2 n))):=O0 _ _;rw[show webD n ts= .tup [.int n,.tup (ts.map tieD)] from rfl] at e2 ⊢;generalize up2 n=U at *;cases hr:decide (ks=sortK ks) with
   | false=>rw[hr] at e2;repeat(first|walk_at "z r" | simp only[e2])
   | true=>rw[hr] at e2;repeat(first|walk_at "z r" | simp only[e2,e3,l1,r1,r2,lr,rp,lu,so,ls,dq])
  | _=>cases hb
abbrev Q8:Stmt:=top 33
theorem Y0:FnScope ["thing"] ["thing"] (defScope Q8):=by walk_at "c"
def a0P (g:LO):Prop:=∀d:D,isX d=false->g [d]=some (.v (.bl (whole d)))
theorem a2W (i0:mg "isinstance"=none)(m_int:mg "int"=none)(P7:mg "bool"=none)(F:Fun K "_law_whole" "_law_whole" Q8 f fd)(B:Binds K fd ["thing"] [])(hm:mg "_law_whole"=some (.ref f)):∃g,Fn P w K mg base "_law_whole" (k+1) g/\a0P g:=by
 have nd:=Y0.nd;refine⟨_,A8 F Y0 B hm rfl rfl (fun cdv A outer s H E hr=>(c7 (j6 (E9 (Q4 (T:="int") (Q2 (by decide)) i0 m_int (a7 0)) (C9 (a39 (Q4 (T:="bool") (Q2 (by decide)) i0 P7 (a7 0)))))))),?_⟩
 intro d hd;have i1:=b1n hd;have i2:=a4D hd;cases d with
 | exn C=>cases hd
 | _=>repeat(first|walk_at "z r" | simp only[i1,i2,isI,isB,whole])
theorem a5i {α:Type} [DecidableEq α] {f:α->D}{m:Nat}(h:∀x y,deq m (f x) (f y)=some (decide (x=y))):∀xs ys:List α,deqL (deq m) (xs.map f) (ys.map f)=some (decide (xs=ys))
 | [],[]=>rfl
 | [],_::_=>rfl
 | _::_,[]=>rfl
 | x::xs,y::ys=>by
  rw[zH,zH,deqL,h,a5i h xs ys,bind_some,jF];simp only[List.cons.injEq,Bool.decide_and]
theorem a9h (n:Int)(ts:List Tie):oneK n.toNat++ts.map tkK=(parK n ts).map fun k=>k.map (Sum.inl:Int->Key):=by
 unfold parK oneK;rw[zL,qF,qF];rfl
theorem a2b {n:Int}{ts:List Tie}{k:List Int}:memK (k.map (Sum.inl:Int->Key)) (oneK n.toNat++ts.map tkK)=decide (k∈parK n ts):=by
 rw[a9h];unfold memK;refine decide_eq_decide.mpr ⟨fun h=>?_,fun h=>zZ.mpr ⟨k,h,rfl⟩⟩;obtain⟨j,hj,e⟩:=zZ.mp h;rw[a7O e] at hj;exact hj
theorem a9z {n:Int}{ts:List Tie}{xs:List D}(h:xs.all isT=false):xs.all (ptyB n ts)=false:=by
 rw[<-Bool.not_eq_true] at h ⊢;intro h2;apply h;rw[xQ] at h2 ⊢;intro x hx
 have:=h2 x hx
 cases x<;>first|rfl|cases this
theorem a1r (n:Int)(ts:List Tie):lfL (List.replicate n.toNat (D.int 0)++ts.map fun t=>D.int t.2.2)=true:=z8 fun x hx=>by
 rcases qG.mp hx with z|z
 ·rw[(List.mem_replicate.mp z).2];rfl
 ·obtain⟨t,_,rfl⟩:=zZ.mp z;rfl
abbrev K7:Stmt:=top 34
theorem W7:FnScope ["web","thing","gains_v","people","party"] ["web","thing"] (defScope K7):=by walk_at "c"
def X9 (g:LO):Prop:=∀(n:Int) (ts:List Tie) (d:D),WebOk n ts->PDs d->g [webD n ts,d]=some (.v (.bl (dblB n ts d)))
theorem a2E {t9:LO}{Q5:LO}(u6:Fn P w K mg base "_law_gains" k t9)(u4:F7 t9)(P1:Fn P w K mg base "_law_whole" k Q5)(P3:a0P Q5)(i0:mg "isinstance"=none)(m9:mg "tuple"=none)(m_all:mg "all"=none)(v4:mg "list"=none)(k8:mg "sorted"=none)(g7:mg "range"=none)(F:Fun K "_law_double" "_law_double" K7 f fd)(B:Binds K fd ["web","thing"] [])(hm:mg "_law_double"=some (.ref f)):∃g,Fn P w K mg base "_law_double" (k+1) g/\X9 g:=by
 have nd:=W7.nd
 refine⟨_,A8 F W7 B hm rfl rfl (fun cdv A outer s H E hr=>(b9 (g9 2 nd (n9 u6 hr (a8 (a7 0) a9)))
  (b9 (w8 (a0C (a5w (a2C (S3 (Q4 (T:="tuple") (Q2 (by decide)) i0 m9 (a7 1)))) (a2S (a2C (S3 (qx_b (N7 rfl) N6 m_all (a8 (z7 (N:=["party"]) (js:=[none]) (li:=none) rfl (A1 (by exact(.own .nil)) rfl (by exact trivial) (by rfl)) (J7 1) (fun _ _ _ _=>(c8 0 (show((["party"]:List Str)++[accN]).Nodup by decide +kernel))) (fun _ _ _ _=>B6) (fun _ _ _ _=>(Q4 (T:="tuple") (Q2 (by decide)) i0 m9 (a7 0)))) a9))))))) (c7 (j6 a1F)) t3)
  (b9 (g9 3 nd (t6 a9))
  (b9 (A7 zU rfl (J5 (a7 1)) (c8 4 nd) (b9 (w8 (a0C (a5w (a2C (S3 (qx_b (N7 rfl) N6 m_all (a8 (z7 (N:=["person"]) (js:=[none]) (li:=none) rfl (A1 (by exact(.own .nil)) rfl (by exact trivial) (by rfl)) (J7 4) (fun _ _ _ _=>(c8 0 (show((["person"]:List Str)++[accN]).Nodup by decide +kernel))) (fun _ _ _ _=>B6) (fun _ _ _ _=>(n9 P1 hr (a8 (a7 0) a9)))) a9)))) (a2S (D7 hr (a7 4) (a7 2))))) (c7 (j6 a1F)) t3)
  (c7 (g9 3 nd (m7 (a7 3) (N8 rfl v4 (a8 (a7 4) a9)))))))
  (c7 (j6 (E9 (J9 hr (N8 rfl v4 (a8 (a7 1) a9)) (a0f hr rfl k8 (a8 (a7 1) a9))) (C9 (J9 hr (a0f hr rfl k8 (a8 (a7 3) a9)) (a0f hr rfl k8 (a8 (a2c (a2f rfl v4 g7 (a8 (j0 hr (a7 0) b8) a9)) b8) a9)))))))))))),?_⟩
 intro n ts d hw hd;have hn:=hw.n1;have it:=a0A hd.1;have eg:=u4 n ts hw;have lg:=a1r n ts;have lw:=Z6 n ts;have kl:(oneK n.toNat++ts.map tkK).length=(List.replicate n.toNat (D.int 0)++ts.map fun t=>D.int t.2.2).length:=by
  unfold oneK;simp
 have r1:(-(2^62:Int)<=n/\n<2^62):=by walk_at "o"
 have r2:(0<=n/\n<=1000):=by walk_at "o"
 have rp:oRep (.lst (rngD 0 n.toNat)) (.int 2)=some (.o (.lst ((up2 n).map .int))):=by
  rw[a38 (by rw[w9];walk_at "o"),rng2];rfl
 have lu:=j5 (up2 n);have ul:(up2 n).length<=16:=by unfold up2;rw[zM,v5];walk_at "o"
 have so:=W9 (ns:=up2 n) (by walk_at "o")
 have lr:lfL (rngD 0 n.toNat)=true:=by rw[<-a05];exact j5 _
 have ls:=j5 (sortI (up2 n));have mk:∀k,memK (k.map (Sum.inl:Int->Key)) (oneK n.toNat++ts.map tkK)=decide (k∈parK n ts):=fun k=>a2b;cases d with
 | tup xs=>
  obtain⟨hx,hl⟩:=hd.2 _ rfl
  repeat(first|walk_at "z r" | simp only[eg,lg,lw,it,isT])
  generalize oneK n.toNat++ts.map tkK=K at kl mk ⊢;generalize (List.replicate n.toNat (D.int 0)++ts.map fun t=>D.int t.2.2)=V at kl lg ⊢;rw[t8 (ρ1:=[some (.v (webD n ts)),some (.v (.tup xs)),some (.o (.dT K V)),none,none]) (xs:=xs) (fun B=>∃o1:Option D,B=[o1.map .v]) (fun _=>true) (fun y=>.bl (isT y))]
  ·rw[q8];have gb:=a1l (r:=fun bs=>bs.all id) (C7 isT xs);rw[J0] at gb;cases hT:xs.all isT with
   | false=>
    rw[hT] at gb;rw[show dblB n ts (.tup xs)=false by unfold dblB;dsimp only;rw[a9z hT,yW]]
    repeat(first|walk_at "z r" | simp only[gb])
   | true=>
    rw[hT] at gb
    repeat(first|walk_at "z r" | simp only[gb])
    generalize el:loopF _ _ _=r;refine a7j el (fun i ρ=>∃(ks:List (List Int)) (o4:Option D),xs.take i=ks.map tupI/\(∀k∈ks,k∈parK n ts)/\ρ=[some (.v (webD n ts)),some (.v (.tup xs)),some (.o (.dT K V)),some (.o (.lst (ks.flatten.map .int))),o4.map .v]) (fun w=>w= .v (.bl false)/\xs.all (ptyB n ts)=false) ⟨[],none,rfl,(fun _ h=>by cases h),rfl⟩ ?_ ?_ ?_
    ·rintro i x _ hx' ⟨ks,o4,ek,hk,rfl⟩;have mx:=qX hx';have hpd:=hx x mx;have hT':=xQ.mp hT x mx;have eT:xs.take (i+1)=xs.take i++[x]:=by rw[take_add_one,hx'];rfl
     have no:ptyB n ts x=false->xs.all (ptyB n ts)=false:=fun h=>by
      rw[<-Bool.not_eq_true,xQ];intro z;rw[z x mx] at h;cases h
     cases x with
     | tup ds=>
      obtain⟨hy,hyl⟩:=hpd.2 _ rfl;have lk:=j5 ks.flatten
      repeat(first|walk_at "z i" | simp only[lk])
      generalize hif:fIfS _ _ _ _=rr;obtain⟨q,hq⟩:∃q:Bool,ptyB n ts (.tup ds)=q/\rr=if q then some (.nx [some (.v (webD n ts)),some (.v (.tup xs)),some (.o (.dT K V)),some (.o (.lst (ks.flatten.map .int))),some (.v (.tup ds))]) else some (.rt (.v (.bl false)) [some (.v (webD n ts)),some (.v (.tup xs)),some (.o (.dT K V)),some (.o (.lst (ks.flatten.map .int))),some (.v (.tup ds))]):=by
       subst hif;walk_at "q";rw[t8 (ρ1:=[some (.v (webD n ts)),some (.v (.tup xs)),some (.o (.dT K V)),some (.o (.lst (ks.flatten.map .int))),some (.v (.tup ds))]) (xs:=ds) (fun B=>∃o1:Option D,B=[o1.map .v]) (fun _=>true) (fun y=>.bl (whole y))]
       ·rw[q8];have gb:=a1l (r:=fun bs=>bs.all id) (C7 whole ds);rw[J0] at gb;cases hW:ds.all whole with
        | false=>
         rw[hW] at gb;refine⟨false,by unfold ptyB;dsimp only;rw[a5p hW],?_⟩
         rw[if_neg (by decide)]
         repeat(first|walk_at "z r" | simp only[gb])
        | true=>
         rw[hW] at gb;obtain⟨k,rfl⟩:=a0q hW;have t1:=a54 (b:=true) (d:=.tup (k.map .int)) (a1Q k) kl;rw[mk k] at t1;refine⟨decide (k∈parK n ts),a1c,?_⟩;cases hm:decide (k∈parK n ts) with
         | true=>
          rw[hm] at t1;rw[if_pos rfl]
          repeat(first|walk_at "z r" | simp only[gb,t1])
         | false=>
          rw[hm] at t1;rw[if_neg (by decide)]
          repeat(first|walk_at "z r" | simp only[gb,t1])
       ·walk_at "q"
       ·rintro _ ⟨_,rfl⟩;rfl
       ·exact⟨none,rfl⟩
       ·unfold lim;walk_at "o"
       ·exact a1n _ _
       ·rintro y hy' _ zs ⟨o1,rfl⟩;have ew:=P3 y (hy y hy');refine⟨[some (.v y)],.v (.bl (whole y)),⟨some _,rfl⟩,?_,rfl,fun _=>⟨?_,.inl rfl⟩⟩
        ·walk_at "q"
        ·repeat(first|walk_at "z r" | simp only[ew])
      obtain⟨hp,rfl⟩:=hq;cases q with
      | false=>
       refine .inr ⟨.v (.bl false),[some (.v (webD n ts)),some (.v (.tup xs)),some (.o (.dT K V)),some (.o (.lst (ks.flatten.map .int))),some (.v (.tup ds))],?_,rfl,no hp⟩;rw[if_neg (by decide)]
       rfl
      | true=>
       obtain⟨k1,e1,hk1⟩:=a34 (xs:=[.tup ds]) (by rw[all_cons,hp];rfl)
       obtain⟨k,rfl⟩:∃k,k1=[k]:=by
        have:=yQ List.length e1
        rw[zC] at this
        match k1,this with
        | [k],_=>exact⟨k,rfl⟩
       injection e1 with e1
       have hkk:=hk1 k (List.mem_singleton_self _);have e1:D.tup ds= .tup (k.map .int):=e1;injection e1 with e1
       subst e1;have f2:=(A5 hw hkk).2.2;have f1:=a1T hw hk;have f3:ks.length<=20:=by
        have:=yQ List.length ek
        rw[zC,length_take] at this;walk_at "o"
       have le1:ks.flatten.length+k.length<=1000000:=by walk_at "o"
       refine .inl ⟨[some (.v (webD n ts)),some (.v (.tup xs)),some (.o (.dT K V)),some (.o (.lst ((ks++[k]).flatten.map .int))),some (.v (.tup (k.map .int)))],?_,ks++[k],some (.tup (k.map .int)),?_,?_,rfl⟩
       ·rw[if_pos rfl];rw[qY,List.flatten_singleton,zL]
        repeat(first|walk_at "z r" | simp only[le1,zC])
       ·rw[eT,ek,zL];rfl
       ·intro q hq;rcases qG.mp hq with z|z
        ·exact hk q z
        ·rw[zN.mp z];exact hkk
     | _=>cases hT'
    ·rintro _ rfl ⟨ks,o4,ek,hk,rfl⟩;rw[take_length] at ek;subst ek;rw[zC] at hl;rw[a08 hk];have fl:=a1T hw hk;have lt:=F4 ks;have lt2:=F4 (sortK ks);have so2:=W9 (ns:=ks.flatten) (by walk_at "o")
     have l2:=j5 (sortI ks.flatten);have l3:=j5 ks.flatten;have dq1:deqL (deq 19) (ks.map tupI) ((sortK ks).map tupI)=some (decide (ks=sortK ks)):=a5i (f:=tupI) (m:=19) (fun a b=>O0 (m:=18) a b) ks (sortK ks);have dq2:deqL (deq 19) ((sortI ks.flatten).map D.int) ((sortI (up2 n)).map D.int)=some (decide (sortI ks.flatten=sortI (up2 n))):=O0 _ _;have su:=b4F (ks:=ks) (by walk_at "o") fun k h=>(O1 hw).2 k (hk k h)
     rw[show webD n ts= .tup [.int n,.tup (ts.map tieD)] from rfl];generalize up2 n=U at *;cases hq:decide (ks=sortK ks) with
     | false=>rw[hq] at dq1;repeat(first|walk_at "z r" | simp only[lt,lt2,su,dq1])
     | true=>rw[hq] at dq1;repeat(first|walk_at "z r" | simp only[lt,lt2,su,dq1,b3X,so2,l2,l3,r1,r2,lr,rp,lu,so,ls,dq2])
    ·rintro _ _ rfl ⟨rfl,hb⟩;rw[a7p (show ptsB n ts (.tup xs)=false from hb)];walk_at "q"
  ·walk_at "q"
  ·rintro _ ⟨_,rfl⟩;rfl
  ·exact⟨none,rfl⟩
  ·unfold lim;walk_at "o"
  ·exact a1n _ _
  ·rintro y hy' _ zs ⟨o1,rfl⟩;have iy:=a0A ((hx y hy').1);refine⟨[some (.v y)],.v (.bl (isT y)),⟨some _,rfl⟩,?_,rfl,fun _=>⟨?_,.inl rfl⟩⟩
   ·walk_at "q"
   ·repeat(first|walk_at "z r" | simp only[iy])
 | exn C=>cases hd.1
 | _=>repeat(first|walk_at "z r" | simp only[eg,lg,lw,it,isT,dblB])
theorem a5y {α:Type} [DecidableEq α] {l m:List α}(nd:l.Nodup)(h:∀x∈l,x∈m):l.length<=m.length:=by
 induction l generalizing m with
 | nil=>exact jN _
 | cons x l ih=>
  obtain⟨n1,n2⟩:=nodup_cons.mp nd;have hx:=h x zJ
  have:=ih (m:=m.erase x) n2 fun y hy=>(List.mem_erase_of_ne fun e=>n1 (by rw[<-e];exact hy)).mpr (h y (zI _ hy))
  rw[List.length_erase_of_mem hx] at this
  have:=List.length_pos_of_mem hx
  rw[qJ];walk_at "o"
structure DbOk (n:Int) (ts:List Tie) (R:List (List Int)):Prop where
 par:∀k∈R,k∈parK n ts
 prm:R.flatten.Perm (up2 n)
theorem DbOk.len {n:Int}{ts:List Tie}{R:List (List Int)}(h:DbOk n ts R)(hw:WebOk n ts):R.length<=16:=by
 have hn:=hw.n1
 have:=W2 (gs:=R) fun k hk=>(A5 hw (h.par k hk)).2.1
 rw[h.prm.length_eq] at this;unfold up2 at this;rw[zM,v5] at this;walk_at "o"
def notH (hs:List Int):D->Bool
 | .int i=>!decide (i∈hs)
 | _=>false
def oneH:D->D
 | .int i=>tupI [i]
 | _=>.non
def restK (n:Int) (hs:List Int):List (List Int):=((up n.toNat).filter fun i=>!decide (i∈hs)).map fun i=>[i]
theorem a5E (n:Int)(hs:List Int):((rngD 0 n.toNat).filter (notH hs)).map oneH=(restK n hs).map tupI:=by
 rw[<-a05,filter_map,qF];unfold restK;rw[qF];rfl
theorem a2u {n:Int}{ts:List Tie}{hs:List Int}(hn:0<=n):∀k∈restK n hs,k∈parK n ts:=fun k hk=>by
 obtain⟨i,hi,rfl⟩:=zZ.mp hk
 have:=A6.mp (qW.mp hi).1
 exact K4 ⟨this.1,by walk_at "o"⟩
theorem X7:∀l:List Int,(l.map fun i=>[i]).flatten=l
 | []=>rfl
 | i::l=>by rw[zH,jP,X7 l];rfl
theorem a3I (n:Int)(hs:List Int):(restK n hs).flatten=(up n.toNat).filter fun i=>!decide (i∈hs):=X7 _
theorem a43 (n:Int)(hs:List Int):(restK n hs).length<=n.toNat:=by
 unfold restK;rw[zC];exact qC (List.length_filter_le _ _) (by rw[v5];exact zE _)
theorem k7 (ks:List (List Int)):lfL (ks.map tupI)=true:=F4 ks
abbrev N0:Stmt:=top 35
theorem U1:FnScope ["pool","web","found","held_v","a","b","gain"] ["pool","web"] (defScope N0):=by walk_at "c"
def X8 (g:LL):Prop:=∀(p n:Int) (ts:List Tie),WebOk n ts->∃(R:List (List Int)) (q:Int),(∀k∈R,k∈parK n ts)/\R.flatten.Perm (up n.toNat)/\R.length<=8/\g (poolD p) [webD n ts]=some (.o (.lst (R.map tupI)),poolD q)
theorem a2Q {j9:LL}(c9:FnL P w K mg base "_law_take" k j9)(g5:A9 j9)(g7:mg "range"=none)(F:Fun K "_law_paired" "_law_paired" N0 f fd)(B:Binds K fd ["pool","web"] [])(hm:mg "_law_paired"=some (.ref f)):∃g,FnL P w K mg base "_law_paired" (k+1) g/\X8 g:=by
 have nd:=U1.nd
 refine⟨_,a0d F U1 B hm rfl rfl (fun cdv A outer s H E hr=>(b9 (g9 2 nd (t6 a9))
  (b9 (g9 3 nd (t6 a9))
  (b9 (A7 zU rfl (J5 (j0 hr (a7 1) b8)) (D1 rfl (j4 (c8 4 nd) (j4 (c8 5 nd) (j4 (c8 6 nd) B7)))) (c7 (w8 (a0C (a2w (D7 hr (a7 4) (a7 3)) (a2w (D7 hr (a7 5) (a7 3)) (a1R (b1k (l7 c9 hr (a8 (a7 0) (a8 b8 a9))) b8))))) (b9 (K5 (G1 (a7 2) (a8 (m6 (a8 (a7 4) (a8 (a7 5) a9))) a9)))
  (c7 (g9 3 nd (m7 (a7 3) (t6 (a8 (a7 4) (a8 (a7 5) a9))))))) t3)))
  (c7 (j6 (m7 (a7 2) (z7 (N:=["person","held_v"]) (js:=[none,some 3]) (li:=none) rfl (A1 (by exact(.own (.cap rfl rfl rfl rfl .nil))) rfl (by exact⟨rfl,trivial⟩) (by rfl)) (G8 (K1 g7 (a8 (j0 hr (a7 1) b8) a9))) (fun _ _ _ _=>(c8 0 (show((["person","held_v"]:List Str)++[accN]).Nodup by decide +kernel))) (fun _ _ _ _=>(a1S rfl (D7 hr (a7 0) (a7 1)))) (fun _ _ _ _=>(m6 (a8 (a7 0) a9))))))))))),?_⟩
 intro p n ts hw;have hn:=hw.n1;have hlen:=hw.len;have lw:=Z6 n ts;have ix0:oIxG (webD n ts) (.int 0)=some (.v (.int n)):=rfl;have ix1:oIxG (webD n ts) (.int 1)=some (.v (.tup (ts.map tieD))):=rfl;have lp:∀q,lfC (poolD q)=true:=fun q=>rfl;have r1:(-(2^62:Int)<=n/\n<2^62):=by walk_at "o"
 repeat(first|walk_at "z r" | simp only[ix1])
 generalize el:loopF _ _ _=r;refine B8 el (fun i ρ=>∃(q:Int) (ks:List (List Int)) (hs:List Int) (o4 o5 o6:Option D),ρ=[some (.l (poolD q)),some (.v (webD n ts)),some (.o (.lst (ks.map tupI))),some (.o (.lst (hs.map .int))),o4.map .v,o5.map .v,o6.map .v]/\(∀k∈ks,k∈parK n ts)/\ks.flatten=hs/\hs.Nodup/\∀x∈hs,0<=x/\x<n) ⟨p,[],[],none,none,none,rfl,(fun _ h=>by cases h),rfl,nodup_nil,(fun _ h=>by cases h)⟩ ?_ ?_
 ·rintro i x _ hx ⟨q,ks,hs,o4,o5,o6,rfl,hk,hf,nd,rg⟩;rw[zV] at hx;cases hi:ts[i]? with
  | none=>rw[hi] at hx;cases hx
  | some t=>
   rw[hi] at hx;cases hx;have mt:=qX hi;have ht:=hw.t t mt;have hl8:hs.length<=8:=by
    have:=a5y (l:=hs) (m:=up n.toNat) nd fun x hx=>A6.mpr (by have:=rg x hx;walk_at "o")
    rw[v5] at this;walk_at "o"
   have kl8:ks.length<=8:=by
    have:=W2 (gs:=ks) fun k h=>(A5 hw (hk k h)).2.1
    rw[hf] at this;walk_at "o"
   have c1:∀y:Int,oInG true (.int y) (.lst (hs.map .int))=some (.v (.bl (!decide (y∈hs)))):=fun y=>by
    have:=a1W (b:=true) (n:=y) (m5 hs)
    rw[nb_t] at this;exact this
   obtain⟨j,q',hj,ej⟩:=g5 q 3 (by decide) (by decide)
   have lh:=j5 hs;unfold tieD
   by_cases m1:t.1∈hs
   ·have d1:=c1 t.1;rw[qL m1] at d1;refine⟨_,?_,q,ks,hs,some (.int t.1),some (.int t.2.1),some (.int t.2.2),rfl,hk,hf,nd,rg⟩
    repeat(first|walk_at "z r" | simp only[d1])
   ·have d1:=c1 t.1;rw[qK m1] at d1
    by_cases m2:t.2.1∈hs
    ·have d2:=c1 t.2.1;rw[qL m2] at d2;refine⟨_,?_,q,ks,hs,some (.int t.1),some (.int t.2.1),some (.int t.2.2),rfl,hk,hf,nd,rg⟩
     repeat(first|walk_at "z r" | simp only[d1,d2])
    ·have d2:=c1 t.2.1;rw[qK m2] at d2
     by_cases m3:0<j
     ·have d3:decide (j>0)=true:=qL m3;have h1:ks.length<1000000:=by walk_at "o"
      have h2:hs.length<=999998:=by walk_at "o"
      refine⟨[some (.l (poolD q')),some (.v (webD n ts)),some (.o (.lst ((ks++[[t.1,t.2.1]]).map tupI))),some (.o (.lst ((hs++[t.1,t.2.1]).map .int))),some (.v (.int t.1)),some (.v (.int t.2.1)),some (.v (.int t.2.2))],?_,q',ks++[[t.1,t.2.1]],hs++[t.1,t.2.1],some (.int t.1),some (.int t.2.1),some (.int t.2.2),rfl,?_,?_,?_,?_⟩
      ·rw[zL,zL]
       repeat(first|walk_at "z r" | simp only[d1,d2,ej,lp,d3,h1,h2,zC])
       try rfl
      ·intro k h;rcases qG.mp h with z|z
       ·exact hk k z
       ·rw[zN.mp z];exact a2N.mpr (.inr (zZ.mpr ⟨t,mt,rfl⟩))
      ·rw[qY,hf];rfl
      ·refine jR.mpr ⟨nd,by simp;walk_at "o",fun a ha b hb e=>?_⟩
       subst e;rcases(by simpa using hb:a=t.1\/a=t.2.1) with rfl|rfl
       ·exact m1 ha
       ·exact m2 ha
      ·intro x h;rcases qG.mp h with z|z
       ·exact rg x z
       ·rcases(by simpa using z:x=t.1\/x=t.2.1) with rfl|rfl<;>walk_at "o"
     ·have d3:decide (j>0)=false:=qK m3;refine⟨_,?_,q',ks,hs,some (.int t.1),some (.int t.2.1),some (.int t.2.2),rfl,hk,hf,nd,rg⟩
      repeat(first|walk_at "z r" | simp only[d1,d2,ej,lp,d3])
 ·rintro _ rfl ⟨q,ks,hs,o4,o5,o6,rfl,hk,hf,nd,rg⟩;have rm:=a5E n hs;have rl:=a43 n hs;have pm:(ks++restK n hs).flatten.Perm (up n.toNat):=by
   rw[qY,hf,a3I];exact a1i nd (T4 _) fun x hx=>A6.mpr (by have:=rg x hx;walk_at "o")
  have pa:∀k∈ks++restK n hs,k∈parK n ts:=fun k h=>by
   rcases qG.mp h with z|z
   ·exact hk k z
   ·exact a2u (by walk_at "o") k z
  have ln:(ks++restK n hs).length<=8:=by
   have:=W2 (gs:=ks++restK n hs) fun k h=>(A5 hw (pa k h)).2.1
   rw[pm.length_eq,v5] at this;walk_at "o"
  refine⟨ks++restK n hs,q,pa,pm,ln,?_⟩;rw[zM] at ln;have lk:=k7 ks;have lh:=j5 hs;have l1:ks.length+(restK n hs).length<=1000000:=by walk_at "o"
  repeat(first|walk_at "z r" | simp only[lk])
  rw[t8 (ρ1:=[some (.l (poolD q)),some (.v (webD n ts)),some (.o (.lst (ks.map tupI))),some (.o (.lst (hs.map .int))),o4.map .v,o5.map .v,o6.map .v]) (xs:=rngD 0 n.toNat) (fun B=>∃o1:Option D,B=[o1.map .v,some (.v (.lst (hs.map .int)))]) (notH hs) oneH]
  ·rw[rm,zL];have lr:=k7 (restK n hs)
   repeat(first|walk_at "z r" | simp only[lk,lr,lp,l1,zC])
   try rfl
  ·repeat(first|walk_at "z r" | simp only[ix0,r1,lh])
  ·rintro _ ⟨_,rfl⟩;rfl
  ·exact⟨none,rfl⟩
  ·rw[w9];unfold lim;walk_at "o"
  ·rw[rm];exact k7 _
  ·rintro x hx _ zs ⟨o1,rfl⟩;obtain⟨i,rfl,_⟩:=C5 hx;have c1:oInG true (.int i) (.lst (hs.map .int))=some (.v (.bl (!decide (i∈hs)))):=by
    have:=a1W (b:=true) (n:=i) (m5 hs)
    rw[nb_t] at this;exact this
   refine⟨[some (.v (.int i)),some (.v (.lst (hs.map .int)))],.v (tupI [i]),⟨some _,rfl⟩,?_,?_,fun _=>⟨?_,.inl rfl⟩⟩
   ·walk_at "q"
   ·rw[show notH hs (.int i)= !decide (i∈hs) from rfl]
    repeat(first|walk_at "z r" | simp only[c1])
   ·rw[show tupI [i]= .tup [.int i] from rfl];walk_at "q"
def nearH (h:Int) (hs:List Int):D->Bool
 | .tup [.int x,.int y,.int _]=>decide (h∈[x,y]) && !decide (x+y-h∈hs)
 | _=>false
def nearT (h:Int) (hs:List Int) (ts:List Tie):List Tie:=ts.filter fun t=>decide (h∈[t.1,t.2.1]) && !decide (t.1+t.2.1-h∈hs)
theorem b09 (h:Int)(hs:List Int)(ts:List Tie):((ts.map tieD).filter (nearH h hs)).map id=(nearT h hs ts).map tieD:=by
 rw[map_id,filter_map];rfl
theorem a6l {n:Int}{hs:List Int}(nd:hs.Nodup)(rg:∀x∈hs,0<=x/\x<n):(hs++hs++((restK n hs).flatten++(restK n hs).flatten)).Perm (up2 n):=by
 have p:(hs++(restK n hs).flatten).Perm (up n.toNat):=by
  rw[a3I];exact a1i nd (T4 _) fun x hx=>A6.mpr (by have:=rg x hx;walk_at "o")
 refine List.Perm.trans ?_ (p.append p);refine perm_iff_count.mpr fun a=>?_;simp only[count_append];walk_at "o"
abbrev S1:Stmt:=top 36
theorem a0M:FnScope ["pool","web","here","held_v","found","turn","near","tie"] ["pool","web"] (defScope S1):=by walk_at "c"
def a1I (g:LL):Prop:=∀(p n:Int) (ts:List Tie),WebOk n ts->∃(R:List (List Int)) (q:Int),DbOk n ts R/\g (poolD p) [webD n ts]=some (.o (.lst (R.map tupI)),poolD q)
theorem a4H {j9:LL}(c9:FnL P w K mg base "_law_take" k j9)(g5:A9 j9)(g7:mg "range"=none)(m_len:mg "len"=none)(m_sum:mg "sum"=none)(F:Fun K "_law_went" "_law_went" S1 f fd)(B:Binds K fd ["pool","web"] [])(hm:mg "_law_went"=some (.ref f)):∃g,FnL P w K mg base "_law_went" (k+1) g/\a1I g:=by
 have nd:=a0M.nd
 refine⟨_,a0d F a0M B hm rfl rfl (fun cdv A outer s H E hr=>(b9 (g9 2 nd (l7 c9 hr (a8 (a7 0) (a8 (j0 hr (a7 1) b8) a9))))
  (b9 (g9 3 nd (t6 (a8 (a7 2) a9)))
  (b9 (g9 4 nd (t6 (a8 (m6 (a8 (a7 2) a9)) a9)))
  (b9 (A7 zU rfl (K1 g7 (a8 (j0 hr (a7 1) b8) a9)) (c8 5 nd) (b9 (b2l 6 nd (b0U (N:=["tie","here","held_v"]) (js:=[none,some 2,some 3]) (li:=none) rfl (A1 (by exact(.own (.cap rfl rfl rfl rfl (.cap rfl rfl rfl rfl .nil)))) rfl (by exact⟨rfl,⟨rfl,trivial⟩⟩) (by rfl)) (G8 (J5 (j0 hr (a7 1) b8))) (fun _ _ _ _=>(c8 0 (show((["tie","here","held_v"]:List Str)++[accN]).Nodup by decide +kernel))) (fun _ _ _ _=>(a1S rfl (a0C (a2w (b4s hr (a7 1) (T7 (a7 0) a0R (a0H b8))) (a1R (D7 hr (V2 (qx_b ((a8p rfl).or (a8S rfl)) b17 m_sum (a8 (T7 (a7 0) a0R (a0H b8)) a9)) (a7 1)) (a7 2))))))) (fun _ _ _ _=>(a7 0))))
  (c7 (w8 (a0C (a2w (a7v hr (a7 6) (t6 a9)) (a1R (b1k (l7 c9 hr (a8 (a7 0) (a8 b8 a9))) b8)))) (b9 (g9 7 nd (j0 hr (a7 6) (l7 c9 hr (a8 (a7 0) (a8 (qx_b r6 M9 m_len (a8 (a7 6) a9)) a9)))))
  (b9 (g9 2 nd (V2 (m7 (j0 hr (a7 7) b8) (j0 hr (a7 7) b8)) (a7 2)))
  (b9 (K5 (G1 (a7 3) (a8 (a7 2) a9)))
  (c7 (K5 (G1 (a7 4) (a8 (T7 (a7 7) a0R (a0H b8)) a9))))))) t3))))
  (c7 (j6 (m7 (m7 (a7 4) (t6 (a8 (m6 (a8 (a7 2) a9)) a9))) (a68 b8 (z7 (N:=["person","held_v"]) (js:=[none,some 3]) (li:=none) rfl (A1 (by exact(.own (.cap rfl rfl rfl rfl .nil))) rfl (by exact⟨rfl,trivial⟩) (by rfl)) (G8 (K1 g7 (a8 (j0 hr (a7 1) b8) a9))) (fun _ _ _ _=>(c8 0 (show((["person","held_v"]:List Str)++[accN]).Nodup by decide +kernel))) (fun _ _ _ _=>(a1S rfl (D7 hr (a7 0) (a7 1)))) (fun _ _ _ _=>(m6 (a8 (a7 0) a9))))))))))))),?_⟩
 intro p n ts hw;have hn:=hw.n1;have hlen:=hw.len;have lw:=Z6 n ts;have ix0:oIxG (webD n ts) (.int 0)=some (.v (.int n)):=rfl;have ix1:oIxG (webD n ts) (.int 1)=some (.v (.tup (ts.map tieD))):=rfl;have lp:∀q,lfC (poolD q)=true:=fun q=>rfl;have r1:(-(2^62:Int)<=n/\n<2^62):=by walk_at "o"
 obtain⟨h0,p0,hh0,e0⟩:=g5 p n (by walk_at "o") (by walk_at "o")
 repeat(first|walk_at "z r" | simp only[ix0,e0,lp,r1])
 generalize el:loopF _ _ _=r;refine B8 el (fun i ρ=>∃(q h:Int) (ks:List (List Int)) (hs:List Int) (x5 x6 x7:Option W),ρ=[some (.l (poolD q)),some (.v (webD n ts)),some (.v (.int h)),some (.o (.lst (hs.map .int))),some (.o (.lst (ks.map tupI))),x5,x6,x7]/\freeO x5=true/\freeO x6=true/\freeO x7=true/\(∀k∈ks,k∈parK n ts)/\(ks.flatten++[h]).Perm (hs++hs)/\hs.Nodup/\(∀x∈hs,0<=x/\x<n)/\0<=h/\h<n) ⟨p0,h0,[[h0]],[h0],none,none,none,rfl,rfl,rfl,rfl,?_,xP _,by simp,?_,hh0⟩ ?_ ?_
 ·intro k hk;rw[zN.mp hk];exact K4 hh0
 ·intro x hx;rw[zN.mp hx];exact hh0
 ·rintro i x _ hx ⟨q,h,ks,hs,x5,x6,x7,rfl,f5,f6,f7,hk,hp,nd,rg,hr⟩;obtain⟨rfl,hi⟩:=R8 hx;have hl8:hs.length<=8:=by
   have:=a5y (l:=hs) (m:=up n.toNat) nd fun x hx=>A6.mpr (by have:=rg x hx;walk_at "o")
   rw[v5] at this;walk_at "o"
  have kl:ks.length<=16:=by
   have:=W2 (gs:=ks) fun k h=>(A5 hw (hk k h)).2.1
   have:=hp.length_eq
   simp only[zM,jK] at this;walk_at "o"
  have nm:=b09 h hs ts;have ln:=X1 (nearT h hs ts);have nl:(nearT h hs ts).length<=55:=qC (List.length_filter_le _ _) hlen;have lh:=j5 hs
  repeat(first|walk_at "z i" | simp only[f5,ix1,lh])
  rw[t8 (ρ1:=[some (.l (poolD q)),some (.v (webD n ts)),some (.v (.int h)),some (.o (.lst (hs.map .int))),some (.o (.lst (ks.map tupI))),some (.v (.int (0+(i:Int)))),x6,x7]) (xs:=ts.map tieD) (fun B=>∃o1:Option D,B=[o1.map .v,some (.v (.int h)),some (.v (.lst (hs.map .int)))]) (nearH h hs) id]
  ·rw[nm];cases hN:nearT h hs ts with
   | nil=>
    have d0:deq 20 (.lst []) (.lst [])=some true:=rfl;have d1:deqL (deq 19) [] []=some true:=rfl;refine⟨_,?_,q,h,ks,hs,some (.v (.int (0+(i:Int)))),some (.o (.lst [])),x7,rfl,rfl,rfl,f7,hk,hp,nd,rg,hr⟩
    repeat(first|walk_at "z r" | simp only[f6,d0,d1])
   | cons t0 tr=>
    rw[hN] at ln nl;have d0:deq 20 (.lst ((t0::tr).map tieD)) (.lst [])=some false:=rfl;have d1:deqL (deq 19) ((t0::tr).map tieD) []=some false:=rfl;have d2:deqL (deq 19) (tieD t0::tr.map tieD) []=some false:=rfl;obtain⟨j,q1,hj,ej⟩:=g5 q 8 (by decide) (by decide)
    by_cases c:0<j
    ·have dc:decide (j>0)=true:=qL c;obtain⟨j2,q2,hj2,ej2⟩:=g5 q1 (((t0::tr).length:Nat):Int) (by rw[qJ];walk_at "o") (by walk_at "o")
     obtain⟨t,ht⟩:∃t,(t0::tr)[j2.toNat]? =some t:=⟨_,qB (by walk_at "o")⟩
     have mt:t∈nearT h hs ts:=by rw[hN];exact qX ht
     have mt:=qW.mp mt;rw[jJ,Bool.not_eq_true',yV,decide_eq_false_iff_not] at mt;have tt:=hw.t t mt.1;have hin:h=t.1\/h=t.2.1:=by simpa using mt.2.1
     obtain⟨h',eh,hh'⟩:∃h',t.1+t.2.1-h=h'/\h'∉hs:=⟨_,rfl,mt.2.2⟩;have xt:atI ((t0::tr).map tieD) j2=some (.tup [.int t.1,.int t.2.1,.int t.2.2]):=a1j hj2.1 (by rw[zV,ht];rfl)
     have h1:hs.length<1000000:=by walk_at "o"
     have h2:ks.length<1000000:=by walk_at "o"
     have lt:lf (.tup [.int t.1,.int t.2.1,.int t.2.2])=true:=rfl;generalize hL:t0::tr=L at *;refine⟨[some (.l (poolD q2)),some (.v (webD n ts)),some (.v (.int h')),some (.o (.lst ((hs++[h']).map .int))),some (.o (.lst ((ks++[[t.1,t.2.1]]).map tupI))),some (.v (.int (0+(i:Int)))),some (.o (.lst (L.map tieD))),some (.v (.tup [.int t.1,.int t.2.1,.int t.2.2]))],?_,q2,h',ks++[[t.1,t.2.1]],hs++[h'],some (.v (.int (0+(i:Int)))),some (.o (.lst (L.map tieD))),some (.v (.tup [.int t.1,.int t.2.1,.int t.2.2])),rfl,rfl,rfl,rfl,?_,?_,?_,?_,?_⟩
     ·rw[zL,zL]
      repeat(first|walk_at "z r" | simp only[f6,f7,d0,d1,ej,ej2,lp,dc,ln,zC,xt,lt,eh,h1,h2,a4B])
      try rfl
     ·intro k hk';rcases qG.mp hk' with z|z
      ·exact hk k z
      ·rw[zN.mp z];exact a2N.mpr (.inr (zZ.mpr ⟨t,mt.1,rfl⟩))
     ·rw[qY,List.flatten_singleton];refine perm_iff_count.mpr fun a=>?_
      have:=hp.count_eq a
      have key:[t.1,t.2.1].count a=[h].count a+[h'].count a:=by
       rw[<-count_append];refine List.Perm.count_eq ?_ a;rcases hin with e|e
       ·rw[<-e,show t.2.1=h' by walk_at "o"];exact xP _
       ·rw[<-e,show t.1=h' by walk_at "o"];exact List.Perm.swap _ _ _
      simp only[count_append] at *;walk_at "o"
     ·exact jR.mpr ⟨nd,by simp,fun a ha b hb e=>by subst e;rw[zN.mp hb] at ha;exact hh' ha⟩
     ·intro x hx';rcases qG.mp hx' with z|z
      ·exact rg x z
      ·rw[zN.mp z];walk_at "o"
     ·walk_at "o"
    ·have dc:decide (j>0)=false:=qK c;refine⟨_,?_,q1,h,ks,hs,some (.v (.int (0+(i:Int)))),some (.o (.lst ((t0::tr).map tieD))),x7,rfl,rfl,rfl,f7,hk,hp,nd,rg,hr⟩
     repeat(first|walk_at "z r" | simp only[f6,d0,d1,d2,ej,lp,dc])
  ·repeat(first|walk_at "z r" | simp only[ix1,lh])
  ·rintro _ ⟨_,rfl⟩;rfl
  ·exact⟨none,rfl⟩
  ·rw[zC];unfold lim;walk_at "o"
  ·rw[nm];exact ln
  ·rintro x hx _ zs ⟨o1,rfl⟩;obtain⟨t,ht,rfl⟩:=zZ.mp hx;have g1:oInG false (.int h) (.tup [.int t.1,.int t.2.1])=some (.v (.bl (decide (h∈[t.1,t.2.1])))):=by
    have:=b2h (b:=false) (n:=h) (m5 [t.1,t.2.1])
    rw[nb_f] at this;exact this
   have g2:oInG true (.int (t.1+t.2.1-h)) (.lst (hs.map .int))=some (.v (.bl (!decide (t.1+t.2.1-h∈hs)))):=by
    have:=a1W (b:=true) (n:=t.1+t.2.1-h) (m5 hs)
    rw[nb_t] at this;exact this
   have sm:gSumG (.tup [.int t.1,.int t.2.1])=some (.v (.int (t.1+t.2.1))):=by
    have:=b3M (m5 [t.1,t.2.1])
    rw[show[t.1,t.2.1].sum=t.1+t.2.1 by simp] at this
    exact this
   refine⟨[some (.v (.tup [.int t.1,.int t.2.1,.int t.2.2])),some (.v (.int h)),some (.v (.lst (hs.map .int)))],.v (.tup [.int t.1,.int t.2.1,.int t.2.2]),⟨some _,rfl⟩,?_,?_,fun _=>⟨?_,.inl rfl⟩⟩
   ·unfold tieD;walk_at "q"
   ·rw[show nearH h hs (tieD t)=(decide (h∈[t.1,t.2.1]) && !decide (t.1+t.2.1-h∈hs)) from rfl];generalize (!decide (t.1+t.2.1-h∈hs))=E2 at g2 ⊢;cases e1:decide (h∈[t.1,t.2.1]) with
    | false=>
     rw[e1] at g1
     repeat(first|walk_at "z r" | simp only[a4B,g1,yW])
    | true=>
     rw[e1] at g1
     repeat(first|walk_at "z r" | simp only[a4B,g1,sm,g2,Bool.true_and])
   ·walk_at "q"
 ·rintro _ rfl ⟨q,h,ks,hs,x5,x6,x7,rfl,f5,f6,f7,hk,hp,nd,rg,hr⟩;have rm:=a5E n hs;have rl:=a43 n hs;have db:DbOk n ts (ks++[[h]]++(restK n hs++restK n hs)):=by
   refine⟨fun k hk'=>?_,?_⟩
   ·simp only[qG,zN] at hk';rcases hk' with (z|z)|z|z
    ·exact hk k z
    ·rw[z];exact K4 hr
    ·exact a2u (by walk_at "o") k z
    ·exact a2u (by walk_at "o") k z
   ·rw[qY,qY,qY,List.flatten_singleton];exact(hp.append_right _).trans (a6l nd rg)
  have dl:=db.len hw;refine⟨_,q,db,?_⟩;simp only[zM,jK] at dl;have lk:=k7 ks;have lh:=j5 hs;have l1:ks.length<=999999:=by walk_at "o"
  have l2:ks.length+1<=1000000:=by walk_at "o"
  have l3:ks.length+1+((restK n hs).length+(restK n hs).length)<=1000000:=by walk_at "o"
  have rp:=a9W (xs:=(restK n hs).map tupI) (by rw[zC];walk_at "o")
  repeat(first|walk_at "z r" | simp only[lk,l1,l2,zC])
  rw[t8 (ρ1:=[some (.l (poolD q)),some (.v (webD n ts)),some (.v (.int h)),some (.o (.lst (hs.map .int))),some (.o (.lst (ks.map tupI))),x5,x6,x7]) (xs:=rngD 0 n.toNat) (fun B=>∃o1:Option D,B=[o1.map .v,some (.v (.lst (hs.map .int)))]) (notH hs) oneH]
  ·rw[rm,zL,zL,zL];have lr:=k7 (restK n hs)
   repeat(first|walk_at "z r" | simp only[lk,lr,lp,rp,l1,l2,l3,zC,zM])
   try rfl
  ·repeat(first|walk_at "z r" | simp only[ix0,r1,lh])
  ·rintro _ ⟨_,rfl⟩;rfl
  ·exact⟨none,rfl⟩
  ·rw[w9];unfold lim;walk_at "o"
  ·rw[rm];exact k7 _
  ·rintro x hx _ zs ⟨o1,rfl⟩;obtain⟨i,rfl,_⟩:=C5 hx;have c1:oInG true (.int i) (.lst (hs.map .int))=some (.v (.bl (!decide (i∈hs)))):=by
    have:=a1W (b:=true) (n:=i) (m5 hs)
    rw[nb_t] at this;exact this
   refine⟨[some (.v (.int i)),some (.v (.lst (hs.map .int)))],.v (tupI [i]),⟨some _,rfl⟩,?_,?_,fun _=>⟨?_,.inl rfl⟩⟩
   ·walk_at "q"
   ·rw[show notH hs (.int i)= !decide (i∈hs) from rfl]
    repeat(first|walk_at "z r" | simp only[c1])
   ·rw[show tupI [i]= .tup [.int i] from rfl];walk_at "q"
def ringK (m:Nat):List (List Int):=((up m).map fun p=>[p,p+1])++[[0,(m:Int)]]
def midK (m n:Nat):List (List Int):=((List.range (n-m-1)).map fun(i:Nat)=>((m:Int)+1+i)).map fun i=>[i]
theorem a7Q (i:Nat):up (i+1)=up i++[(i:Int)]:=by
 unfold up;rw[range_succ,zL];simp
theorem a3d:∀m:Nat,(ringK m).flatten.Perm (up (m+1)++up (m+1))
 | 0=>xP _
 | m+1=>by
  have ih:=a3d m;refine perm_iff_count.mpr fun a=>?_
  have:=ih.count_eq a
  unfold ringK at *;rw[a7Q (m+1),a7Q m] at *;simp only[zL,zH,xW,qY,jP,List.flatten_nil,xD,count_append,List.count_cons,List.count_nil,Int.natCast_add,Int.natCast_one] at *;generalize (if((m:Int)==a)=true then 1 else 0)=A at *;generalize (if((m:Int)+1==a)=true then 1 else 0)=C at *;generalize (if((0:Int)==a)=true then 1 else 0)=Z0 at *;walk_at "o"
theorem b39 {m n:Nat}(h:m<n):up n=up (m+1)++(List.range (n-m-1)).map fun(i:Nat)=>((m:Int)+1+i):=by
 unfold up;rw[show n=m+1+(n-m-1) by walk_at "o",List.range_add,zL,qF]
 congr 1;rw[show m+1+(n-m-1)-m-1=n-m-1 by walk_at "o"]
 refine jL fun i _=>?_;show(0:Int)+((m+1+i:Nat):Int)=_;walk_at "o"
theorem b0N {m n:Nat}(h:m<n):(ringK m++(midK m n++midK m n)).flatten.Perm (up n++up n):=by
 rw[qY,qY];have e:(midK m n).flatten=(List.range (n-m-1)).map fun(i:Nat)=>((m:Int)+1+i):=X7 _;rw[e,b39 h];refine perm_iff_count.mpr fun a=>?_
 have:=(a3d m).count_eq a
 simp only[count_append] at *;walk_at "o"
def pairH:D->D
 | .int p=>tupI [p,p+1]
 | _=>.non
theorem b1o (m:Nat):((rngD 0 m).filter fun _=>true).map pairH=((up m).map fun p=>[p,p+1]).map tupI:=by
 rw[q8,<-a05,qF,qF];rfl
def inKB (n:Int) (ts:List Tie):D->Bool
 | .tup xs=>match intsOf xs with
  | some k=>decide (k∈parK n ts)
  | none=>false
 | _=>false
theorem a5z (n:Int)(ts:List Tie)(k:List Int):inKB n ts (tupI k)=decide (k∈parK n ts):=by
 unfold inKB tupI;dsimp only;rw[m5]
theorem b1D (m:Int)(n:Nat):((rngD m n).filter fun _=>true).map oneH=(((List.range n).map fun(i:Nat)=>(m+i)).map fun i=>[i]).map tupI:=by
 rw[q8];unfold rngD;rw[qF,qF,qF];rfl
abbrev M0:Stmt:=top 37
theorem W4:FnScope ["web","gains_v","last","some"] ["web"] (defScope M0):=by walk_at "c"
def Y2 (g:LO):Prop:=∀(n:Int) (ts:List Tie),WebOk n ts->∃R:List (List Int),DbOk n ts R/\g [webD n ts]=some (.o (.lst (R.map tupI)))
theorem a2x {t9:LO}(u6:Fn P w K mg base "_law_gains" k t9)(u4:F7 t9)(g7:mg "range"=none)(m_all:mg "all"=none)(F:Fun K "_law_ringed" "_law_ringed" M0 f fd)(B:Binds K fd ["web"] [])(hm:mg "_law_ringed"=some (.ref f)):∃g,Fn P w K mg base "_law_ringed" (k+1) g/\Y2 g:=by
 have nd:=W4.nd
 refine⟨_,A8 F W4 B hm rfl rfl (fun cdv A outer s H E hr=>(b9 (g9 1 nd (n9 u6 hr (a8 (a7 0) a9)))
  (b9 (A7 zU rfl (qi_r3 g7 (a8 (V2 (j0 hr (a7 0) b8) b8) (a8 b8 (a8 (M2 b8) a9)))) (c8 2 nd) (b9 (g9 3 nd (m7 (z7 (N:=["person"]) (js:=[none]) (li:=none) rfl (A1 (by exact(.own .nil)) rfl (by exact trivial) (by rfl)) (G8 (K1 g7 (a8 (a7 2) a9))) (fun _ _ _ _=>(c8 0 (show((["person"]:List Str)++[accN]).Nodup by decide +kernel))) (fun _ _ _ _=>B6) (fun _ _ _ _=>(m6 (a8 (a7 0) (a8 (m7 (a7 0) b8) a9))))) (t6 (a8 (m6 (a8 b8 (a8 (a7 2) a9))) a9))))
  (c7 (w8 (S3 (qx_b (N7 rfl) N6 m_all (a8 (z7 (N:=["party","gains_v"]) (js:=[none,some 1]) (li:=none) rfl (A1 (by exact(.own (.cap rfl rfl rfl rfl .nil))) rfl (by exact⟨rfl,trivial⟩) (by rfl)) (J7 3) (fun _ _ _ _=>(c8 0 (show((["party","gains_v"]:List Str)++[accN]).Nodup by decide +kernel))) (fun _ _ _ _=>B6) (fun _ _ _ _=>(a81 hr (a7 0) (a7 1)))) a9))) (c7 (j6 (m7 (a7 3) (a68 b8 (z7 (N:=["person"]) (js:=[none]) (li:=none) rfl (A1 (by exact(.own .nil)) rfl (by exact trivial) (by rfl)) (G8 (b0w g7 (a8 (m7 (a7 2) b8) (a8 (j0 hr (a7 0) b8) a9)))) (fun _ _ _ _=>(c8 0 (show((["person"]:List Str)++[accN]).Nodup by decide +kernel))) (fun _ _ _ _=>B6) (fun _ _ _ _=>(m6 (a8 (a7 0) a9)))))))) t3))))
  (c7 (j6 (a2c (z7 (N:=["person"]) (js:=[none]) (li:=none) rfl (A1 (by exact(.own .nil)) rfl (by exact trivial) (by rfl)) (G8 (K1 g7 (a8 (j0 hr (a7 0) b8) a9))) (fun _ _ _ _=>(c8 0 (show((["person"]:List Str)++[accN]).Nodup by decide +kernel))) (fun _ _ _ _=>B6) (fun _ _ _ _=>(m6 (a8 (a7 0) a9)))) b8)))))),?_⟩
 intro n ts hw;have hn:=hw.n1;have lw:=Z6 n ts;have eg:=u4 n ts hw;have lg:=a1r n ts;have ix0:oIxG (webD n ts) (.int 0)=some (.v (.int n)):=rfl;have kl:(oneK n.toNat++ts.map tkK).length=(List.replicate n.toNat (D.int 0)++ts.map fun t=>D.int t.2.2).length:=by
  unfold oneK;simp
 have mk:∀k,memK (k.map (Sum.inl:Int->Key)) (oneK n.toNat++ts.map tkK)=decide (k∈parK n ts):=fun k=>a2b;have r3:(-(2^61:Int)<=n-1/\n-1<2^61)/\-(2^61:Int)<=1/\(1:Int)<2^61:=by walk_at "o"
 have r1:(-(2^62:Int)<=n/\n<2^62):=by walk_at "o"
 have dw:=fun ρ=>r_dw2 (ρ:=ρ) r3
 repeat(first|walk_at "z r" | simp only[eg,lg,lw,ix0,r_dw,dw])
 generalize oneK n.toNat++ts.map tkK=K at kl mk ⊢;generalize (List.replicate n.toNat (D.int 0)++ts.map fun t=>D.int t.2.2)=V at kl lg ⊢;generalize el:loopF _ _ _=r;refine a7j el (fun i ρ=>∃x2 x3:Option W,ρ=[some (.v (webD n ts)),some (.o (.dT K V)),x2,x3]/\freeO x2=true/\freeO x3=true) (fun w=>∃R:List (List Int),DbOk n ts R/\w= .o (.lst (R.map tupI))) ⟨none,none,rfl,rfl,rfl⟩ ?_ ?_ ?_
 ·rintro i x _ hx ⟨x2,x3,rfl,f2,f3⟩;unfold dwnD at hx;rw[zV] at hx
  by_cases hi:i<(n-1-1).toNat
  ·rw[jU hi] at hx;have ex:D.int (n-1-(i:Int))=x:=qV hx;subst ex;obtain⟨m,em,hm⟩:∃m:Nat,n-1-(i:Int)=(m:Int)/\m<n.toNat:=⟨(n-1-(i:Int)).toNat,by walk_at "o",by walk_at "o"⟩
   rw[em];have r2:(-(2^62:Int)<=(m:Int)/\(m:Int)<2^62):=by walk_at "o"
   have pm:=b1o m;have l1:m<=999999:=by walk_at "o"
   have el0:((up m).map fun p=>[p,p+1]).length=m:=by rw[zC,v5]
   have eR:((up m).map fun p=>[p,p+1]).map tupI++[.tup [.int 0,.int (m:Int)]]=(ringK m).map tupI:=by
    unfold ringK;rw[zL];rfl
   have lpr:=k7 ((up m).map fun p=>[p,p+1]);have lrg:=k7 (ringK m);have rl:(ringK m).length=m+1:=by unfold ringK;rw[zM,el0];rfl
   have tn:((m:Int)).toNat=m:=qQ m
   repeat(first|walk_at "z i" | simp only[f2])
   rw[t8 (ρ1:=[some (.v (webD n ts)),some (.o (.dT K V)),some (.v (.int (m:Int))),x3]) (xs:=rngD 0 m) (fun B=>∃o1:Option D,B=[o1.map .v]) (fun _=>true) pairH]
   ·rw[pm]
    repeat(first|walk_at "z i" | simp only[lpr,el0,l1,zC,f3])
    rw[eR];generalize hif:fIfS _ _ _ _=rr;obtain⟨q,hq,rfl⟩:∃q:Bool,(q=true->∀k∈ringK m,k∈parK n ts)/\rr=if q then some (.rt (.o (.lst ((ringK m++(midK m n.toNat++midK m n.toNat)).map tupI))) [some (.v (webD n ts)),some (.o (.dT K V)),some (.v (.int (m:Int))),some (.o (.lst ((ringK m).map tupI)))]) else some (.nx [some (.v (webD n ts)),some (.o (.dT K V)),some (.v (.int (m:Int))),some (.o (.lst ((ringK m).map tupI)))]):=by
     subst hif
     repeat(first|walk_at "z r" | simp only[lrg,lg])
     rw[t8 (ρ1:=[some (.v (webD n ts)),some (.o (.dT K V)),some (.v (.int (m:Int))),some (.o (.lst ((ringK m).map tupI)))]) (xs:=(ringK m).map tupI) (fun B=>∃o1:Option D,B=[o1.map .v,some (.v (.dT K V))]) (fun _=>true) (fun d=>.bl (inKB n ts d))]
     ·rw[q8];have gb:=a1l (r:=fun bs=>bs.all id) (C7 (inKB n ts) ((ringK m).map tupI));rw[J0] at gb;cases hA:((ringK m).map tupI).all (inKB n ts) with
      | false=>
       rw[hA] at gb;refine⟨false,fun h=>(by cases h),?_⟩
       rw[if_neg (by decide)]
       repeat(first|walk_at "z r" | simp only[gb])
      | true=>
       rw[hA] at gb;refine⟨true,fun _ k hk=>?_,?_⟩
       ·have:=xQ.mp hA (tupI k) (zZ.mpr ⟨k,hk,rfl⟩)
        rw[a5z] at this;exact xI this
       ·rw[if_pos rfl];have r4:((-(2^62:Int)<=(m:Int)+1/\(m:Int)+1<2^62)/\-(2^62:Int)<=n/\n<2^62):=by walk_at "o"
        have mm:=b1D ((m:Int)+1) (n-((m:Int)+1)).toNat;have em2:(((List.range (n-((m:Int)+1)).toNat).map fun(i:Nat)=>((m:Int)+1+i)).map fun i=>[i])=midK m n.toNat:=by
         unfold midK;rw[show(n-((m:Int)+1)).toNat=n.toNat-m-1 by walk_at "o"]
        rw[em2] at mm;have ml:(midK m n.toNat).length<=8:=by
         unfold midK;rw[zC,zC,length_range];walk_at "o"
        have rp:=a9W (xs:=(midK m n.toNat).map tupI) (by rw[zC];walk_at "o")
        have lm:=k7 (midK m n.toNat);have l3:m+1+((midK m n.toNat).length+(midK m n.toNat).length)<=1000000:=by walk_at "o"
        repeat(first|walk_at "z r" | simp only[gb,lrg])
        rw[t8 (ρ1:=[some (.v (webD n ts)),some (.o (.dT K V)),some (.v (.int (m:Int))),some (.o (.lst ((ringK m).map tupI)))]) (xs:=rngD ((m:Int)+1) (n-((m:Int)+1)).toNat) (fun B=>∃o1:Option D,B=[o1.map .v]) (fun _=>true) oneH]
        ·rw[mm,zL,zL]
         repeat(first|walk_at "z r" | simp only[lm,rp,lrg,rl,l3,zC,zM])
         try rfl
        ·repeat(first|walk_at "z r" | simp only[ix0,r4])
        ·rintro _ ⟨_,rfl⟩;rfl
        ·exact⟨none,rfl⟩
        ·rw[w9];unfold lim;walk_at "o"
        ·rw[mm];exact lm
        ·rintro x hx _ zs ⟨o1,rfl⟩;obtain⟨i,rfl,_⟩:=C5 hx;refine⟨[some (.v (.int i))],.v (tupI [i]),⟨some _,rfl⟩,?_,rfl,fun _=>⟨?_,.inl rfl⟩⟩
         ·walk_at "q"
         ·rw[show tupI [i]= .tup [.int i] from rfl];walk_at "q"
     ·repeat(first|walk_at "z r" | simp only[lrg])
     ·rintro _ ⟨_,rfl⟩;rfl
     ·exact⟨none,rfl⟩
     ·rw[zC,rl];unfold lim;walk_at "o"
     ·exact a1n _ _
     ·rintro x hx _ zs ⟨o1,rfl⟩;obtain⟨k,_,rfl⟩:=V1 hx;have t1:=a54 (b:=false) (d:=tupI k) (a1Q k) kl;rw[mk k,nb_f] at t1;rw[a5z];refine⟨[some (.v (tupI k)),some (.v (.dT K V))],.v (.bl (decide (k∈parK n ts))),⟨some _,rfl⟩,?_,rfl,fun _=>⟨?_,.inl rfl⟩⟩
      ·walk_at "q"
      ·repeat(first|walk_at "z r" | simp only[t1])
    cases q with
    | false=>
     refine .inl ⟨[some (.v (webD n ts)),some (.o (.dT K V)),some (.v (.int (m:Int))),some (.o (.lst ((ringK m).map tupI)))],?_,some (.v (.int (m:Int))),some (.o (.lst ((ringK m).map tupI))),rfl,rfl,rfl⟩;rw[if_neg (by decide)]
     try rfl
    | true=>
     refine .inr ⟨.o (.lst ((ringK m++(midK m n.toNat++midK m n.toNat)).map tupI)),[some (.v (webD n ts)),some (.o (.dT K V)),some (.v (.int (m:Int))),some (.o (.lst ((ringK m).map tupI)))],?_,_,⟨fun k hk=>?_,b0N hm⟩,rfl⟩
     ·rw[if_pos rfl]
      try rfl
     ·simp only[qG] at hk;have hmid:k∈midK m n.toNat->k∈parK n ts:=fun z=>by
       obtain⟨i,hi,rfl⟩:=zZ.mp z;obtain⟨j,hj,rfl⟩:=zZ.mp hi
       have:=jS.mp hj
       exact K4 ⟨by walk_at "o",by walk_at "o"⟩
      rcases hk with z|z|z
      ·exact hq rfl k z
      ·exact hmid z
      ·exact hmid z
   ·repeat(first|walk_at "z r" | simp only[r2,tn])
   ·rintro _ ⟨_,rfl⟩;rfl
   ·exact⟨none,rfl⟩
   ·rw[w9];unfold lim;walk_at "o"
   ·rw[pm];exact lpr
   ·rintro x hx _ zs ⟨o1,rfl⟩;obtain⟨i,rfl,_⟩:=C5 hx;refine⟨[some (.v (.int i))],.v (tupI [i,i+1]),⟨some _,rfl⟩,?_,rfl,fun _=>⟨?_,.inl rfl⟩⟩
    ·walk_at "q"
    ·rw[show tupI [i,i+1]= .tup [.int i,.int (i+1)] from rfl];walk_at "q"
  ·rw[jA (by simpa using hi)] at hx;cases hx
 ·rintro _ rfl ⟨x2,x3,rfl,f2,f3⟩;have om:((rngD 0 n.toNat).filter fun _=>true).map oneH=((up n.toNat).map fun i=>[i]).map tupI:=by
   rw[q8,<-a05,qF,qF];rfl
  have lo:=k7 ((up n.toNat).map fun i=>[i]);have ol:((up n.toNat).map fun i=>[i]).length<=8:=by rw[zC,v5];walk_at "o"
  have rp:=a38 (xs:=((up n.toNat).map fun i=>[i]).map tupI) (by rw[zC];walk_at "o")
  refine⟨((up n.toNat).map fun i=>[i])++(up n.toNat).map fun i=>[i],⟨fun k hk=>?_,?_⟩,?_⟩
  ·have hk:k∈(up n.toNat).map fun i=>[i]:=by rcases qG.mp hk with z|z<;>exact z
   obtain⟨i,hi,rfl⟩:=zZ.mp hk
   have:=A6.mp hi
   exact K4 ⟨this.1,by walk_at "o"⟩
  ·rw[qY,X7];exact xP _
  ·walk_at "q";rw[t8 (ρ1:=[some (.v (webD n ts)),some (.o (.dT K V)),x2,x3]) (xs:=rngD 0 n.toNat) (fun B=>∃o1:Option D,B=[o1.map .v]) (fun _=>true) oneH]
   ·rw[om,zL]
    repeat(first|walk_at "z r" | simp only[lo,rp])
    try rfl
   ·repeat(first|walk_at "z r" | simp only[ix0,r1])
   ·rintro _ ⟨_,rfl⟩;rfl
   ·exact⟨none,rfl⟩
   ·rw[w9];unfold lim;walk_at "o"
   ·rw[om];exact lo
   ·rintro x hx _ zs ⟨o1,rfl⟩;obtain⟨i,rfl,_⟩:=C5 hx;refine⟨[some (.v (.int i))],.v (tupI [i]),⟨some _,rfl⟩,?_,rfl,fun _=>⟨?_,.inl rfl⟩⟩
    ·walk_at "q"
    ·rw[show tupI [i]= .tup [.int i] from rfl];walk_at "q"
 ·rintro _ _ rfl ⟨R,hR,rfl⟩;refine⟨R,hR,?_⟩;have lR:=k7 R
  repeat(first|walk_at "z r" | simp only[lR])
theorem b4n {k:List Int}(h:k.length<=1000):PD (tupI k):=⟨rfl,fun xs e=>by
 injection e with e
 subst e
 exact⟨fun y hy=>by obtain⟨i,_,rfl⟩:=zZ.mp hy;rfl,by rw[zC];exact h⟩⟩
abbrev Od (d:D):Prop:=PD d
theorem a1k {k:List Int}(h:k.length<=1000):Od (tupI k):=b4n h
theorem a1U {d:D}(h1:isX d=false)(h2:isT d=false):Od d:=⟨h1,fun xs e=>by subst e;cases h2⟩
theorem a4z {d:D}(h1:isX d=false):Od (.tup [d]):=⟨rfl,fun xs e=>by
 injection e with e
 subst e
 exact⟨fun y hy=>by rw[zN.mp hy];exact h1,by simp⟩⟩
theorem b4v {L M:List D}(h:lfL L=false):lfL (L++M)=false:=by
 induction L with
 | nil=>cases h
 | cons d L ih=>
  rw[lfL] at h;rw[cons_append,lfL];cases e:lf d with
  | false=>rfl
  | true=>rw[e,Bool.true_and] at h;rw[ih h];rfl
theorem a4m {xs:List D}(h:∀d∈xs,Od d)(hl:xs.length<=20):PDs (.tup xs):=⟨rfl,fun ys e=>by
 injection e with e
 subst e
 exact⟨fun y hy=>h y hy,hl⟩⟩
def oddH (n:Int) (ts:List Tie) (a:Int):D->Bool
 | .int b=>!decide ([a,b]∈parK n ts)
 | _=>false
def twoH (a:Int):D->D
 | .int b=>tupI [a,b]
 | _=>.non
abbrev a0a:Stmt:=top 38
theorem a1y:FnScope ["pool","web","party","gains_v","some","a"] ["pool","web","party"] (defScope a0a):=by walk_at "c"
def a18 (g:LL):Prop:=∀(p n:Int) (ts:List Tie) (k:List Int),WebOk n ts->k∈parK n ts->∃(d:D) (q:Int),Od d/\g (poolD p) [webD n ts,tupI k]=some (.v d,poolD q)
theorem a5v {t9:LO}{j9:LL}(u6:Fn P w K mg base "_law_gains" k t9)(u4:F7 t9)(c9:FnL P w K mg base "_law_take" k j9)(g5:A9 j9)(g7:mg "range"=none)(v4:mg "list"=none)(m_len:mg "len"=none)(F:Fun K "_law_odd" "_law_odd" a0a f fd)(B:Binds K fd ["pool","web","party"] [])(hm:mg "_law_odd"=some (.ref f)):∃g,FnL P w K mg base "_law_odd" (k+1) g/\a18 g:=by
 have nd:=a1y.nd
 refine⟨_,a0d F a1y B hm rfl rfl (fun cdv A outer s H E hr=>(b9 (g9 3 nd (n9 u6 hr (a8 (a7 1) a9)))
  (b9 (g9 4 nd (t6 (a8 (b1y (b4z (a7 2)) (m6 (a8 b8 a9))) (a8 (m6 a9) (a8 (N8 rfl v4 (a8 (a7 2) a9)) (a8 U2 (a8 (j0 hr (a7 2) b8) (a8 (m6 (a8 a1F a9)) (a8 (m6 (a8 a1F a9)) (a8 (m6 (a8 (j0 hr (a7 1) b8) a9)) (a8 (m6 (a8 (M2 b8) a9)) (a8 a9G a9))))))))))))
  (b9 (A7 zU rfl (K1 g7 (a8 (j0 hr (a7 1) b8) a9)) (c8 5 nd) (c7 (g9 4 nd (m7 (a7 4) (z7 (N:=["b","a","gains_v"]) (js:=[none,some 5,some 3]) (li:=none) rfl (A1 (by exact(.own (.cap rfl rfl rfl rfl (.cap rfl rfl rfl rfl .nil)))) rfl (by exact⟨rfl,⟨rfl,trivial⟩⟩) (by rfl)) (G8 (K1 g7 (a8 (j0 hr (a7 1) b8) a9))) (fun _ _ _ _=>(c8 0 (show((["b","a","gains_v"]:List Str)++[accN]).Nodup by decide +kernel))) (fun _ _ _ _=>(a1S rfl (D7 hr (m6 (a8 (a7 1) (a8 (a7 0) a9))) (a7 2)))) (fun _ _ _ _=>(m6 (a8 (a7 1) (a8 (a7 0) a9)))))))))
  (c7 (j6 (j0 hr (a7 4) (l7 c9 hr (a8 (a7 0) (a8 (qx_b r6 M9 m_len (a8 (a7 4) a9)) a9)))))))))),?_⟩
 intro p n ts k hw hk;have hn:=hw.n1;have pp:=(A5 hw hk).2;have lw:=Z6 n ts;have eg:=u4 n ts hw;have lg:=a1r n ts;have ix0:oIxG (webD n ts) (.int 0)=some (.v (.int n)):=rfl;have lp:∀q,lfC (poolD q)=true:=fun q=>rfl;have kl:(oneK n.toNat++ts.map tkK).length=(List.replicate n.toNat (D.int 0)++ts.map fun t=>D.int t.2.2).length:=by
  unfold oneK;simp
 have mk:∀k,memK (k.map (Sum.inl:Int->Key)) (oneK n.toNat++ts.map tkK)=decide (k∈parK n ts):=fun k=>a2b;have r1:(-(2^62:Int)<=n/\n<2^62):=by walk_at "o"
 have x0:=a4p (ns:=k) (i:=0) (Int.le_refl _) (by walk_at "o")
 have l1:k.length<=999999:=by walk_at "o"
 have lk:=j5 k;have ev:(k.map D.int).reverse++[.int 0]=(k.reverse++[0]).map D.int:=by rw[zL,List.map_reverse];rfl
 have lv:=j5 (k.reverse++[0]);unfold tupI
 repeat(first|walk_at "z r" | simp only[eg,lg,lw,ix0,r_rv,r_rv1,r_rv2,ev,lv,x0,lk,l1,zC,length_reverse,r1])
 generalize oneK n.toNat++ts.map tkK=K at kl mk ⊢;generalize (List.replicate n.toNat (D.int 0)++ts.map fun t=>D.int t.2.2)=V at kl lg ⊢;generalize el:loopF _ _ _=r;refine B8 el (fun i ρ=>∃(L:List D) (o5:Option D),ρ=[some (.l (poolD p)),some (.v (webD n ts)),some (.v (.tup (k.map .int))),some (.o (.dT K V)),some (.o (.lst L)),o5.map .v]/\(∀d∈L,Od d)/\L.length<=10+8*i/\1<=L.length/\lfL L=false) ⟨_,none,rfl,?_,?_,?_,?_⟩ ?_ ?_
 ·intro d hd;simp only[zX,jE,jX] at hd;rcases hd with rfl|rfl|rfl|rfl|rfl|rfl|rfl|rfl|rfl|rfl
  ·exact a1k (by simp;walk_at "o")
  ·exact a1k (k:=[]) (by decide)
  ·exact a1U rfl rfl
  ·exact a1U rfl rfl
  ·exact a1U rfl rfl
  ·exact a4z rfl
  ·exact a4z rfl
  ·exact a4z rfl
  ·exact a4z rfl
  ·exact a1U rfl rfl
 ·exact zE 10
 ·exact Nat.succ_le_succ (jN _)
 ·simp[lfL,lf]
 ·rintro i x _ hx ⟨L,o5,rfl,hL,ll,l0,lL⟩;obtain⟨rfl,hi⟩:=R8 hx;obtain⟨a,ea⟩:∃a:Int,0+(i:Int)=a:=⟨_,rfl⟩;rw[ea];have fm:(((rngD 0 n.toNat).filter (oddH n ts a)).map (twoH a)).length<=8:=by
   rw[zC];refine qC (List.length_filter_le _ _) ?_;rw[w9];walk_at "o"
  have fo:∀d∈((rngD 0 n.toNat).filter (oddH n ts a)).map (twoH a),Od d:=fun d hd=>by
   obtain⟨x,hx,rfl⟩:=zZ.mp hd;obtain⟨b,rfl,_⟩:=C5 (qW.mp hx).1;exact a1k (k:=[a,b]) (by simp)
  have lM:lfL (((rngD 0 n.toNat).filter (oddH n ts a)).map (twoH a))=true:=z8 fun x hx=>by
   obtain⟨y,hy,rfl⟩:=zZ.mp hx;obtain⟨b,rfl,_⟩:=C5 (qW.mp hy).1;exact j5 [a,b]
  have lLM:lfL (L++((rngD 0 n.toNat).filter (oddH n ts a)).map (twoH a))=false:=b4v lL;have h1:L.length+(((rngD 0 n.toNat).filter (oddH n ts a)).map (twoH a)).length<=1000000:=by walk_at "o"
  refine⟨[some (.l (poolD p)),some (.v (webD n ts)),some (.v (.tup (k.map .int))),some (.o (.dT K V)),some (.o (.lst (L++((rngD 0 n.toNat).filter (oddH n ts a)).map (twoH a)))),some (.v (.int a))],?_,L++((rngD 0 n.toNat).filter (oddH n ts a)).map (twoH a),some (.int a),rfl,?_,?_,?_,lLM⟩
  ·repeat(first|walk_at "z r" | simp only[lL])
   rw[t8 (ρ1:=[some (.l (poolD p)),some (.v (webD n ts)),some (.v (.tup (k.map .int))),some (.o (.dT K V)),some (.o (.lst L)),some (.v (.int a))]) (xs:=rngD 0 n.toNat) (fun B=>∃o1:Option D,B=[o1.map .v,some (.v (.int a)),some (.v (.dT K V))]) (oddH n ts a) (twoH a)]
   ·generalize ((rngD 0 n.toNat).filter (oddH n ts a)).map (twoH a)=M at *
    repeat(first|walk_at "z r" | simp only[lL,lM,lLM,h1])
   ·repeat(first|walk_at "z r" | simp only[ix0,r1,lg])
   ·rintro _ ⟨_,rfl⟩;rfl
   ·exact⟨none,rfl⟩
   ·rw[w9];unfold lim;walk_at "o"
   ·exact lM
   ·rintro x hx _ zs ⟨o1,rfl⟩;obtain⟨b,rfl,_⟩:=C5 hx;have t1:=a54 (b:=true) (d:=.tup [.int a,.int b]) (a1Q [a,b]) kl;rw[mk [a,b],nb_t] at t1;refine⟨[some (.v (.int b)),some (.v (.int a)),some (.v (.dT K V))],.v (tupI [a,b]),⟨some _,rfl⟩,?_,?_,fun _=>⟨?_,.inl rfl⟩⟩
    ·walk_at "q"
    ·rw[show oddH n ts a (.int b)= !decide ([a,b]∈parK n ts) from rfl]
     repeat(first|walk_at "z r" | simp only[t1])
    ·rw[show tupI [a,b]= .tup [.int a,.int b] from rfl];walk_at "q"
  ·intro d hd;rcases qG.mp hd with z|z
   ·exact hL d z
   ·exact fo d z
  ·rw[zM];walk_at "o"
  ·rw[zM];walk_at "o"
 ·rintro _ rfl ⟨L,o5,rfl,hL,ll,l0,lL⟩;rw[w9] at ll;obtain⟨j,q,hj,ej⟩:=g5 p ((L.length:Nat):Int) (by walk_at "o") (by walk_at "o")
  obtain⟨d,hd⟩:∃d,L[j.toNat]? =some d:=⟨_,qB (by walk_at "o")⟩
  have xd:atI L j=some d:=a1j hj.1 hd;have od:=hL d (qX hd);refine⟨d,q,od,?_⟩
  repeat(first|walk_at "z r" | simp only[lL,ej,lp,xd])
theorem b0r {l:List (List Int)}{i:Int}(h0:0<=i)(h:i<l.length)(hl:l.length<=1000):∃d,mPopAt (l.map tupI) [.int i]=some (.v d,(l.eraseIdx i.toNat).map tupI):=by
 refine⟨tupI (l[i.toNat]'(by walk_at "o")),?_⟩
 show(if 0<=i/\i<2^62 then((l.map tupI)[i.toNat]?).map fun d=>(W.v d,(l.map tupI).eraseIdx i.toNat) else none)=_;rw[if_pos ⟨h0,by walk_at "o"⟩,zV,qB (by walk_at "o"),a3k]
 rfl
abbrev L8:Stmt:=top 39
theorem W5:FnScope ["pool","web","double","way","made","at","to","one"] ["pool","web","double"] (defScope L8):=by walk_at "c"
def Y4 (g:LL):Prop:=∀(p n:Int) (ts:List Tie) (ks:List (List Int)),WebOk n ts->(∀k∈ks,k∈parK n ts)->1<=ks.length->ks.length<=16->∃(w:W) (d:D) (q:Int),PDs d/\(w= .v d\/w= .o d)/\g (poolD p) [webD n ts,.tup (ks.map tupI)]=some (w,poolD q)
theorem a2U {j9:LL}{Z3:LL}(c9:FnL P w K mg base "_law_take" k j9)(g5:A9 j9)(a0l:FnL P w K mg base "_law_odd" k Z3)(a0b:a18 Z3)(v4:mg "list"=none)(m9:mg "tuple"=none)(m_len:mg "len"=none)(k8:mg "sorted"=none)(F:Fun K "_law_spoilt" "_law_spoilt" L8 f fd)(B:Binds K fd ["pool","web","double"] [])(hm:mg "_law_spoilt"=some (.ref f)):∃g,FnL P w K mg base "_law_spoilt" (k+1) g/\Y4 g:=by
 have nd:=W5.nd
 refine⟨_,a0d F W5 B hm rfl rfl (fun cdv A outer s H E hr=>(b9 (g9 3 nd (l7 c9 hr (a8 (a7 0) (a8 b8 a9))))
  (b9 (g9 4 nd (N8 rfl v4 (a8 (a7 2) a9)))
  (b9 (g9 5 nd (l7 c9 hr (a8 (a7 0) (a8 (qx_b r6 M9 m_len (a8 (a7 4) a9)) a9))))
  (b9 (g9 6 nd (l7 c9 hr (a8 (a7 0) (a8 (qx_b r6 M9 m_len (a8 (a7 4) a9)) a9))))
  (b9 (w8 (N4 hr (a7 3) b8) (c7 (K5 (b0u (a7 4) (a8 (a7 5) a9)))) (c7 (w8 (N4 hr (a7 3) b8) (c7 (g9 4 nd (D2 hr rfl k8 (a8 (m7 (a7 4) (t6 (a8 (j0 hr (a7 4) (a7 5)) a9))) a9)))) (c7 (w8 (N4 hr (a7 3) b8) (b9 (E7 (j0 hr (a7 4) (a7 6)) (U7 (a7 4) (a7 5)))
  (c7 (g9 4 nd (D2 hr rfl k8 (a8 (a7 4) a9))))) (c7 (w8 (N4 hr (a7 3) b8) (b9 (g9 7 nd (j0 hr (a7 4) (a7 5)))
  (b9 (E7 (j0 hr (a7 4) (a7 6)) (U7 (a7 4) (a7 5)))
  (c7 (E7 (a7 7) (U7 (a7 4) (a7 6)))))) (c7 (w8 (N4 hr (a7 3) b8) (c7 (g9 4 nd (b1Z (a7 4)))) (c7 (w8 (N4 hr (a7 3) b8) (c7 (E7 (l7 a0l hr (a8 (a7 0) (a8 (a7 1) (a8 (j0 hr (a7 4) (a7 5)) a9)))) (U7 (a7 4) (a7 5)))) (c7 (w8 (N4 hr (a7 3) b8) (c7 (j6 (a7 4))) (c7 (w8 (N4 hr (a7 3) b8) (c7 (j6 (j0 hr (t6 (a8 U2 (a8 a9G (a8 b8 (a8 (m6 a9) a9))))) (l7 c9 hr (a8 (a7 0) (a8 b8 a9)))))) t3)))))))))))))))
  (c7 (j6 (qx_t C3 U5 m9 (a8 (a7 4) a9)))))))))),?_⟩
 intro p n ts ks hw hk l1 l2;have hn:=hw.n1;have lw:=Z6 n ts;have lp:∀q,lfC (poolD q)=true:=fun q=>rfl;have lk:=k7 ks;obtain⟨w,p0,hw0,e0⟩:=g5 p 12 (by decide) (by decide)
 obtain⟨a,p1,ha,e1⟩:=g5 p0 ((ks.length:Nat):Int) (by walk_at "o") (by walk_at "o")
 obtain⟨b,p2,hb,e2⟩:=g5 p1 ((ks.length:Nat):Int) (by walk_at "o") (by walk_at "o")
 have pd:∀qs:List (List Int),(∀k∈qs,k∈parK n ts)->qs.length<=20->PDs (.tup (qs.map tupI)):=fun qs h hl=>a4m (fun d hd=>by
  obtain⟨k,hk',rfl⟩:=zZ.mp hd
  exact a1k (by have:=(A5 hw (h k hk')).2.2;walk_at "o")) (by rw[zC];exact hl)
 obtain⟨ka,hka⟩:∃k,ks[a.toNat]? =some k:=⟨_,qB (by walk_at "o")⟩
 obtain⟨kb,hkb⟩:∃k,ks[b.toNat]? =some k:=⟨_,qB (by walk_at "o")⟩
 have ma:=hk ka (qX hka);have mb:=hk kb (qX hkb);have xa:atI (ks.map tupI) a=some (tupI ka):=a1j ha.1 (by rw[zV,hka];rfl)
 have xb:atI (ks.map tupI) b=some (tupI kb):=a1j hb.1 (by rw[zV,hkb];rfl)
 have la:lf (tupI ka)=true:=j5 ka;have lb:lf (tupI kb)=true:=j5 kb;have ia:ixN ks.length a=some a.toNat:=a2g ha.1 ha.2;have ib:ixN ks.length b=some b.toNat:=a2g hb.1 hb.2;have ne:∀k,k∈parK n ts->k≠[]:=fun k h=>(O1 hw).2 k h;have mset:∀(l:List (List Int)) (i:Nat) (k:List Int),k∈parK n ts->(∀x∈l,x∈parK n ts)->∀x∈l.set i k,x∈parK n ts:=fun l i k h1 h2 x hx=>by
  rcases List.mem_or_eq_of_mem_set hx with z|z
  ·exact h2 x z
  ·rw[z];exact h1
 have sm:∀(i:Nat) (k:List Int),(ks.map tupI).set i (tupI k)=(ks.set i k).map tupI:=fun i k=>map_set.symm;rcases(by walk_at "o":w=0\/w=1\/w=2\/w=3\/w=4\/w=5\/w=6\/w=7\/8<=w) with rfl|rfl|rfl|rfl|rfl|rfl|rfl|rfl|h8
 ·obtain⟨d,ed⟩:=b0r (l:=ks) ha.1 ha.2 (by walk_at "o")
  have z:=pd (ks.eraseIdx a.toNat) (fun k h=>hk k (List.mem_of_mem_eraseIdx h)) (by rw[List.length_eraseIdx];split<;>walk_at "o")
  have lz:=k7 (ks.eraseIdx a.toNat);refine⟨_,_,p2,z,.inl rfl,?_⟩
  repeat(first|walk_at "z r" | simp only[e0,e1,e2,lp,lk,zC,Int.reduceBEq,ed,lz])
 ·have z:=pd (sortK (ks++[ka])) (fun k h=>by
   rcases qG.mp ((m8 _).mem_iff.mp h) with z|z
   ·exact hk k z
   ·rw[zN.mp z];exact ma) (by rw[(m8 _).length_eq,zM,jK];walk_at "o")
  have so:=E6 (ks:=ks++[ka]) (by rw[zM,jK];walk_at "o") fun k h=>by
   rcases qG.mp h with z|z
   ·exact ne k (hk k z)
   ·rw[zN.mp z];exact ne _ ma
  rw[zL] at so;have so:gSort (.lst (ks.map tupI++[tupI ka]))=some (.o (.lst ((sortK (ks++[ka])).map tupI))):=so;have h1:ks.length<=999999:=by walk_at "o"
  have h2:ks.length+1<=1000000:=by walk_at "o"
  have lz:=k7 (sortK (ks++[ka]));have lq:lfL (ks.map tupI++[tupI ka])=true:=by have:=k7 (ks++[ka]);rw[zL] at this;exact this
  refine⟨_,_,p2,z,.inl rfl,?_⟩
  repeat(first|walk_at "z r" | simp only[e0,e1,e2,lp,lk,zC,Int.reduceBEq,xa,la,h1,h2,so,lz,lq])
 ·have z:=pd (sortK (ks.set a.toNat kb)) (fun k h=>mset ks a.toNat kb mb hk k ((m8 _).mem_iff.mp h)) (by rw[(m8 _).length_eq,qS];walk_at "o")
  have so:=E6 (ks:=ks.set a.toNat kb) (by rw[qS];walk_at "o") fun k h=>ne k (mset ks a.toNat kb mb hk k h)
  have lz:=k7 (sortK (ks.set a.toNat kb));have ly:=k7 (ks.set a.toNat kb);refine⟨_,_,p2,z,.inl rfl,?_⟩
  repeat(first|walk_at "z r" | simp only[e0,e1,e2,lp,lk,zC,Int.reduceBEq,xb,lb,ia,sm,so,lz,ly])
 ·have z:=pd ((ks.set a.toNat kb).set b.toNat ka) (mset _ _ _ ma (mset _ _ _ mb hk)) (by rw[qS,qS];walk_at "o")
  have lz:=k7 ((ks.set a.toNat kb).set b.toNat ka);have ly:=k7 (ks.set a.toNat kb);have ib':ixN (ks.set a.toNat kb).length b=some b.toNat:=by rw[qS];exact ib
  have sm2:((ks.set a.toNat kb).map tupI).set b.toNat (tupI ka)=((ks.set a.toNat kb).set b.toNat ka).map tupI:=map_set.symm;refine⟨_,_,p2,z,.inl rfl,?_⟩
  repeat(first|walk_at "z r" | simp only[e0,e1,e2,lp,lk,zC,Int.reduceBEq,xa,la,xb,lb,ia,sm,ib',sm2,lz,ly])
 ·have z:=pd ks.reverse (fun k h=>hk k (List.mem_reverse.mp h)) (by rw[length_reverse];walk_at "o")
  have er:(ks.map tupI).reverse=ks.reverse.map tupI:=List.map_reverse.symm;have lz:=k7 ks.reverse;refine⟨_,_,p2,z,.inl rfl,?_⟩
  repeat(first|walk_at "z r" | simp only[e0,e1,e2,lp,lk,zC,Int.reduceBEq,r_rvL,b4x,b3Q,er,lz])
 ·obtain⟨d,q,od,eo⟩:=a0b p2 n ts ka hw ma;have oz:∀x∈(ks.map tupI).set a.toNat d,Od x:=fun x hx=>by
   rcases List.mem_or_eq_of_mem_set hx with z|z
   ·obtain⟨k,hk',rfl⟩:=zZ.mp z;exact a1k (by have:=(A5 hw (hk k hk')).2.2;walk_at "o")
   ·rw[z];exact od
  have z:=a4m oz (by rw[qS,zC];walk_at "o")
  refine⟨.v (.tup ((ks.map tupI).set a.toNat d)),_,q,z,.inl rfl,?_⟩;cases ld:lf d with
  | true=>repeat(first|walk_at "z r" | simp only[e0,e1,e2,lp,lk,lw,zC,Int.reduceBEq,xa,la,eo,ld,ia])
  | false=>repeat(first|walk_at "z r" | simp only[e0,e1,e2,lp,lk,lw,zC,Int.reduceBEq,xa,la,eo,ld,ia])
 ·refine⟨.o (.lst (ks.map tupI)),.lst (ks.map tupI),p2,⟨rfl,fun xs e=>by cases e⟩,.inr rfl,?_⟩
  repeat(first|walk_at "z r" | simp only[e0,e1,e2,lp,lk,zC,Int.reduceBEq])
 ·obtain⟨j,q,hj,ej⟩:=g5 p2 4 (by decide) (by decide)
  obtain⟨d,od,xd⟩:∃d,(PDs d/\lf d=true)/\atI [D.non,.str "",.int 0,.tup []] j=some d:=by
   rcases(by walk_at "o":j=0\/j=1\/j=2\/j=3) with rfl|rfl|rfl|rfl
   ·exact⟨_,⟨⟨rfl,fun xs e=>by cases e⟩,rfl⟩,a_0⟩
   ·exact⟨_,⟨⟨rfl,fun xs e=>by cases e⟩,rfl⟩,a_1⟩
   ·exact⟨_,⟨⟨rfl,fun xs e=>by cases e⟩,rfl⟩,a_2⟩
   ·exact⟨_,⟨a4m (xs:=[]) (fun _ h=>by cases h) (by decide),rfl⟩,a_3⟩
  have ld:=od.2;refine⟨_,d,q,od.1,.inl rfl,?_⟩
  repeat(first|walk_at "z r" | simp only[e0,e1,e2,lp,lk,zC,Int.reduceBEq,ej,xd,ld])
 ·have nb:∀c:Int,c<8->(w==c)=false:=fun c hc=>by simp;walk_at "o"
  have n0:=nb 0 (by decide);have n1:=nb 1 (by decide);have n2:=nb 2 (by decide);have n3:=nb 3 (by decide)
  have n4:=nb 4 (by decide);have n5:=nb 5 (by decide);have n6:=nb 6 (by decide);have n7:=nb 7 (by decide)
  have z:=pd ks hk (by walk_at "o")
  refine⟨_,_,p2,z,.inl rfl,?_⟩
  repeat(first|walk_at "z r" | simp only[e0,e1,e2,lp,lk,zC,n0,n1,n2,n3,n4,n5,n6,n7])
theorem b3N {n:Int}{ts:List Tie}{R:List (List Int)}(hw:WebOk n ts)(h:DbOk n ts R):PDs (.tup ((sortK R).map tupI))/\dblB n ts (.tup ((sortK R).map tupI))=true/\(∀k∈sortK R,k∈parK n ts)/\1<=(sortK R).length/\(sortK R).length<=16:=by
 have hn:=hw.n1;have hp:∀k∈sortK R,k∈parK n ts:=fun k hk=>h.par k ((m8 R).mem_iff.mp hk);have hl:=h.len hw;rw[<-(m8 R).length_eq] at hl
 refine⟨a4m (fun d hd=>by
  obtain⟨k,hk',rfl⟩:=zZ.mp hd
  exact a1k (by have:=(A5 hw (hp k hk')).2.2;walk_at "o")) (by rw[zC];walk_at "o"),?_,hp,?_,hl⟩
 ·rw[a08 hp,a2F,qL rfl,a4W (((m8 R).flatten).trans h.prm),qL rfl];rfl
 ·cases e:sortK R with
  | nil=>
   have:=((m8 R).flatten).trans h.prm
   rw[e] at this
   have:=this.length_eq
   unfold up2 at this;rw[zM,v5] at this;simp at this;walk_at "o"
  | cons a r=>rw[qJ];walk_at "o"
theorem b00 {n:Int}{ts:List Tie}{R:List (List Int)}(hp:∀k∈R,k∈parK n ts)(hf:R.flatten.Perm (up n.toNat)):DbOk n ts (R++R):=⟨fun k hk=>by
 have hk:k∈R:=by rcases qG.mp hk with z|z<;>exact z
 exact hp k hk,by rw[qY];exact hf.append hf⟩
abbrev a0u:Stmt:=top 40
theorem b0E:FnScope ["script","at","pool","web","some","double","thing","found"] ["script"] (defScope a0u):=by walk_at "c"
theorem b4w {U4:LO}{Z7:LL}{V3:LL}{K9:LO}{M4:LL}{S2:LO}{L0:LL}{a4K:LO}{M7:LO}(S4:Fn P w K mg base "_law_pool" k U4)(V4:a1E U4)(Y8:FnL P w K mg base "_law_web" k Z7)(a0n:a2j Z7)(V6:FnL P w K mg base "_law_went" k V3)(V0:a1I V3)(M1:Fn P w K mg base "_law_ringed" k K9)(L5:Y2 K9)(K8:FnL P w K mg base "_law_spoilt" k M4)(L9:Y4 M4)(K3:Fn P w K mg base "is_double" k S2)(K0:a1K S2)(N2:FnL P w K mg base "_law_paired" k L0)(M3:X8 L0)(a36:Fn P w K mg base "cover" k a4K)(a4d:a7c a4K)(E1:Fn P w K mg base "_law_double" k M7)(D9:X9 M7)(g7:mg "range"=none)(m_max:mg "max"=none)(m_min:mg "min"=none)(v4:mg "list"=none)(m9:mg "tuple"=none)(m_len:mg "len"=none)(k8:mg "sorted"=none)(i0:mg "isinstance"=none)(P7:mg "bool"=none)(F:Fun K "law" "law" a0u f fd):FnOk P w K mg base CX0 (k+1) f fd ["script"] (spLaw K):=by
 have nd:=b0E.nd
 refine b4p F b0E rfl rfl (fun cdv A outer s H E hr=>(b9 (A7 zU rfl (b0w g7 (a8 b8 (a8 (qx_b (a1u rfl) a5H m_max (a8 b8 (a8 (qx_b (O4 rfl) a2l m_min (a8 b8 (a8 (qx_b r6 M9 m_len (a8 (a7 0) a9)) a9))) a9))) a9))) (c8 1 nd) (b9 (g9 2 nd (n9 S4 hr (a8 (a7 0) (a8 (a7 1) a9))))
  (b9 (g9 3 nd (l7 Y8 hr (a8 (a7 2) (a8 b8 a9))))
  (b9 (g9 4 nd (t6 (a8 (N8 rfl v4 (a8 (j0 hr (n9 a36 hr (a8 (a7 3) a9)) b8) a9)) (a8 (a2c (l7 N2 hr (a8 (a7 2) (a8 (a7 3) a9))) b8) (a8 (l7 V6 hr (a8 (a7 2) (a8 (a7 3) a9))) (a8 (n9 M1 hr (a8 (a7 3) a9)) a9))))))
  (c7 (A7 zU rfl (J5 (a7 4)) (c8 5 nd) (b9 (g9 5 nd (qx_t C3 U5 m9 (a8 (D2 hr rfl k8 (a8 (a7 5) a9)) a9)))
  (b9 (w8 (a0C (a5w (a4N (n9 K3 hr (a8 (a7 3) (a8 (a7 5) a9))) a1F) (a2S (a2C (S3 (n9 E1 hr (a8 (a7 3) (a8 (a7 5) a9)))))))) (c7 (j6 a1F)) t3)
  (b9 (g9 6 nd (l7 K8 hr (a8 (a7 2) (a8 (a7 3) (a8 (a7 5) a9)))))
  (b9 (g9 7 nd (n9 K3 hr (a8 (a7 3) (a8 (a7 6) a9))))
  (c7 (w8 (a0C (a5w (a2C (S3 (Q4 (T:="bool") (Q2 (by decide)) i0 P7 (a7 7)))) (a2S (a7v hr (a7 7) (n9 E1 hr (a8 (a7 3) (a8 (a7 6) a9))))))) (c7 (j6 a1F)) t3))))))))))))
  (c7 (j6 a1F)))) ?_
 intro ns hl;obtain⟨M,eM,hM⟩:∃M:Int,(if(if(ns.length:Int)<6 then(ns.length:Int) else 6)>1 then(if(ns.length:Int)<6 then(ns.length:Int) else 6) else 1)=M/\1<=M/\M<=6:=⟨_,rfl,by split<;>(try split)<;>walk_at "o",by split<;>(try split)<;>walk_at "o"⟩
 have r1:((-(2^62:Int)<=0/\(0:Int)<2^62)/\-(2^62:Int)<=M/\M<2^62):=by walk_at "o"
 have ln:=j5 ns
 repeat(first|walk_at "z r" | simp only[zC,eM,r1])
 generalize el:loopF _ _ _=r;refine a3u el (fun _ ρ=>∃x1 x2 x3 x4 x5 x6 x7:Option W,ρ=[some (.v (.lst (ns.map .int))),x1,x2,x3,x4,x5,x6,x7]/\freeO x1=true/\freeO x2=true/\freeO x3=true/\freeO x4=true/\freeO x5=true/\freeO x6=true/\freeO x7=true) ⟨none,none,none,none,none,none,none,rfl,rfl,rfl,rfl,rfl,rfl,rfl,rfl⟩ ?_ ?_
 ·rintro d x _ hx _ ⟨x1,x2,x3,x4,x5,x6,x7,rfl,f1,f2,f3,f4,f5,f6,f7⟩;obtain⟨i,rfl,hi⟩:=C5 hx;obtain⟨p,e1⟩:=V4 ns i hl (by walk_at "o") (by walk_at "o")
  obtain⟨n,p1,ts,hw,e2⟩:=a0n p 8 (by decide) (by decide)
  obtain⟨xs,R0,hc,e3⟩:=a4d n ts hw;obtain⟨R1,p2,h1,h1',h1l,e4⟩:=M3 p1 n ts hw;obtain⟨R2,p3,h2,e5⟩:=V0 p2 n ts hw;obtain⟨R3,h3,e6⟩:=L5 n ts hw;have hn:=hw.n1;have lp:∀q,lfC (poolD q)=true:=fun q=>rfl;have lp':∀q,lfW (.o (poolD q))=true:=fun q=>rfl;have lw:=Z6 n ts;have l0:=k7 R0;have l1:=k7 R1;have l2:=k7 R2;have l3:=k7 R3;have lx:lfL ((xs.map fun x=>Rat.divInt x 2).map ratD)=true:=z8 fun x hx=>by obtain⟨q,_,rfl⟩:=zZ.mp hx;rfl
  have rp:=a38 (xs:=R1.map tupI) (by rw[zC];walk_at "o")
  rw[<-zL] at rp;have l11:=k7 (R1++R1);have db:∀y∈[D.lst (R0.map tupI),.lst ((R1++R1).map tupI),.lst (R2.map tupI),.lst (R3.map tupI)],∃R,DbOk n ts R/\y= .lst (R.map tupI):=fun y hy=>by
   simp only[zX,jE,jX] at hy;rcases hy with rfl|rfl|rfl|rfl
   ·exact⟨R0,⟨hc.o,hc.held⟩,rfl⟩
   ·exact⟨R1++R1,b00 h1 h1',rfl⟩
   ·exact⟨R2,h2,rfl⟩
   ·exact⟨R3,h3,rfl⟩
  repeat(first|walk_at "z r" | simp only[f1,f2,f3,f4,ln,e1,lp,lp',e2,lw,e3,lx,l0,e4,l1,rp,l11,e5,l2,e6,l3])
  generalize el2:loopF _ _ _=r2;refine a3u el2 (fun _ ρ=>∃(q:Int) (x5 x6 x7:Option W),ρ=[some (.v (.lst (ns.map .int))),some (.v (.int i)),some (.o (poolD q)),some (.v (webD n ts)),some (.v (.lst [D.lst (R0.map tupI),.lst ((R1++R1).map tupI),.lst (R2.map tupI),.lst (R3.map tupI)])),x5,x6,x7]/\freeO x5=true/\freeO x6=true/\freeO x7=true) ⟨p3,x5,x6,x7,rfl,f5,f6,f7⟩ ?_ ?_
  ·rintro d' y _ hy _ ⟨q,x5,x6,x7,rfl,f5,f6,f7⟩;obtain⟨R,hR,rfl⟩:=db y hy;obtain⟨pds,yes,par,k1,k2⟩:=b3N hw hR;have so:=E6 (ks:=R) (by have:=hR.len hw;walk_at "o") fun k h=>(O1 hw).2 k (hR.par k h)
   have lR:=k7 R;have ls:=k7 (sortK R);have e7:=K0 n ts _ hw pds;have e8:=D9 n ts _ hw pds;rw[yes] at e7 e8;obtain⟨w,dd,q',hd,hwd,e9⟩:=L9 q n ts (sortK R) hw par k1 k2;have e10:=K0 n ts dd hw hd;have e11:=D9 n ts dd hw hd;obtain⟨B,eB⟩:∃B:Bool,dblB n ts dd=B:=⟨_,rfl⟩;rw[eB] at e10 e11;have ib:=a4D (d:=.bl B) rfl;have jb:isB (.bl B)=true:=rfl;have bb:(B==B)=true:=beq_self_eq_true _;have tt:isD (.bl true) (.bl true)=some true:=rfl;rcases hwd with rfl|rfl
   ·refine⟨_,?_,q',some (.v (.tup ((sortK R).map tupI))),some (.v dd),some (.v (.bl B)),rfl,rfl,rfl,rfl⟩;cases ld:lf dd with
    | true=>repeat(first|walk_at "z r" | simp only[f5,f6,f7,lR,so,ls,lw,e7,e8,tt,e9,lp,lp',ld,e10,e11,ib,jb,bb])
    | false=>repeat(first|walk_at "z r" | simp only[f5,f6,f7,lR,so,ls,lw,e7,e8,tt,e9,lp,lp',ld,e10,e11,ib,jb,bb])
   ·refine⟨_,?_,q',some (.v (.tup ((sortK R).map tupI))),some (.o dd),some (.v (.bl B)),rfl,rfl,rfl,rfl⟩;cases ld:lfC dd with
    | true=>repeat(first|walk_at "z r" | simp only[f5,f6,f7,lR,so,ls,lw,e7,e8,tt,e9,lp,lp',ld,e10,e11,ib,jb,bb])
    | false=>repeat(first|walk_at "z r" | simp only[f5,f6,f7,lR,so,ls,lw,e7,e8,tt,e9,lp,lp',ld,e10,e11,ib,jb,bb])
  ·rintro _ rfl ⟨q,x5,x6,x7,rfl,f5,f6,f7⟩;exact⟨_,rfl,some (.v (.int i)),some (.o (poolD q)),some (.v (webD n ts)),_,x5,x6,x7,rfl,rfl,rfl,rfl,rfl,f5,f6,f7⟩
 ·rintro _ rfl ⟨x1,x2,x3,x4,x5,x6,x7,rfl,_⟩;walk_at "q"
end
end Q26
namespace Q26
open PySem PySem.Spec PyProof.Rows L2 Z
structure DI (K:PySem.W.Frag) (x:Str) (st:Stmt) (f:Addr) (fd:FuncData):Prop where
 a:PySem.W.nsIn K mainGlobals x=some (some (.ref f))
 F:Fun K x x st f fd
theorem DI.mk2 {K:PySem.W.Frag}{x:Str}{st:Stmt}{f:Addr}{od an:Option Addr}{sl:Array (Option Value)}{oc kV dc pm cd ct:Value}(a:PySem.W.nsIn K mainGlobals x=some (some (.ref f)))(l:K.lookup f=some ⟨oc,od,.func (PySem.W.fnOf x x (defArgs st) (defBody st) (defScope st) .none kV dc pm an cd ct),sl⟩)(c:PySem.W.codeIn K cd x=true)(k:PySem.W.keepIn K (.ref f)=true):DI K x st f (PySem.W.fnOf x x (defArgs st) (defBody st) (defScope st) .none kV dc pm an cd ct):=⟨a,b06 l c k⟩
section
variable {P:Program}{w:World}{K:PySem.W.Frag}{mg:Str->Option Value}{base:Heap}{x:Str}{j k:Nat}
theorem _root_.Z.FnS.up {sp:Sp}(F:FnS P w K mg base x j sp)(h:j<=k:=by decide):FnS P w K mg base x k sp:=F.mono h
end
theorem b4e {l:PySem.W.OpenLaw}{w:World}{K:PySem.W.Frag}{h:Heap}{mg:Str->Option Value}{fa f1 f2 f3 f4 f5 f6 f7 f8 f9 f10 f11 f12 f13 f14 f15 f16 f17 f18 f19 f20 f21 f22 f23 f24 f25 f26 f27 f28 f29 f30 f31 f32:Addr}{d1 d2 d3 d4 d5 d6 d7 d8 d9 d10 d11 d12 d13 d14 d15 d16 d17 d18 d19 d20 d21 d22 d23 d24 d25 d26 d27 d28 d29 d30 d31:FuncData}(X:K.In h)(G:h.Ns mainGlobals mg)(hfa:mg "law"=some (.ref fa))
  {od an:Option Addr} {sl:Array (Option Value)} {oc kV dc pm cd ct:Value}
  (i1:DI K "_law_cell_at" J6 f1 d1) (i2:DI K "_law_pool" T0 f2 d2) (i3:DI K "_law_take" S6 f3 d3) (i4:DI K "_law_wanted" L1 f4 d4) (i5:DI K "_law_web" a0o f5 d5) (i6:DI K "_law_went" S1 f6 d6) (i7:DI K "_law_gains" P9 f7 d7) (i8:DI K "_law_ringed" M0 f8 d8) (i9:DI K "_law_odd" a0a f9 d9) (i10:DI K "_law_spoilt" L8 f10 d10) (i11:DI K "parties" a1a f11 d11) (i12:DI K "is_whole" Z8 f12 d12) (i13:DI K "is_party" a0i f13 d13) (i14:DI K "is_parties" R5 f14 d14) (i15:DI K "is_sorted" W6 f15 d15) (i16:DI K "is_sorted_parties" C1 f16 d16) (i17:DI K "held" a5U f17 d17) (i18:DI K "is_double" S0 f18 d18) (i19:DI K "_law_paired" N0 f19 d19) (i20:DI K "climbed" a0Y f20 d20) (i21:DI K "settled" a1b f21 d21) (i22:DI K "gains" a4y f22 d22) (i23:DI K "steps_of" Y9 f23 d23) (i24:DI K "common_divisor" D5 f24 d24) (i25:DI K "ratio" a4I f25 d25) (i26:DI K "shares_by" U0 f26 d26) (i27:DI K "party_twice" L3 f27 d27) (i28:DI K "double_of" R7 f28 d28) (i29:DI K "cover" a4o f29 d29) (i30:DI K "_law_whole" Q8 f30 d30) (i31:DI K "_law_double" K7 f31 d31)
  (a:PySem.W.nsIn K mainGlobals "law"=some (some (.ref f32))) (ll:K.lookup f32=some ⟨oc,od,.func (PySem.W.fnOf "law" "law" (defArgs a0u) (defBody a0u) (defScope a0u) .none kV dc pm an cd ct),sl⟩) (c:PySem.W.codeIn K cd "law"=true) (k:PySem.W.keepIn K (.ref f32)=true)
  (y1:PySem.W.nsIn K mainGlobals "len"=some none) (y2:PySem.W.nsIn K mainGlobals "range"=some none) (y3:PySem.W.nsIn K mainGlobals "min"=some none) (y4:PySem.W.nsIn K mainGlobals "tuple"=some none) (y5:PySem.W.nsIn K mainGlobals "sum"=some none) (y6:PySem.W.nsIn K mainGlobals "all"=some none) (y7:PySem.W.nsIn K mainGlobals "list"=some none) (y8:PySem.W.nsIn K mainGlobals "sorted"=some none) (y9:PySem.W.nsIn K mainGlobals "isinstance"=some none) (y10:PySem.W.nsIn K mainGlobals "int"=some none) (y11:PySem.W.nsIn K mainGlobals "bool"=some none) (y12:PySem.W.nsIn K mainGlobals "any"=some none) (y13:PySem.W.nsIn K mainGlobals "zip"=some none) (y14:PySem.W.nsIn K mainGlobals "enumerate"=some none) (y15:PySem.W.nsIn K mainGlobals "max"=some none) (y16:PySem.W.nsIn K mainGlobals "abs"=some none):
  ∃fd:FuncData,(∀(s:Shared) (v:Value),BindsTo s fd ⟨[v],[]⟩ [("script",v)])/\∀base:Heap,K.In base->base.Ns mainGlobals mg->FnOk l.prog w K mg base CX0 60 fa fd ["script"] (spLaw K):=by
 cases hfa.symm.trans (zY X G a);have m_len:=qH X G y1;have g7:=qH X G y2;have m_min:=qH X G y3;have m9:=qH X G y4;have m_sum:=qH X G y5;have m_all:=qH X G y6;have v4:=qH X G y7;have k8:=qH X G y8;have i0:=qH X G y9;have m_int:=qH X G y10;have P7:=qH X G y11;have m_any:=qH X G y12;have m_zip:=qH X G y13;have C8:=qH X G y14;have m_max:=qH X G y15;have m_abs:=qH X G y16;refine⟨PySem.W.fnOf "law" "law" (defArgs a0u) (defBody a0u) (defScope a0u) .none kV dc pm an cd ct,fun s v=>.of_eq rfl,fun base _ _=>?_⟩;obtain⟨J1,G9,I0⟩:=a1O (P:=l.prog) (w:=w) (base:=base) (k:=0) m_len i1.F (i1.F.binds (ps:=["script","k"]) fun _ _ _ _ _ _ us hl=>us2 hl fun _ _=>rfl) (zY X G i1.a);obtain⟨U4,S4,V4⟩:=a4C (P:=l.prog) (w:=w) (base:=base) (k:=1) G9.up I0 g7 i2.F (i2.F.binds (ps:=["script","at"]) fun _ _ _ _ _ _ us hl=>us2 hl fun _ _=>rfl) (zY X G i2.a);obtain⟨j9,c9,g5⟩:=a4J (P:=l.prog) (w:=w) (base:=base) (k:=0) i3.F (i3.F.binds (ps:=["pool","many"]) fun _ _ _ _ _ _ us hl=>us2 hl fun _ _=>rfl) (zY X G i3.a);obtain⟨L6,M5,L7⟩:=a2d (P:=l.prog) (w:=w) (base:=base) (k:=1) c9.up g5 i4.F (i4.F.binds (ps:=["pool","kind","ring","a","b"]) fun _ _ _ _ _ _ us hl=>us5 hl fun _ _ _ _ _=>rfl) (zY X G i4.a);obtain⟨Z7,Y8,a0n⟩:=a4Q (P:=l.prog) (w:=w) (base:=base) (k:=2) c9.up g5 M5.up L7 m_min g7 m9 i5.F (i5.F.binds (ps:=["pool","most"]) fun _ _ _ _ _ _ us hl=>us2 hl fun _ _=>rfl) (zY X G i5.a);obtain⟨V3,V6,V0⟩:=a4H (P:=l.prog) (w:=w) (base:=base) (k:=1) c9.up g5 g7 m_len m_sum i6.F (i6.F.binds (ps:=["pool","web"]) fun _ _ _ _ _ _ us hl=>us2 hl fun _ _=>rfl) (zY X G i6.a);obtain⟨t9,u6,u4⟩:=a2X (P:=l.prog) (w:=w) (base:=base) (k:=0) g7 i7.F (i7.F.binds (ps:=["web"]) fun _ _ _ _ _ _ us hl=>us1 hl fun _=>rfl) (zY X G i7.a);obtain⟨K9,M1,L5⟩:=a2x (P:=l.prog) (w:=w) (base:=base) (k:=1) u6.up u4 g7 m_all i8.F (i8.F.binds (ps:=["web"]) fun _ _ _ _ _ _ us hl=>us1 hl fun _=>rfl) (zY X G i8.a);obtain⟨Z3,a0l,a0b⟩:=a5v (P:=l.prog) (w:=w) (base:=base) (k:=1) u6.up u4 c9.up g5 g7 v4 m_len i9.F (i9.F.binds (ps:=["pool","web","party"]) fun _ _ _ _ _ _ us hl=>us3 hl fun _ _ _=>rfl) (zY X G i9.a);obtain⟨M4,K8,L9⟩:=a2U (P:=l.prog) (w:=w) (base:=base) (k:=2) c9.up g5 a0l.up a0b v4 m9 m_len k8 i10.F (i10.F.binds (ps:=["pool","web","double"]) fun _ _ _ _ _ _ us hl=>us3 hl fun _ _ _=>rfl) (zY X G i10.a);obtain⟨G3,G5,G0⟩:=a6k (P:=l.prog) (w:=w) (base:=base) (k:=0) k8 g7 i11.F (i11.F.binds (ps:=["web"]) fun _ _ _ _ _ _ us hl=>us1 hl fun _=>rfl) (zY X G i11.a);obtain⟨a0e,Z1,a0k⟩:=a5h (P:=l.prog) (w:=w) (base:=base) (k:=0) i0 m_int P7 i12.F (i12.F.binds (ps:=["thing"]) fun _ _ _ _ _ _ us hl=>us1 hl fun _=>rfl) (zY X G i12.a);obtain⟨a0r,a0g,a0m⟩:=a5s (P:=l.prog) (w:=w) (base:=base) (k:=1) G5.up G0 Z1.up a0k i0 m9 m_all i13.F (i13.F.binds (ps:=["web","thing"]) fun _ _ _ _ _ _ us hl=>us2 hl fun _ _=>rfl) (zY X G i13.a);obtain⟨P5,O8,O9⟩:=a2Y (P:=l.prog) (w:=w) (base:=base) (k:=2) a0g.up a0m i0 m9 m_all i14.F (i14.F.binds (ps:=["web","thing"]) fun _ _ _ _ _ _ us hl=>us2 hl fun _ _=>rfl) (zY X G i14.a);obtain⟨U8,T5,T1⟩:=a4E (P:=l.prog) (w:=w) (base:=base) (k:=0) m_any m_zip i15.F (i15.F.binds (ps:=["row"]) fun _ _ _ _ _ _ us hl=>us1 hl fun _=>rfl) (zY X G i15.a);obtain⟨C2,C0,B9⟩:=S5 (P:=l.prog) (w:=w) (base:=base) (k:=3) O8.up O9 T5.up T1 i16.F (i16.F.binds (ps:=["web","thing"]) fun _ _ _ _ _ _ us hl=>us2 hl fun _ _=>rfl) (zY X G i16.a);obtain⟨a5K,a6j,a5J⟩:=b1Q (P:=l.prog) (w:=w) (base:=base) (k:=0) k8 i17.F (i17.F.binds (ps:=["some"]) fun _ _ _ _ _ _ us hl=>us1 hl fun _=>rfl) (zY X G i17.a);obtain⟨S2,K3,K0⟩:=a4l (P:=l.prog) (w:=w) (base:=base) (k:=4) C0.up B9 a6j.up a5J k8 v4 g7 i18.F (i18.F.binds (ps:=["web","thing"]) fun _ _ _ _ _ _ us hl=>us2 hl fun _ _=>rfl) (zY X G i18.a);obtain⟨L0,N2,M3⟩:=a2Q (P:=l.prog) (w:=w) (base:=base) (k:=1) c9.up g5 g7 i19.F (i19.F.binds (ps:=["pool","web"]) fun _ _ _ _ _ _ us hl=>us2 hl fun _ _=>rfl) (zY X G i19.a);obtain⟨a1w,a1h,a1o⟩:=a5N (P:=l.prog) (w:=w) (base:=base) (k:=0) g7 v4 m_len i20.F (i20.F.binds (ps:=["marks","steps"]) fun _ _ _ _ _ _ us hl=>us2 hl fun _ _=>rfl) (zY X G i20.a);obtain⟨X0,X5,a09⟩:=a5T (P:=l.prog) (w:=w) (base:=base) (k:=1) a1h.up a1o g7 m_len i21.F (i21.F.binds (ps:=["steps","people"]) fun _ _ _ _ _ _ us hl=>us2 hl fun _ _=>rfl) (zY X G i21.a);obtain⟨a33,a4k,a30⟩:=b0R (P:=l.prog) (w:=w) (base:=base) (k:=0) i22.F (i22.F.binds (ps:=["web"]) fun _ _ _ _ _ _ us hl=>us1 hl fun _=>rfl) (zY X G i22.a);obtain⟨P8,P6,a0j⟩:=a41 (P:=l.prog) (w:=w) (base:=base) (k:=1) G5.up G0 a4k.up a30 C8 m_min m_max i23.F (i23.F.binds (ps:=["web","mates"]) fun _ _ _ _ _ _ us hl=>us2 hl fun _ _=>rfl) (zY X G i23.a);obtain⟨D3,D8,D6⟩:=a0J (P:=l.prog) (w:=w) (base:=base) (k:=0) i24.F (i24.F.binds (ps:=["one","other"]) fun _ _ _ _ _ _ us hl=>us2 hl fun _ _=>rfl) (zY X G i24.a);obtain⟨a4F,a35,a4r⟩:=a88 (P:=l.prog) (w:=w) (base:=base) (k:=1) D8.up D6 m_abs i25.F (i25.F.binds (ps:=["top","bottom"]) fun _ _ _ _ _ _ us hl=>us2 hl fun _ _=>rfl) (zY X G i25.a);obtain⟨U6,T9,W0⟩:=a4h (P:=l.prog) (w:=w) (base:=base) (k:=2) a35.up a4r m9 m_len g7 i26.F (i26.F.binds (ps:=["marks"]) fun _ _ _ _ _ _ us hl=>us1 hl fun _=>rfl) (zY X G i26.a);obtain⟨N1,M8,M6⟩:=a2o (P:=l.prog) (w:=w) (base:=base) (k:=0) m_min m_max i27.F (i27.F.binds (ps:=["one","other"]) fun _ _ _ _ _ _ us hl=>us2 hl fun _ _=>rfl) (zY X G i27.a);obtain⟨W1,S8,U9⟩:=a4f (P:=l.prog) (w:=w) (base:=base) (k:=1) M8.up M6 m9 k8 C8 i28.F (i28.F.binds (ps:=["mates"]) fun _ _ _ _ _ _ us hl=>us1 hl fun _=>rfl) (zY X G i28.a);obtain⟨a4K,a36,a4d⟩:=b0W (P:=l.prog) (w:=w) (base:=base) (k:=3) X5.up a09 P6.up a0j T9.up W0 S8.up U9 v4 g7 i29.F (i29.F.binds (ps:=["web"]) fun _ _ _ _ _ _ us hl=>us1 hl fun _=>rfl) (zY X G i29.a);obtain⟨Q5,P1,P3⟩:=a2W (P:=l.prog) (w:=w) (base:=base) (k:=0) i0 m_int P7 i30.F (i30.F.binds (ps:=["thing"]) fun _ _ _ _ _ _ us hl=>us1 hl fun _=>rfl) (zY X G i30.a);obtain⟨M7,E1,D9⟩:=a2E (P:=l.prog) (w:=w) (base:=base) (k:=1) u6.up u4 P1.up P3 i0 m9 m_all v4 k8 g7 i31.F (i31.F.binds (ps:=["web","thing"]) fun _ _ _ _ _ _ us hl=>us2 hl fun _ _=>rfl) (zY X G i31.a);exact b4w (P:=l.prog) (w:=w) (base:=base) (k:=59) S4.up V4 Y8.up a0n V6.up V0 M1.up L5 K8.up L9 K3.up K0 N2.up M3 a36.up a4d E1.up D9 g7 m_max m_min v4 m9 m_len k8 i0 P7 (b06 (st:=a0u) ll c k)
end Q26
open PySem PySem.W PyProof.Rows
namespace PySem.W.Fast
def tw11875642357751859538:=()
def tw3902366135053642861:=()
def tw5126831545279396340:=()
def tw3996202735556654290:=()
def tw2685315342190182376:=()
def tw8117468435297301125:=()
def tw13091630854259565889:=()
def tw17519325654261105888:=()
def tw16996201616771104114:=()
def tw8225453274975790544:=()
def tw15830233078223353418:=()
def tw11168673963759641182:=()
def tw18129880863933766596:=()
def tw17023911758894423916:=()
def tw4615818041632323993:=()
def tw14648643831896221624:=()
def tw9541841246125862642:=()
def tw2836431100621759862:=()
def tw4027773141126697847:=()
def tw8185260687955428992:=()
def tw14225545681254080388:=()
def tw12482292287618816185:=()
def tw17748123751123160141:=()
def tw9019554893650148262:=()
def tw16445976112107415333:=()
def tw1074667979070967737:=()
def tw10871721467181281953:=()
def tw8099475386689295541:=()
def tw10768200500819547176:=()
def tw12333797391625963267:=()
def tw10220117886244681976:=()
def tw18028416411857078212:=()
def tw4593419353725804295:=()
def tw8989847385480720553:=()
def tw18044376407905821368:=()
def tw12545629760213829863:=()
def tw10845544188361405583:=()
def tw498842270937483484:=()
def tw2784913375228734266:=()
def tw9536433201439658028:=()
def tw3900879511030239838:=()
def tw13519794834420255178:=()
def tw2721128620950651606:=()
def tw4678183274038235944:=()
def tw14171264030029450754:=()
def tw12814983164737074380:=()
def tw1508110944326867321:=()
def tw8913206941740812163:=()
def tw4866283305730995262:=()
def tw11683719491612300038:=()
def tw5069925905428665313:=()
def tw4523376073022746246:=()
def tw1233619977732981082:=()
def tw13444169300108445596:=()
def tw10304293756323073249:=()
def tw4126506154731417694:=()
def tw2077784159177805565:=()
def tw16963227362776183537:=()
def tw17219543508333706879:=()
def tw2392505543829539427:=()
def tw17317422642675513170:=()
def tw15447272773760407544:=()
def tw14723327176191566065:=()
def tw14875449180690291471:=()
def tw11388236145744773142:=()
def tw838120570683487303:=()
def tw12343687113233942144:=()
def tw8810855697130888931:=()
def tw13158422616986377981:=()
def tw16376634704146289515:=()
def tw11180723583391001641:=()
def tw14458807729361575769:=()
def tw14967716244760011580:=()
def tw16558995547350807022:=()
def tw7427459095919893024:=()
def tw9621877121635699881:=()
def tw6003628688211335862:=()
def tw2839428771647946889:=()
def tw13932188030307027957:=()
def tw12400796171859564474:=()
def tw12363833853035963128:=()
def tw16210317581959015813:=()
def tw13335487185148905762:=()
def tw16915809857804039881:=()
def tw14315817396936834313:=()
def tw7290652371901693562:=()
def tw7546178912041410450:=()
def tw857043116687031757:=()
def tw16583180578002655370:=()
def tw2045671401716916888:=()
def tw9189717706104202027:=()
def tw15446513861643068157:=()
def tw826441778600700364:=()
def tw4766127592917414644:=()
def tw5885038096697393624:=()
def tw6151231137624708212:=()
def tw9625543798445099514:=()
def tw5070486376057770221:=()
def tw16086152857361650112:=()
def tw8498450519577496279:=()
def tw871287437057394485:=()
def tw2569346488389092330:=()
def tw2666118238106787313:=()
def tw18197908422426844080:=()
def tw6070217749795138587:=()
def tw7838863352996747818:=()
def tw6744418065036582979:=()
def tw5448782559610669479:=()
def tw3388191168832715435:=()
def tw8013779317512703939:=()
end PySem.W.Fast
set_option maxRecDepth 100000 in
set_option maxHeartbeats 0 in
theorem PySem.Challenge.cw_twainhoard_k26_doubles_known_holds : PySem.Challenge.rw_twainhoard_k26_doubles_known.Holds := by
 w_on;o_law;k_head;(case hw=>w_witness2)
 k_fill
 refine Z.walk (l:=PySem.Challenge.rw_twainhoard_k26_doubles_known) rfl rfl (fun w h Y=>PySem.W.kIn_of Y) ?F
 case F=>
  intro w mg fa h KX G hmg
  refine' Q26.b4e KX G hmg (Q26.DI.mk2 ?_ ?_ ?_ ?_) (Q26.DI.mk2 ?_ ?_ ?_ ?_) (Q26.DI.mk2 ?_ ?_ ?_ ?_) (Q26.DI.mk2 ?_ ?_ ?_ ?_) (Q26.DI.mk2 ?_ ?_ ?_ ?_) (Q26.DI.mk2 ?_ ?_ ?_ ?_) (Q26.DI.mk2 ?_ ?_ ?_ ?_) (Q26.DI.mk2 ?_ ?_ ?_ ?_) (Q26.DI.mk2 ?_ ?_ ?_ ?_) (Q26.DI.mk2 ?_ ?_ ?_ ?_) (Q26.DI.mk2 ?_ ?_ ?_ ?_) (Q26.DI.mk2 ?_ ?_ ?_ ?_) (Q26.DI.mk2 ?_ ?_ ?_ ?_) (Q26.DI.mk2 ?_ ?_ ?_ ?_) (Q26.DI.mk2 ?_ ?_ ?_ ?_) (Q26.DI.mk2 ?_ ?_ ?_ ?_) (Q26.DI.mk2 ?_ ?_ ?_ ?_) (Q26.DI.mk2 ?_ ?_ ?_ ?_) (Q26.DI.mk2 ?_ ?_ ?_ ?_) (Q26.DI.mk2 ?_ ?_ ?_ ?_) (Q26.DI.mk2 ?_ ?_ ?_ ?_) (Q26.DI.mk2 ?_ ?_ ?_ ?_) (Q26.DI.mk2 ?_ ?_ ?_ ?_) (Q26.DI.mk2 ?_ ?_ ?_ ?_) (Q26.DI.mk2 ?_ ?_ ?_ ?_) (Q26.DI.mk2 ?_ ?_ ?_ ?_) (Q26.DI.mk2 ?_ ?_ ?_ ?_) (Q26.DI.mk2 ?_ ?_ ?_ ?_) (Q26.DI.mk2 ?_ ?_ ?_ ?_) (Q26.DI.mk2 ?_ ?_ ?_ ?_) (Q26.DI.mk2 ?_ ?_ ?_ ?_) ?_ ?_ ?_ ?_ ?_ ?_ ?_ ?_ ?_ ?_ ?_ ?_ ?_ ?_ ?_ ?_ ?_ ?_ ?_ ?_
  all_goals try k_is
