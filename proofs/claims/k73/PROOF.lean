import PyProof.Rows.All
import Wide.All
import OpenK.AllK
import Wide.FinOn
import Lean
import PyProof.EqAt
import PyProof.EqKinds
import PyProof.TupleCall
import PyProof.DictRoadsH
import PyProof.DictRoads
import PyProof.DictIter
import PyProof.CompUse
import PyProof.SumWalkG
import KE.KSort
import PyProof.EnumMake
import PyProof.Rows.ZipGen
import PyProof.Rows.RuleDivmod
import PyProof.ListRange
import KE.KDictSum
import KE.KSortTup
import PyProof.DictCompW
import PyProof.ListMulAny
import PyProof.ReprRoads
import PyProof.FitsInt
import PyProof.WalksMore
import PyProof.Rows.MinMaxN
import PyProof.DictTable
import PySem.Challenge.RW_twainhoard_k73_from_which_gain_on
set_option Elab.async false
set_option compiler.extract_closed false
set_option genSizeOf false
set_option genInjectivity false
set_option bootstrap.genMatcherCode false
set_option linter.all false
set_option maxRecDepth 100000
theorem ex5 {α β:Type}{A B C:α->β->Prop}{G:Prop}(h:∃x y,A x y/\B x y/\C x y)(k:∀x y,A x y->B x y->C x y->G):G:=by
 obtain ⟨x,y,a,b,c⟩:=h;exact k x y a b c
open List (mem_filterMap of_mem_zip length_take mem_of_getElem? length_replicate zip_nil_left all_cons any_cons find?_cons nodup_nil getElem?_set ext_getElem? getElem?_range getElem?_eq_none all_eq_true getElem?_eq_getElem take_length append_assoc nil_append forIn_cons forIn_nil length_range map_id filter_map filter_sublist mem_flatMap nodup_range filter_congr sum_cons ext_getElem getElem_set)
open Option (isSome_iff_exists getD_none isSome_map bind_some getD_some)
open PySem.Heap (size_push)
abbrev zA:=@PySem.wpAny_bind
abbrev zB:=@PySem.wpAny_pure
abbrev zC:=@List.length_map
abbrev zD:=@PySem.Heap.get?_push_of_some
abbrev zE:=@List.mem_map
abbrev zF:=@Nat.le_refl
abbrev zG:=@List.mem_cons_self
abbrev zH:=@List.map_cons
abbrev zI:=@Nat.lt_of_lt_of_le
abbrev zJ:=@List.mem_cons_of_mem
abbrev zK:=@List.mem_cons
abbrev zL:=@decide_eq_true
abbrev zM:=@List.mem_filter
abbrev zN:=@List.mem_singleton
abbrev zO:=@decide_eq_false
abbrev zP:=@Nat.le_trans
abbrev zQ:=@List.getElem?_eq_some_iff
abbrev zR:=@PySem.wpAny_mono
abbrev zS:=@List.getD_eq_getElem?_getD
abbrev zT:=@Bool.false_ne_true
abbrev zU:=@List.getElem?_set_ne
abbrev zV:=@List.size_toArray
abbrev zW:=@PySem.Heap.get?_push_size
abbrev zX:=@PySem.Heap.lt_size
abbrev zY:=@Nat.ne_of_lt
abbrev zZ:=@PySem.W.mg_of
abbrev qA:=@List.getElem?_append_left
abbrev qB:=@List.length_append
abbrev qC:=@List.length_cons
abbrev qD:=@PySem.wpAny_holding
abbrev qE:=@List.mem_append_right
abbrev qF:=@Bool.and_eq_true
abbrev qG:=@List.getElem?_append_right
abbrev qH:=@List.getElem?_map
abbrev qI:=@PySem.W.mg_none_of
abbrev qJ:=@PySem.wpAny_callSpecial?_slot
abbrev qK:=@List.length_set
abbrev qL:=@List.getElem?_eq_getElem
abbrev qM:=@of_decide_eq_true
abbrev qN:=@Int.toNat_natCast
abbrev qO:=@decide_eq_true_iff
abbrev qP:=@PySem.PassesOwn.never
abbrev qQ:=@PySem.Heap.SameBut.update
abbrev qR:=@PySem.wpAny_call_entry
abbrev qS:=@List.map_map
abbrev qT:=@Nat.one_le_two_pow
abbrev qU:=@Option.some.inj
abbrev qV:=@PySem.wpAny_newObj_type
abbrev qW:=@PyProof.Rows.slot_tuple_getitem
abbrev qX:=@Ne.symm
abbrev qY:=@List.getElem?_cons_succ
abbrev qZ:=@Array.length_toList
abbrev jA:=@List.mem_append
abbrev jB:=@List.pairwise_map
abbrev jC:=@PySem.wpAny_field
abbrev jD:=@PyProof.Rows.callWith_type1
abbrev jE:=@Nat.pow_le_pow_right
abbrev jF:=@if_true
abbrev jG:=@List.map_congr_left
abbrev jH:=@Option.map_some
abbrev jI:=@List.getElem?_eq_none
abbrev jJ:=@Bool.false_eq_true
abbrev jK:=@List.length_filter_le
abbrev jL:=@Nat.lt_irrefl
abbrev jM:=@PySem.F.slot_dict_keyiterator_next
abbrev jN:=@Int.toNat_of_nonneg
abbrev jO:=@PySem.sizeLine_eq
abbrev jP:=@List.append_nil
abbrev jQ:=@List.map_append
abbrev jR:=@Nat.zero_le
abbrev jS:=@Int.le_refl
abbrev jT:=@PySem.W.kia_one
abbrev jU:=@Nat.sub_self
abbrev jV:=@PyProof.Rows.KeyOrd.kle_refl
abbrev jW:=@PySem.AutoSeq1.wpAny_loadPart'
abbrev jX:=@List.zip_cons_cons
abbrev jY:=@PySem.wpAny_typeNameOfWhole_keyiter
abbrev jZ:=@Bool.false_and
abbrev xA:=@PySem.Heap.get?_update_self
abbrev xB:=@PySem.wpAny_seqItems
abbrev xC:=@List.filter_sublist
abbrev xD:=@List.mem_flatten
abbrev xE:=@PySem.wpAny_setField_rec
abbrev xF:=@Int.natCast_pow
abbrev xG:=@PySem.Paired.length
abbrev xH:=@if_false
abbrev xI:=@Bool.true_and
abbrev xJ:=@PySem.wpAny_truthy_bool
abbrev xK:=@List.nodup_cons
abbrev xL:=@List.getElem?_eq_none_iff
abbrev xM:=@List.length_singleton
abbrev xN:=@List.nodup_append
abbrev xO:=@PySem.wpAny_typeNameOf_keyiter
abbrev xP:=@List.Pairwise.imp_of_mem
abbrev xQ:=@List.flatten_cons
abbrev xR:=@PySem.mem_of_lookup
abbrev xS:=@List.getElem?_cons_zero
abbrev xT:=@List.map_nil
abbrev xU:=@List.mem_range
abbrev xV:=@List.mem_append_left
abbrev xW:=@PySem.wpAny_Call_Name_kw
abbrev xX:=@List.length_nil
abbrev xY:=@PySem.wpAny_rule
abbrev xZ:=@PySem.tupleKind_room_in1
abbrev yA:=@List.length_eq_zero_iff
abbrev yB:=@beq_iff_eq
abbrev yC:=@PyProof.Rows.subscriptTail_builtinR
abbrev yD:=@List.not_mem_nil
abbrev yE:=@List.filter_cons
abbrev yF:=@Bool.not_eq_true'
abbrev yG:=@PySem.Heap.get?_update_ne
abbrev yH:=@List.append_assoc
noncomputable section
local macro_rules | `(tactic| walk_at "o") => `(tactic| first | lia | omega)
namespace L2
open PySem PySem.Spec PyProof.Rows
abbrev Key:=Sum Int Str
def keyIs:Key->Value->Bool
 | .inl k,v=>Value.isInt k v
 | .inr x,v=>Value.isStrOf x v
def keyH (w:World):Key->Int
 | .inl k=>hashInt k
 | .inr x=>hashStr w x
theorem l6:∀{k:Key} {v:Value},keyIs k v=true->(∃i t,k=Sum.inl i/\v=Value.int i t)\/(∃x t,k=Sum.inr x/\v=Value.str x t)
 | .inl i,v,h=>by
  obtain⟨t,e⟩:=Value.isInt_shape (k:=i) (v:=v) h;exact .inl ⟨i,t,rfl,e⟩
 | .inr x,v,h=>by
  obtain⟨t,e⟩:=Value.isStrOf_shape (x:=x) (v:=v) h;exact .inr ⟨x,t,rfl,e⟩
theorem a5K (i:Int)(t:Tok):keyIs (.inl i) (.int i t)=true:=by simp[keyIs,Value.isInt]
theorem a6d (x:Str)(t:Tok):keyIs (.inr x) (.str x t)=true:=by simp[keyIs,Value.isStrOf]
theorem b02 (a b:Int):decide ((Sum.inl a:Key)=Sum.inl b)=(a==b):=by
 by_cases e:a=b
 ·subst e;simp
 ·have h:¬(Sum.inl a:Key)=Sum.inl b:=fun q=>e (Sum.inl.inj q);rw[zO h];exact(beq_eq_false_iff_ne.mpr e).symm
theorem b1U (a b:Str):decide ((Sum.inr a:Key)=Sum.inr b)=decide (a=b):=by
 by_cases e:a=b
 ·subst e;simp
 ·have h:¬(Sum.inr a:Key)=Sum.inr b:=fun q=>e (Sum.inr.inj q);rw[zO h,zO e]
theorem b1c (a:Int)(b:Str):decide ((Sum.inl a:Key)=Sum.inr b)=false:=zO (fun q=>nomatch q)
theorem b1k (a:Str)(b:Int):decide ((Sum.inr a:Key)=Sum.inl b)=false:=zO (fun q=>nomatch q)
def mixKind (prog:Program) (w:World):PySem.KeyKind prog w Key where
 is:=keyIs
 hash:=keyH w
 inj:=fun v a b ha hb=>by
  rcases l6 ha with ⟨i,t,rfl,rfl⟩|⟨x,t,rfl,rfl⟩
  ·rcases l6 hb with ⟨j,u,rfl,e⟩|⟨y,u,rfl,e⟩
   ·injection e with e1 _;rw[e1]
   ·exact nomatch e
  ·rcases l6 hb with ⟨j,u,rfl,e⟩|⟨y,u,rfl,e⟩
   ·exact nomatch e
   ·injection e with e1 _;rw[e1]
 byValue:=fun k v h=>by
  rcases l6 h with ⟨i,t,rfl,rfl⟩|⟨x,t,rfl,rfl⟩<;>rfl
 pyHash:=fun hv h=>by
  rcases l6 hv with ⟨i,t,rfl,rfl⟩|⟨x,t,rfl,rfl⟩
  ·exact wpAny_pyHash_int h
  ·exact wpAny_pyHash_str h
 eqBool:=fun hu hv h=>by
  rcases l6 hu with ⟨i,t,rfl,rfl⟩|⟨x,t,rfl,rfl⟩
  ·rcases l6 hv with ⟨j,u,rfl,rfl⟩|⟨y,u,rfl,rfl⟩
   ·rw[b02] at h;exact wpAny_eqBool_int h
   ·rw[b1c] at h;exact SeqAt.EqAt.int_str i t y u _ _ _ _ h
  ·rcases l6 hv with ⟨j,u,rfl,rfl⟩|⟨y,u,rfl,rfl⟩
   ·rw[b1k] at h;exact SeqAt.EqAt.str_int x t j u _ _ _ _ h
   ·rw[b1U] at h;exact wpAny_eqBool_str h
 «strs»:=fun k x t v h=>by
  rcases l6 h with ⟨i,u,rfl,e⟩|⟨y,u,rfl,e⟩
  ·exact nomatch e
  ·injection e with e1 _
   subst e1;cases v<;>rfl
theorem a3O (prog:Program)(w:World)(k:Key)(v:Value):(mixKind prog w).is k v=keyIs k v:=rfl
theorem a28 (prog:Program)(w:World)(i:Int)(t:Tok):(mixKind prog w).is (.inl i) (.int i t)=true:=a5K i t
theorem a25 (prog:Program)(w:World)(x:Str)(t:Tok):(mixKind prog w).is (.inr x) (.str x t)=true:=a6d x t
inductive V where
 | non|bl (b:Bool)|int (i:Int)|str (x:Str)|byt (b:Array UInt8)|flt (b:UInt64)|ref (a:Addr)|ty (n:String)
def RelV:V->Value->Prop
 | .non,u=>u=Value.none
 | .bl b,u=>u=Value.bool b
 | .int i,u=>∃t,u=Value.int i t
 | .str x,u=>∃t,u=Value.str x t
 | .byt b,u=>∃t,u=Value.bytes b t
 | .flt b,u=>∃t,u=Value.float b t
 | .ref a,u=>u=Value.ref a
 | .ty n,u=>u=Value.type n
abbrev Vals:List V->List Value->Prop:=Paired RelV
theorem Vals.length {xs:List V}{us:List Value}(r:Vals xs us):xs.length=us.length:=xG r
theorem Vals.get:∀{xs:List V} {us:List Value} {i:Nat} {x:V},Vals xs us->xs[i]? =some x->∃u,us[i]? =some u/\RelV x u
 | _,_,_,_,.nil,e=>by simp at e
 | _,_,0,_,.cons r _,e=>by simp at e;subst e;exact⟨_,rfl,r⟩
 | _,_,i+1,x,.cons _ t,e=>by
  obtain⟨u,h1,h2⟩:=Vals.get (i:=i) (x:=x) t (by simpa using e)
  exact⟨u,by simpa using h1,h2⟩
theorem Vals.set {x:V}{u:Value}(r:RelV x u):∀{xs:List V} {us:List Value} (i:Nat),Vals xs us->Vals (xs.set i x) (us.set i u)
 | _,_,_,.nil=>.nil
 | _,_,0,.cons _ t=>.cons r t
 | _,_,i+1,.cons q t=>.cons q (Vals.set r i t)
theorem Vals.append:∀{xs ys:List V} {us ws:List Value},Vals xs us->Vals ys ws->Vals (xs++ys) (us++ws)
 | _,_,_,_,.nil,s=>s
 | _,_,_,_,.cons r t,s=>.cons r (Vals.append t s)
theorem Vals.take:∀{xs:List V} {us:List Value} (n:Nat),Vals xs us->Vals (xs.take n) (us.take n)
 | _,_,0,_=>.nil
 | _,_,_+1,.nil=>.nil
 | _,_,n+1,.cons r t=>.cons r (Vals.take n t)
theorem Vals.drop:∀{xs:List V} {us:List Value} (n:Nat),Vals xs us->Vals (xs.drop n) (us.drop n)
 | _,_,0,r=>r
 | _,_,_+1,.nil=>.nil
 | _,_,n+1,.cons _ t=>Vals.drop n t
def RelO:Option V->Option Value->Prop
 | some v,some u=>RelV v u
 | none,none=>True
 | _,_=>False
def KV {κ:Type}:List (κ×V)->List (κ×Value)->Prop:=Paired fun(p:κ×V) (q:κ×Value)=>p.1=q.1/\RelV p.2 q.2
def kV:Key->V
 | .inl i=>.int i
 | .inr x=>.str x
inductive HO where
 | lst (xs:List V)
 | tup (xs:List V)
 | dK (kvs:List (Key×V))|dT (kvs:List (List Key×V))
 | set (S:Int->Bool) (n:Nat)
 | ins (C dx:Addr) (fs:List (Str×V))
 | own (x:Addr)
 | xd (fs:List (Str×V))
 | met (f x:Addr)
 | rng (lo hi:Int)
 | frz (o:Obj) (u:HO)
 | tbl (ps:Array Value)
 | ext (φ:Heap->Prop)
abbrev Hp:=Addr->Option HO
def upd (H:Hp) (a:Addr) (o:HO):Hp:=fun b=>if b=a then some o else H b
theorem j9 {H:Hp}{a:Addr}{o:HO}:upd H a o a=some o:=by unfold upd;rw[if_pos rfl]
theorem c7 {H:Hp}{a b:Addr}{o:HO}(h:b≠a):upd H a o b=H b:=by unfold upd;rw[if_neg h]
theorem a9O {H:Hp}{a b:Addr}{o u:HO}(h:H a=some o)(h':H b=some u)(d:o≠u):a≠b:=by
 intro e;subst e;rw[h] at h';exact d (qU h')
theorem l0 {H:Hp}{a b:Addr}{o:HO}(h:H a=some o)(h':H b=none):a≠b:=by
 intro e;subst e;rw[h] at h';cases h'
def TupN (h:Heap) (a:Addr) (its:Array Value):Prop:=∃o,h.get? a=some o/\o.cls= .type "tuple"/\(∃n,o.data= .seq its n)/\o.dict=none
theorem TupN.is {h:Heap}{a:Addr}{its:Array Value}(x:TupN h a its):IsTup h a its:=let ⟨o,e,c,d,_⟩:=x;⟨o,e,c,d⟩
theorem TupN.new (h:Heap)(its:Array Value):TupN (h.push {cls:=.type "tuple",data:=.seq its}) h.objs.size its:=⟨_,zW _ rfl,rfl,⟨_,rfl⟩,rfl⟩
section
variable (P:Program)(w:World)
def ObjOk (H:Hp) (h:Heap) (a:Addr):HO->Prop
 | .lst xs=>xs.length<=sizeLine/\∃(its:List Value) (n:Nat),Vals xs its/\h.get? a=some {cls:=.type "list",data:=.seq its.toArray n}
 | .tup xs=>xs.length<=sizeLine/\∃its:List Value,Vals xs its/\TupN h a its.toArray
 | .dK kvs=>kvs.length<=sizeLine/\(a==sysModules)=false/\∃vs,KV kvs vs/\h.DictAt (mixKind P w) a vs kvs.length
 | .dT kvs=>kvs.length<=sizeLine/\(a==sysModules)=false/\∃xs:List (List Key×Addr×Value),
   Paired (fun(p:List Key×V) (q:List Key×Addr×Value)=>p.1=q.1/\H q.2.1=some (.tup (p.1.map kV))/\RelV p.2 q.2.2) kvs xs/\
   ∃o es,h.get? a=some o/\o.ExactDict/\o.data= .dict es kvs.length/\es.toList=xs.map (entryOfKey (tupleKind (mixKind P w)))/\(xs.map (·.1)).Nodup
 | .set S n=>h.SetOf (intKind P w) a S n
 | .ins C dx fs=>H dx=some (.own a)/\fs.length<=1000/\dx≠a/\h.get? a=some (PySem.W.instObj C dx)/\
   ∃mA,h.Ns1 dx mA/\(∀f,RelO (fs.lookup f) (mA f))/\PySem.Within mA (fs.map (·.1))
 | .own _=>∃o,h.get? a=some o
 | .xd fs=>∃mA,h.Ns1 a mA/\∀f,RelO (fs.lookup f) (mA f)
 | .rng lo hi=>∃t u v,h.get? a=some {cls:=.type "range",data:=.fields #[.int lo t,.int hi u,.int 1 v]}
 | .frz o u=>h.get? a=some o/\ObjOk H h a u
 | .tbl ps=>h.get? a=some {cls:=.none,data:=.fields ps}
 | .met f x=>h.get? a=some (PySem.W.methodObj (.ref f) (.ref x))
 | .ext φ=>φ h/\(∃o,h.get? a=some o)/\∀h1 h2:Heap,φ h1->(∀o,h1.get? a=some o->h2.get? a=some o)->φ h2
def HOk (H:Hp) (h:Heap):Prop:=∀a o,H a=some o->ObjOk P w H h a o
end
section
variable {P:Program}{w:World}{H H':Hp}{h h':Heap}{a:Addr}{o:HO}
theorem ObjOk.lt (x:ObjOk P w H h a o):a<h.objs.size:=by
 cases o with
 | lst xs=>obtain⟨_,_,_,_,e⟩:=x;exact zX e
 | tup xs=>obtain⟨_,_,_,p⟩:=x;exact p.is.lt
 | dK kvs=>obtain⟨_,_,_,_,o,_,e,_⟩:=x;exact zX e
 | dT kvs=>obtain⟨_,_,_,_,o,_,e,_⟩:=x;exact zX e
 | set S n=>obtain⟨o,_,_,_,e,_⟩:=x;exact zX e
 | ins C dx fs=>obtain⟨_,_,_,e,_⟩:=x;exact zX e
 | own y=>obtain⟨_,e⟩:=x;exact zX e
 | xd fs=>obtain⟨_,⟨_,_,_,e,_⟩,_⟩:=x;exact zX e
 | rng lo hi=>obtain⟨_,_,_,e⟩:=x;exact zX e
 | frz ob u=>obtain⟨e,_⟩:=x;exact zX e
 | tbl ps=>exact zX (show h.get? a=some _ from x)
 | met f y=>exact zX (show h.get? a=some _ from x)
 | ext φ=>obtain⟨_,⟨_,e⟩,_⟩:=x;exact zX e
theorem Paired.mapP {α β:Type}{F G:α->β->Prop}:∀{l₁:List α} {l₂:List β},Paired F l₁ l₂->(∀a b,F a b->G a b)->Paired G l₁ l₂
 | _,_,.nil,_=>.nil
 | _,_,.cons r t,f=>.cons (f _ _ r) (Paired.mapP t f)
theorem ObjOk.stay (x:ObjOk P w H h a o)(k:∀b u,(b=a\/H b=some (.own a))->h.get? b=some u->h'.get? b=some u)
  (ho:∀b,H b=some (.own a)->H' b=some (.own a)) (ht:∀b xs,H b=some (.tup xs)->H' b=some (.tup xs)):ObjOk P w H' h' a o:=by
 induction o with
 | lst xs=>obtain⟨z,its,n,r,e⟩:=x;exact⟨z,its,n,r,k _ _ (.inl rfl) e⟩
 | tup xs=>obtain⟨z,its,r,ob,e,c⟩:=x;exact⟨z,its,r,ob,k _ _ (.inl rfl) e,c⟩
 | dK kvs=>obtain⟨z,y,vs,r,ob,es,e,c⟩:=x;exact⟨z,y,vs,r,ob,es,k _ _ (.inl rfl) e,c⟩
 | dT kvs=>
  obtain⟨z,y,xs,r,ob,es,e,c⟩:=x;exact⟨z,y,xs,Paired.mapP r fun p q z=>⟨z.1,ht _ _ z.2.1,z.2.2⟩,ob,es,k _ _ (.inl rfl) e,c⟩
 | set S n=>obtain⟨ob,es,ep,t,e,c⟩:=x;exact⟨ob,es,ep,t,k _ _ (.inl rfl) e,c⟩
 | ins C dx fs=>
  obtain⟨d,z,ne,e,mA,⟨od,es,ep,e2,c⟩,r⟩:=x;exact⟨ho _ d,z,ne,k _ _ (.inl rfl) e,mA,⟨od,es,ep,k _ _ (.inr d) e2,c⟩,r⟩
 | own y=>obtain⟨ob,e⟩:=x;exact⟨ob,k _ _ (.inl rfl) e⟩
 | xd fs=>obtain⟨mA,⟨od,es,ep,e,c⟩,r⟩:=x;exact⟨mA,⟨od,es,ep,k _ _ (.inl rfl) e,c⟩,r⟩
 | rng lo hi=>obtain⟨t,u,v,e⟩:=x;exact⟨t,u,v,k _ _ (.inl rfl) e⟩
 | frz ob u ih=>obtain⟨e,q⟩:=x;exact⟨k _ _ (.inl rfl) e,ih q⟩
 | tbl ps=>
  have e:h.get? a=some {cls:=.none,data:=.fields ps}:=x;show h'.get? a=some {cls:=.none,data:=.fields ps};exact k a _ (.inl rfl) e
 | met f y=>
  have e:h.get? a=some (PySem.W.methodObj (.ref f) (.ref y)):=x;show h'.get? a=some (PySem.W.methodObj (.ref f) (.ref y));exact k a _ (.inl rfl) e
 | ext φ=>obtain⟨p,⟨o,e⟩,st⟩:=x;exact⟨st _ _ p fun o q=>k _ _ (.inl rfl) q,⟨o,k _ _ (.inl rfl) e⟩,st⟩
theorem HOk.lt (x:HOk P w H h)(e:H a=some o):a<h.objs.size:=(x a o e).lt
theorem HOk.fresh (x:HOk P w H h)(e:h.objs.size<=a):H a=none:=by
 cases q:H a with
 | none=>rfl
 | some u=>exact absurd (zI (x.lt q) e) (jL _)
theorem HOk.kept (x:HOk P w H h)(k:∀b u,h.get? b=some u->h'.get? b=some u):HOk P w H h':=fun a o e=>
 (x a o e).stay (fun b u _ q=>k b u q) (fun _ q=>q) fun _ _ q=>q
theorem HOk.laid (x:HOk P w H h)(k:∀b u,h.get? b=some u->h'.get? b=some u)(hp:h.objs.size<=a)(new:ObjOk P w (upd H a o) h' a o):HOk P w (upd H a o) h':=fun b u e=>by
 have hn:=x.fresh hp
 by_cases hb:b=a
 ·subst hb;rw[j9] at e;cases e;exact new
 ·rw[c7 hb] at e;exact(x b u e).stay (fun c v _ q=>k c v q) (fun c q=>by rw[c7 (l0 q hn)];exact q) fun c xs q=>by rw[c7 (l0 q hn)];exact q
end
def Rd (H:Hp) (a:Addr) (u:HO):Prop:=H a=some u\/∃o,H a=some (.frz o u)
theorem Rd.of {H:Hp}{a:Addr}{u:HO}(h:H a=some u):Rd H a u:=.inl h
theorem Rd.ok {P:Program}{w:World}{H:Hp}{h:Heap}{a:Addr}{u:HO}(r:Rd H a u)(x:HOk P w H h):ObjOk P w H h a u:=by
 rcases r with r|⟨o,r⟩
 ·exact x a u r
 ·obtain⟨_,q⟩:=x a _ r;exact q
def Mut:Option HO->Prop
 | some (.lst _)=>True
 | some (.dK _)=>True
 | some (.dT _)=>True
 | some (.set _ _)=>True
 | some (.ins _ _ _)=>True
 | some (.ext _)=>True
 | _=>False
section
variable {P:Program}{w:World}{H:Hp}{h h':Heap}{x e:Addr}{o':HO}
theorem HOk.write (ok:HOk P w H h)(mu:Mut (H x))(he:e=x\/H e=some (.own x))(k:∀b u,b≠e->h.get? b=some u->h'.get? b=some u)(heo:∃u,h'.get? e=some u)
  (new:ObjOk P w (upd H x o') h' x o'):HOk P w (upd H x o') h':=fun b u q=>by
 have nown:∀c y,H c=some (.own y)->c≠x:=fun c y r z=>by subst z;rw[r] at mu;exact mu
 have ntup:∀c xs,H c=some (.tup xs)->c≠x:=fun c xs r z=>by subst z;rw[r] at mu;exact mu
 by_cases hb:b=x
 ·subst hb;rw[j9] at q;cases q;exact new
 ·rw[c7 hb] at q
  by_cases hbe:b=e
  ·have q':H b=some (.own x):=by
    rcases he with z|z
    ·exact absurd (hbe.trans z) hb
    ·rw[hbe];exact z
   rw[q] at q';cases q';obtain⟨v,hv⟩:=heo;exact⟨v,by rw[hbe];exact hv⟩
  ·refine(ok b u q).stay (fun c v hc r=>k c v ?_ r) (fun c r=>by rw[c7 (nown c b r)];exact r) fun c xs r=>by rw[c7 (ntup c xs r)];exact r
   rcases hc with rfl|hc
   ·exact hbe
   ·rintro rfl;rcases he with z|z
    ·exact nown c b hc z
    ·rw[hc] at z;cases z;exact hb rfl
end
structure Un (fs ex:List Addr) (H H':Hp) (h h':Heap):Prop where
 keep:∀b o,h.get? b=some o->H b=none->b∉fs->b∉ex->h'.get? b=some o
 slot:∀b o,h.get? b=some o->H b=none->b∈fs->b∉ex->∃sl,h'.get? b=some {o with slots:=sl}
 free:∀b o,h.get? b=some o->H b=none->b∉ex->H' b=none
 there:∀b o,h.get? b=some o->b∉ex->∃o',h'.get? b=some o'
 tups:∀b xs,H b=some (.tup xs)->H' b=some (.tup xs)
 frzs:∀b o u,H b=some (.frz o u)->H' b=some (.frz o u)
 tbls:∀b ps,H b=some (.tbl ps)->∃more,H' b=some (.tbl (ps++more))
section
variable {fs ex:List Addr}{H H1:Hp}{h h1 h':Heap}{a x e:Addr}{o:HO}
theorem Un.any (u:Un fs ex H H1 h h1){b:Addr}{ob:Obj}(q:h.get? b=some ob)(n:H b=none)(hx:b∉ex):∃sl,h1.get? b=some {ob with slots:=sl}:=by
 by_cases hb:b∈fs
 ·exact u.slot b ob q n hb hx
 ·exact⟨ob.slots,u.keep b ob q n hb hx⟩
theorem Un.kept (k:∀b u,h.get? b=some u->h'.get? b=some u):Un fs ex H H h h':=
 ⟨fun b ob q _ _ _=>k b ob q,fun b ob q _ _ _=>⟨ob.slots,k b ob q⟩,fun _ _ _ n _=>n,fun b ob q _=>⟨ob,k b ob q⟩,fun _ _ q=>q,fun _ _ _ q=>q,fun _ ps q=>⟨#[],by rw[q];simp⟩⟩
theorem Un.refl:Un fs ex H H h h:=Un.kept fun _ _ q=>q
theorem Un.laid (k:∀b u,h.get? b=some u->h'.get? b=some u)(hp:h.objs.size<=a)(hn:H a=none):Un fs ex H (upd H a o) h h' where
 keep:=fun b u q _ _ _=>k b u q
 slot:=fun b u q _ _ _=>⟨u.slots,k b u q⟩
 free:=fun b u q n _=>by rw[c7 (zY (zI (zX q) hp))];exact n
 there:=fun b u q _=>⟨u,k b u q⟩
 tups:=fun b xs q=>by rw[c7 (l0 q hn)];exact q
 frzs:=fun b u xs q=>by rw[c7 (l0 q hn)];exact q
 tbls:=fun b ps q=>⟨#[],by rw[c7 (l0 q hn),q];simp⟩
theorem Un.write (mu:Mut (H x))(he:e=x\/H e=some (.own x))(k:∀b u,b≠e->h.get? b=some u->h'.get? b=some u)(heo:∃u,h'.get? e=some u):Un fs ex H (upd H x o) h h':=by
 have hx:∀b,H b=none->b≠x:=fun b n z=>by subst z;rw[n] at mu;exact mu
 have hb:∀b,H b=none->b≠e:=fun b n z=>by
  subst z;rcases he with r|r
  ·exact hx b n r
  ·rw[n] at r;cases r
 have hm:∀b u,H b=some u->¬Mut (some u)->b≠x:=fun b u q nm z=>by subst z;rw[q] at mu;exact nm mu
 refine⟨fun b u q n _ _=>k b u (hb b n) q,fun b u q n _ _=>⟨u.slots,k b u (hb b n) q⟩,fun b u q n _=>by rw[c7 (hx b n)];exact n,fun b u q _=>?_,
  fun b xs q=>by rw[c7 (hm b _ q fun z=>z)];exact q,fun b u xs q=>by rw[c7 (hm b _ q fun z=>z)];exact q,fun b ps q=>⟨#[],by rw[c7 (hm b _ q fun z=>z),q];simp⟩⟩
 by_cases hbe:b=e
 ·subst hbe;exact heo
 ·exact⟨u,k b u hbe q⟩
end
def trk (h:Heap) (H:Hp):List Addr:=(List.range h.objs.size).filter fun a=>(H a).isSome
def hidT (h:Heap) (H:Hp):Heap:=PySem.W.hideAll h (trk h H)
theorem a6f (h:Heap)(H:Hp):(hidT h H).objs.size=h.objs.size:=PySem.W.hideAll_size _ _
theorem a7X {h:Heap}{H:Hp}{b:Addr}{o:Obj}(e:h.get? b=some o)(n:H b=none):(hidT h H).get? b=some o:=
 PySem.W.hideAll_get _ e fun hm=>by
  have q:(H b).isSome=true:=(zM.mp hm).2;rw[n] at q;simp at q
theorem a80 {h:Heap}{H:Hp}{b:Addr}{o:Obj}(e:(hidT h H).get? b=some o):h.get? b=some o/\H b=none:=by
 have e':h.get? b=some o:=PySem.W.of_hideAll (trk h H) e;refine⟨e',?_⟩;cases q:H b with
 | none=>rfl
 | some x=>
  have hm:b∈trk h H:=zM.mpr ⟨xU.mpr (zX e'),by simp[q]⟩
  have z:(hidT h H).get? b=none:=PySem.W.hideAll_none (trk h H) hm;rw[z] at e;cases e
def allNews (g h:Heap) (L:Addr):List (Addr×Obj):=(List.range h.objs.size).filterMap fun a=>if a=L\/(g.get? a).isSome=true then none else(h.get? a).map fun o=>(a,o)
theorem a3t {g h:Heap}{L a:Addr}{o:Obj}(h1:a≠L)(h2:g.get? a=none)(h3:h.get? a=some o):(a,o)∈allNews g h L:=
 mem_filterMap.mpr ⟨a,xU.mpr (zX h3),by simp[h1,h2,h3]⟩
theorem a0p {g h:Heap}{L:Addr}{p:Addr×Obj}(hp:p∈allNews g h L):p.1≠L/\g.get? p.1=none/\h.get? p.1=some p.2:=by
 obtain⟨b,_,e⟩:=mem_filterMap.mp hp;split at e
 ·cases e
 ·rename_i hn;cases q:h.get? b with
  | none=>rw[q] at e;simp at e
  | some u=>
   rw[q] at e;simp only[jH,Option.some.injEq] at e;subst e;refine⟨fun z=>hn (.inl z),?_,q⟩;show g.get? b=none;cases r:g.get? b with
   | none=>rfl
   | some v=>exact(hn (.inr (by simp[r]))).elim
def rest (g h:Heap) (L d:Addr):List (Addr×Obj):=(allNews g h L).filter fun p=>decide (p.1≠d)
theorem a5h {g h:Heap}{L d:Addr}:∀p∈rest g h L d,p.1≠d:=fun p hp=>qM (zM.mp hp).2
theorem a7h {g h:Heap}{L d a:Addr}{o:Obj}(h1:a≠L)(h2:g.get? a=none)(h3:h.get? a=some o)(h4:a≠d):(a,o)∈rest g h L d:=
 zM.mpr ⟨a3t h1 h2 h3,zL h4⟩
theorem a7V {g h:Heap}{L:Addr}:News g L h (allNews g h L):=fun p hp=>let ⟨a,b,c⟩:=a0p hp;⟨c,a,b⟩
theorem a8Y {g h:Heap}{L d:Addr}{o:Obj}(h1:d≠L)(h2:g.get? d=none)(h3:h.get? d=some o):News g L h ((d,o)::rest g h L d):=fun p hp=>by
 rcases zK.mp hp with rfl|hp
 ·exact⟨h3,h1,h2⟩
 ·exact a7V p (zM.mp hp).1
theorem a15 {g h h':Heap}{L d:Addr}{m:Str->Option Value}(k:∀b o,g.get? b=some o->h.get? b=some o)(F:Fr g L h' m)(N:News g L h' (rest g h L d)):
  ∀b o,b≠L->b≠d->h.get? b=some o->h'.get? b=some o:=fun b o h1 h2 e=>by
 cases q:g.get? b with
 | some u=>
  have:=k b u q
  rw[e] at this;cases this;exact F.keep b _ q
 | none=>exact(N (b,o) (a7h h1 q e h2)).1
structure Mod (K:PySem.W.Frag) (mg:Str->Option Value) (base:Heap):Prop where
 kin:K.In base
 glob:base.Ns mainGlobals mg
 blt:∃mb,base.Ns builtinsNs mb/\∀x:Str,x≠"__name__"->mb x=bootBuiltins x
 nolimit:base.NoLimit
structure Cx where
 prog:Program
 w:World
 K:PySem.W.Frag
 mg:Str->Option Value
 base:Heap
 A:Around
 N:List Str
 s₀:Shared
 H₀:Hp
 env:Env
 outer:List Env
 stack:List Env
 ex:List Addr
 fn:Str->Bool
 calm:Bool
 pn:List (Addr×Obj)
 xe:Value->Shared->Prop
def frs (l:List Env):List Addr:=l.filterMap (·.frame)
abbrev Cx.fs (X:Cx):List Addr:=frs X.outer
def Vis (sc:Scope) (x:Str):Prop:=sc.names.lookup x=some .local\/sc.names.lookup x=some .cell\/sc.names.lookup x=some .free
def Loc (sc:Scope) (x:Str):Prop:=sc.names.lookup x=some .local\/sc.names.lookup x=some .cell
def Look (env:Env) (h:Heap) (m:Str->Option Value) (x:Str) (u:Value):Prop:=
 (env.kindOf x=some .local/\m x=some u)\/((env.kindOf x=some .cell\/env.kindOf x=some .free)/\∃c,env.cells.lookup x=some c/\h.IsCell c (some u))
structure Cx.Ok (X:Cx):Prop where
 mod:Mod X.K X.mg X.base
 kind:X.env.scope.kind= .function
 glob:X.env.globals=mainGlobals
 blt:X.env.builtins=builtinsNs
 above:X.s₀.heap.objs.size<=X.env.locals
 inj:∀x y c,X.env.cells.lookup x=some c->X.env.cells.lookup y=some c->x=y
 has:∀x,(X.env.kindOf x=some .cell\/X.env.kindOf x=some .free)->∃c,X.env.cells.lookup x=some c
 cab:∀x c,X.fn x=true->X.env.cells.lookup x=some c->X.s₀.heap.objs.size<=c
 hd:X.calm=true->X.A.handled=none
 frames:X.A.frames=some X.stack
 stk:X.stack=X.outer\/(X.stack=X.env::X.outer/\X.env.frame=some X.env.locals)
 exf:∀b∈X.ex,b≠X.env.locals/\∀x c,X.env.cells.lookup x=some c->c≠b
 bs:∀b o,X.base.get? b=some o->X.s₀.heap.get? b=some o/\X.H₀ b=none
 bsz:X.base.objs.size<=X.s₀.heap.objs.size
 noex:∀b o,X.base.get? b=some o->b∉X.ex
 exfs:∀b∈X.ex,b∉X.fs
 funs:X.s₀.heap.FunFrames X.base X.outer
 frf:∀b∈X.fs,X.H₀ b=none
structure Inv (X:Cx) (pins:List (Addr×Obj)) (σ:List (Option V)) (H:Hp) (s:Shared):Prop where
 ok:X.Ok
 os:s.os=X.s₀.os
 bare:AllBare s.gens
 base:Un X.fs X.ex X.H₀ H X.s₀.heap s.heap
 loc:∃m,s.heap.Ns X.env.locals m/\∀(i:Nat) (x:Str) (v:V),X.N[i]? =some x->σ[i]? =some (some v)->Vis X.env.scope x->∃u,RelV v u/\Look X.env s.heap m x u
 cell:∀x c,X.env.cells.lookup x=some c->∃v,s.heap.IsCell c v
 free:H X.env.locals=none
 freeC:∀x c,X.env.cells.lookup x=some c->H c=none
 pin:∀p∈X.pn++pins,s.heap.get? p.1=some p.2/\H p.1=none/\p.1≠X.env.locals/\p.1∉X.fs/\∀v,p.2.data≠.cell v
 hok:HOk X.prog X.w H s.heap
 len:σ.length=X.N.length
section
variable {X:Cx}{pins:List (Addr×Obj)}{σ:List (Option V)}{H H':Hp}{s:Shared}{h':Heap}
theorem Cx.Ok.nofr (ok:X.Ok){b:Addr}{o:Obj}(e:X.base.get? b=some o):b∉X.fs:=fun hb=>by
 have:=(ok.funs.mem hb).1
 rw[e] at this;cases this
theorem Inv.bs (I:Inv X pins σ H s):∀b o,X.base.get? b=some o->s.heap.get? b=some o/\H b=none:=fun b o e=>
 ⟨I.base.keep b o (I.ok.bs b o e).1 (I.ok.bs b o e).2 (I.ok.nofr e) (I.ok.noex b o e),I.base.free b o (I.ok.bs b o e).1 (I.ok.bs b o e).2 (I.ok.noex b o e)⟩
theorem Inv.bk (I:Inv X pins σ H s):∀b o,X.base.get? b=some o->s.heap.get? b=some o:=fun b o e=>(I.bs b o e).1
theorem Inv.mod (I:Inv X pins σ H s):Mod X.K X.mg X.base:=I.ok.mod
theorem Inv.kIn (I:Inv X pins σ H s):X.K.In s.heap:=I.ok.mod.kin.keeps I.bk
theorem Inv.fr (I:Inv X pins σ H s):∃m,Fr X.base X.env.locals s.heap m:=
 let ⟨m,hn,_⟩:=I.loc
 ⟨m,hn,I.bk,zP I.ok.bsz I.ok.above⟩
theorem Inv.lt (I:Inv X pins σ H s):X.env.locals<s.heap.objs.size:=let ⟨_,hn,_⟩:=I.loc;hn.lt
theorem Inv.sz (I:Inv X pins σ H s):X.s₀.heap.objs.size<=s.heap.objs.size:=zP I.ok.above (Nat.le_of_lt I.lt)
theorem Inv.nofs (I:Inv X pins σ H s){a:Addr}(h:s.heap.objs.size<=a):a∉X.fs:=fun hb=>by
 obtain⟨_,o,ho,_⟩:=I.ok.funs.mem hb;exact absurd (zI (zX ho) (zP I.sz h)) (jL _)
theorem Inv.cne (I:Inv X pins σ H s):∀x c,X.env.cells.lookup x=some c->c≠X.env.locals:=fun x c e z=>by
 obtain⟨v,o,ho,hd⟩:=I.cell x c e;obtain⟨m,⟨o',es,ep,ho',hd',_⟩,_⟩:=I.loc;rw[z,ho'] at ho;cases ho;rw[hd'] at hd;cases hd
theorem Inv.funs (I:Inv X pins σ H s):s.heap.FunFrames X.base X.outer:=by
 have all:∀(l:List Env),(∀b∈frs l,b∈X.fs)->X.s₀.heap.FunFrames X.base l->s.heap.FunFrames X.base l:=by
  intro l
  induction l with
  | nil=>intro _ _;trivial
  | cons env r ih=>
   intro hs hl;obtain⟨hk,⟨L,o,hf,hn,ho,hd⟩,hr⟩:=hl;have hL:L∈X.fs:=hs L (by unfold frs;rw[List.filterMap_cons,hf];exact zG)
   obtain⟨sl,e⟩:=I.base.slot L o ho (I.ok.frf L hL) hL fun z=>I.ok.exfs L z hL;exact⟨hk,⟨L,_,hf,hn,e,hd⟩,ih (fun b hb=>hs b (by unfold frs;rw[List.filterMap_cons,hf];exact zJ _ hb)) hr⟩
 exact all X.outer (fun _ hb=>hb) I.ok.funs
theorem Inv.stack (I:Inv X pins σ H s):s.heap.FunFrames X.base X.stack:=by
 rcases I.ok.stk with e|⟨e,hf⟩
 ·rw[e];exact I.funs
 ·rw[e];obtain⟨m,hn,_⟩:=I.loc;refine .cons (by rw[I.ok.kind];decide) hf hn ?_ I.funs
  exact Heap.get?_none_of_le (zP I.ok.bsz I.ok.above)
theorem Inv.stkSub (I:Inv X pins σ H s):∀b∈frs X.stack,b∈X.env.locals::X.fs:=fun b hb=>by
 rcases I.ok.stk with e|⟨e,hf⟩
 ·rw[e] at hb;exact zJ _ hb
 ·rw[e] at hb;unfold frs at hb;rw[List.filterMap_cons,hf] at hb;exact hb
theorem Inv.stkFree (I:Inv X pins σ H s):∀b∈frs X.stack,H b=none:=fun b hb=>by
 rcases zK.mp (I.stkSub b hb) with e|hb
 ·rw[e];exact I.free
 ·obtain⟨_,o,ho,_⟩:=I.ok.funs.mem hb;exact I.base.free b o ho (I.ok.frf b hb) fun z=>I.ok.exfs b z hb
theorem Inv.step {g':Array GenState}{t':Nat}{d':Drawn}{ch:List Addr}(I:Inv X pins σ H s)
  (hch:∀b∈ch,(b∈X.ex\/X.s₀.heap.objs.size<=b)/\b≠X.env.locals/\(∀x c,X.env.cells.lookup x=some c->c≠b)/\∀p∈X.pn++pins,p.1≠b)
  (keep:∀b o,b≠X.env.locals->b∉X.fs->b∉ch->s.heap.get? b=some o->H b=none->h'.get? b=some o)
  (slot:∀b o,b≠X.env.locals->b∈X.fs->b∉ch->s.heap.get? b=some o->H b=none->∃sl,h'.get? b=some {o with slots:=sl}) (free:∀b o,b∉ch->s.heap.get? b=some o->H b=none->H' b=none)
  (there:∀b o,b∉ch->s.heap.get? b=some o->∃o',h'.get? b=some o')
  (tups:∀b xs,H b=some (.tup xs)->H' b=some (.tup xs)) (frzs:∀b o u,H b=some (.frz o u)->H' b=some (.frz o u)) (tbls:∀b ps,H b=some (.tbl ps)->∃more,H' b=some (.tbl (ps++more)))
  (ns:∀m,s.heap.Ns X.env.locals m->h'.Ns X.env.locals m) (hok:HOk X.prog X.w H' h') (hg:AllBare g'):
  Inv X pins σ H' {s with heap:=h',gens:=g',drawn:=d',toks:=t'}:=by
 have neL:∀b o,X.s₀.heap.get? b=some o->b≠X.env.locals:=fun b o e=>zY (zI (zX e) I.ok.above);have neC:∀b o,X.s₀.heap.get? b=some o->b∉X.ex->b∉ch:=fun b o e hx hb=>by
  rcases(hch b hb).1 with z|z
  ·exact hx z
  ·exact absurd (zI (zX e) z) (jL _)
 have cellK:∀x c,X.env.cells.lookup x=some c->∀v,s.heap.IsCell c v->h'.IsCell c v:=fun x c e v ⟨o,ho,hd⟩=>by
  have nch:c∉ch:=fun z=>(hch c z).2.2.1 x c e rfl
  by_cases hc:c∈X.fs
  ·obtain⟨sl,q⟩:=slot c o (I.cne x c e) hc nch ho (I.freeC x c e);exact⟨_,q,hd⟩
  ·exact⟨o,keep c o (I.cne x c e) hc nch ho (I.freeC x c e),hd⟩
 refine⟨I.ok,I.os,hg,⟨fun b o e n hb hx=>?_,fun b o e n hb hx=>?_,fun b o e n hx=>?_,fun b o e hx=>?_,fun b xs e=>tups b xs (I.base.tups b xs e),fun b o xs e=>frzs b o xs (I.base.frzs b o xs e),fun b ps e=>?_⟩,?_,fun x c e=>?_,?_,fun x c e=>?_,fun p hp=>?_,hok,I.len⟩
 ·exact keep b o (neL b o e) hb (neC b o e hx) (I.base.keep b o e n hb hx) (I.base.free b o e n hx)
 ·obtain⟨sl,e1⟩:=I.base.slot b o e n hb hx;obtain⟨sl',e2⟩:=slot b _ (neL b o e) hb (neC b o e hx) e1 (I.base.free b o e n hx);exact⟨sl',e2⟩
 ·obtain⟨o',e1⟩:=I.base.there b o e hx;exact free b o' (neC b o e hx) e1 (I.base.free b o e n hx)
 ·obtain⟨o',e1⟩:=I.base.there b o e hx;exact there b o' (neC b o e hx) e1
 ·obtain⟨m1,e1⟩:=I.base.tbls b ps e;obtain⟨m2,e2⟩:=tbls b _ e1;exact⟨m1++m2,by rw[e2,Array.append_assoc]⟩
 ·obtain⟨m,hn,hl⟩:=I.loc;refine⟨m,ns m hn,fun i x v e1 e2 e3=>?_⟩;obtain⟨u,r,l⟩:=hl i x v e1 e2 e3;refine⟨u,r,?_⟩;rcases l with l|⟨k,c,e,z⟩
  ·exact .inl l
  ·exact .inr ⟨k,c,e,cellK x c e _ z⟩
 ·obtain⟨v,z⟩:=I.cell x c e;exact⟨v,cellK x c e v z⟩
 ·obtain⟨m,⟨o,_,_,ho,_⟩,_⟩:=I.loc;exact free _ o (fun z=>(hch _ z).2.1 rfl) ho I.free
 ·obtain⟨v,o,ho,hd⟩:=I.cell x c e;exact free c o (fun z=>(hch c z).2.2.1 x c e rfl) ho (I.freeC x c e)
 ·obtain⟨e,n,ne,nf,d⟩:=I.pin p hp;have nch:p.1∉ch:=fun z=>(hch p.1 z).2.2.2 p hp rfl;exact⟨keep p.1 p.2 ne nf nch e n,free p.1 p.2 nch e n,ne,nf,d⟩
theorem Inv.un {t':Nat}(I:Inv X pins σ H s)(u:Un X.fs [] H H' s.heap h')(hok:HOk X.prog X.w H' h'):Inv X pins σ H' {s with heap:=h',toks:=t'}:=by
 obtain⟨m,⟨o,es,ep,ho,r⟩,_⟩:=id I.loc;obtain⟨sl,hL⟩:=u.any ho I.free (by simp)
 exact I.step (g':=s.gens) (d':=s.drawn) (ch:=[]) (fun _ z=>nomatch z) (fun b o _ hb _ e n=>u.keep b o e n hb (by simp)) (fun b o _ hb _ e n=>u.slot b o e n hb (by simp)) (fun b o _ e n=>u.free b o e n (by simp)) (fun b o _ e=>u.there b o e (by simp)) u.tups u.frzs u.tbls (fun m' hm=>by
  obtain⟨o',es',ep',ho',r'⟩:=hm;rw[ho] at ho';cases ho'
  exact⟨_,es',ep',hL,r'⟩) hok I.bare
theorem Inv.call {g':Array GenState}{t':Nat}{d':Drawn}{ch:List Addr}(I:Inv X pins σ H s)(u:Un (frs X.stack) ch H H' s.heap h')(hok:HOk X.prog X.w H' h')(hg:AllBare g')
  (hch:∀b∈ch,(b∈X.ex\/X.s₀.heap.objs.size<=b)/\b≠X.env.locals/\(∀x c,X.env.cells.lookup x=some c->c≠b)/\∀p∈X.pn++pins,p.1≠b):
  Inv X pins σ H' {s with heap:=h',gens:=g',drawn:=d',toks:=t'}:=by
 obtain⟨m,⟨o,es,ep,ho,r⟩,_⟩:=id I.loc;obtain⟨sl,hL⟩:=u.any ho I.free fun z=>(hch _ z).2.1 rfl
 exact I.step (ch:=ch) hch (fun b o hL hb hc e n=>u.keep b o e n (fun z=>(zK.mp (I.stkSub b z)).elim hL hb) hc) (fun b o _ _ hc e n=>u.any e n hc) (fun b o hc e n=>u.free b o e n hc) (fun b o hc e=>u.there b o e hc) u.tups u.frzs u.tbls (fun m' hm=>by
  obtain⟨o',es',ep',ho',r'⟩:=hm;rw[ho] at ho';cases ho'
  exact⟨_,es',ep',hL,r'⟩) hok hg
theorem Inv.turned {t':Nat}{it:Addr}(I:Inv X pins σ H s)(k:∀b o,b≠it->s.heap.get? b=some o->h'.get? b=some o)(hn:H it=none)(hL:it≠X.env.locals)
  (h1:it∈X.ex\/X.s₀.heap.objs.size<=it) (h2:∀x c,X.env.cells.lookup x=some c->c≠it) (h3:∀p∈X.pn++pins,p.1≠it):Inv X pins σ H {s with heap:=h',toks:=t'}:=by
 have nit:∀b u,H b=some u->b≠it:=fun b u e z=>by rw[z,hn] at e;cases e
 refine I.step (g':=s.gens) (d':=s.drawn) (ch:=[it]) (fun b hb=>?_) (fun b o _ _ hc e _=>k b o (fun z=>hc (by simp[z])) e) (fun b o _ _ hc e _=>⟨o.slots,k b o (fun z=>hc (by simp[z])) e⟩) (fun _ _ _ _ n=>n)
  (fun b o hc e=>⟨o,k b o (fun z=>hc (by simp[z])) e⟩) (fun _ _ e=>e) (fun _ _ _ e=>e) (fun b ps e=>⟨#[],by rw[e];simp⟩) (fun m hm=>?_) (fun b u e=>?_) I.bare
 ·have e:b=it:=by simpa using hb
  subst e;exact⟨h1,hL,h2,h3⟩
 ·obtain⟨o,es,ep,ho,r⟩:=hm;exact⟨o,es,ep,k _ o (qX hL) ho,r⟩
 ·refine(I.hok b u e).stay (fun c v hc q=>k c v ?_ q) (fun _ q=>q) fun _ _ q=>q;rcases hc with z|z
  ·rw[z];exact nit b u e
  ·exact nit c _ z
theorem Inv.tok (I:Inv X pins σ H s)(t:Nat):Inv X pins σ H {s with toks:=t}:=I.un (h':=s.heap) (t':=t) Un.refl I.hok
theorem Inv.kept {t':Nat}(I:Inv X pins σ H s)(k:∀b u,s.heap.get? b=some u->h'.get? b=some u):Inv X pins σ H {s with heap:=h',toks:=t'}:=I.un (Un.kept k) (I.hok.kept k)
theorem Inv.laid {a:Addr}{o:HO}{t':Nat}(I:Inv X pins σ H s)(k:∀b u,s.heap.get? b=some u->h'.get? b=some u)(hp:s.heap.objs.size<=a)(new:ObjOk X.prog X.w (upd H a o) h' a o):
  Inv X pins σ (upd H a o) {s with heap:=h',toks:=t'}:=I.un (Un.laid k hp (I.hok.fresh hp)) (I.hok.laid k hp new)
theorem Inv.write {x e:Addr}{o:HO}{t':Nat}(I:Inv X pins σ H s)(mu:Mut (H x))(he:e=x\/H e=some (.own x))(k:∀b u,b≠e->s.heap.get? b=some u->h'.get? b=some u)(heo:∃u,h'.get? e=some u)
  (new:ObjOk X.prog X.w (upd H x o) h' x o):Inv X pins σ (upd H x o) {s with heap:=h',toks:=t'}:=I.un (Un.write mu he k heo) (I.hok.write mu he k heo new)
theorem Inv.pins_of {pins':List (Addr×Obj)}(I:Inv X pins σ H s)(h:∀p∈pins',s.heap.get? p.1=some p.2/\H p.1=none/\p.1≠X.env.locals/\p.1∉X.fs/\∀v,p.2.data≠.cell v):Inv X pins' σ H s:=
 ⟨I.ok,I.os,I.bare,I.base,I.loc,I.cell,I.free,I.freeC,fun p hp=>(jA.mp hp).elim (fun z=>I.pin p (xV _ z)) (h p),I.hok,I.len⟩
theorem a21 {N:List Str}(hN:N.Nodup){i j:Nat}{x:Str}(a:N[i]? =some x)(b:N[j]? =some x):i=j:=by
 obtain⟨h1,e1⟩:=zQ.mp a;obtain⟨h2,e2⟩:=zQ.mp b;exact(List.getElem_inj hN).mp (e1.trans e2.symm)
theorem a5Y {M:Model}{A:Around}{E:Value->Shared->Prop}{i:Nat}{x:Str}{v:V}{u:Value}{Q:Unit->Shared->Prop}(I:Inv X pins σ H s)(hN:X.N.Nodup)(hi:X.N[i]? =some x)(hx:Loc X.env.scope x)(r:RelV v u)
  (h:∀s',Inv X pins (σ.set i (some v)) H s'->(∃a,Heap.SameBut a s.heap s'.heap/\(a=X.env.locals\/X.env.cells.lookup x=some a))->Q () s') (hf:X.fn x=true\/X.env.scope.names.lookup x=some .local:=by first|exact .inl rfl|exact .inr rfl|assumption):wpAny M A (storeName X.env x u) Q E s:=by
 obtain⟨m,hn,hl⟩:=id I.loc;have hcls:(X.env.scope.kind == .class||(X.env.scope.kind == .module&&X.env.locals != X.env.globals))=false:=by rw[I.ok.kind];rfl
 have hiσ:i<σ.length:=by rw[I.len];exact(zQ.mp hi).1
 have cne:=I.cne;have tracked:∀{a:Addr} {h':Heap},(∃o,s.heap.get? a=some o/\H a=none)->Heap.SameBut a s.heap h'->HOk X.prog X.w H h':=fun{a h'} ha hs b ob e=>by
  obtain⟨_,_,hfree⟩:=ha;refine(I.hok b ob e).stay (fun c w' hc q=>(hs.2 c ?_).trans q) (fun _ q=>q) fun _ _ q=>q;rintro rfl;rcases hc with rfl|hc
  ·rw[hfree] at e;cases e
  ·rw[hfree] at hc;cases hc
 rcases hx with hk|hk
 ·refine wpAny_storeName_local hk hn (fun h' hn' hs=>?_) hcls;obtain⟨oL,_,_,hoL,_⟩:=id hn;refine h _ ⟨I.ok,I.os,I.bare,⟨fun b o e n hb hx=>?_,fun b o e n hb hx=>?_,I.base.free,fun b o e hx=>?_,I.base.tups,I.base.frzs,I.base.tbls⟩,⟨_,hn',fun j y v' e1 e2 e3=>?_⟩,fun y c e=>?_,I.free,I.freeC,fun p hp=>?_,tracked ⟨oL,hoL,I.free⟩ hs,by simpa using I.len⟩ ⟨_,hs,.inl rfl⟩
  ·exact(hs.2 b (zY (zI (zX e) I.ok.above))).trans (I.base.keep b o e n hb hx)
  ·obtain⟨sl,e1⟩:=I.base.slot b o e n hb hx;exact⟨sl,(hs.2 b (zY (zI (zX e) I.ok.above))).trans e1⟩
  ·obtain⟨o',e1⟩:=I.base.there b o e hx;exact⟨o',(hs.2 b (zY (zI (zX e) I.ok.above))).trans e1⟩
  ·by_cases hj:j=i
   ·subst hj;rw[hi] at e1;cases e1;rw[List.getElem?_set_self hiσ] at e2;cases e2;exact⟨u,r,.inl ⟨hk,by simp⟩⟩
   ·rw[zU (qX hj)] at e2;obtain⟨u',r',q⟩:=hl j y v' e1 e2 e3;refine⟨u',r',?_⟩;rcases q with ⟨k,e⟩|⟨k,c,e,z⟩
    ·refine .inl ⟨k,?_⟩
     have:y≠x:=fun e=>hj (a21 hN e1 (e▸hi))
     simp[this,e]
    ·exact .inr ⟨k,c,e,z.sameBut hs (cne y c e)⟩
  ·obtain⟨w',z⟩:=I.cell y c e;exact⟨w',z.sameBut hs (cne y c e)⟩
  ·obtain⟨e,n,ne,nf,d⟩:=I.pin p hp;exact⟨(hs.2 p.1 ne).trans e,n,ne,nf,d⟩
 ·have hfn:X.fn x=true:=by
   rcases hf with z|z
   ·exact z
   ·rw[z] at hk;cases hk
  obtain⟨c,hc⟩:=I.ok.has x (.inl hk);obtain⟨w',z⟩:=I.cell x c hc;refine wpAny_storeName_cell I.ok.kind hk hc z (fun h' hc' hs=>?_);obtain⟨oc,hoc,hocd⟩:=id z;refine h {s with heap:=h'} ⟨I.ok,I.os,I.bare,⟨fun b o e n hb hx=>?_,fun b o e n hb hx=>?_,I.base.free,fun b o e hx=>?_,I.base.tups,I.base.frzs,I.base.tbls⟩,⟨m,hn.sameBut hs (qX (cne x c hc)),fun j y v' e1 e2 e3=>?_⟩,fun y c' e=>?_,I.free,I.freeC,fun p hp=>?_,tracked ⟨oc,hoc,I.freeC x c hc⟩ hs,by simpa using I.len⟩ ⟨c,hs,.inr hc⟩
  ·exact(hs.2 b (zY (zI (zX e) (I.ok.cab x c hfn hc)))).trans (I.base.keep b o e n hb hx)
  ·obtain⟨sl,e1⟩:=I.base.slot b o e n hb hx;exact⟨sl,(hs.2 b (zY (zI (zX e) (I.ok.cab x c hfn hc)))).trans e1⟩
  ·obtain⟨o',e1⟩:=I.base.there b o e hx;exact⟨o',(hs.2 b (zY (zI (zX e) (I.ok.cab x c hfn hc)))).trans e1⟩
  ·by_cases hj:j=i
   ·subst hj;rw[hi] at e1;cases e1;rw[List.getElem?_set_self hiσ] at e2;cases e2;exact⟨u,r,.inr ⟨.inl hk,c,hc,hc'⟩⟩
   ·rw[zU (qX hj)] at e2;obtain⟨u',r',q⟩:=hl j y v' e1 e2 e3;refine⟨u',r',?_⟩;rcases q with q|⟨k,c',e,z'⟩
    ·exact .inl q
    ·refine .inr ⟨k,c',e,z'.sameBut hs ?_⟩;rintro rfl;exact hj (a21 hN e1 (I.ok.inj _ _ _ e hc▸hi))
  ·by_cases hcc:c'=c
   ·subst hcc;exact⟨_,hc'⟩
   ·obtain⟨w2,z2⟩:=I.cell y c' e;exact⟨w2,z2.sameBut hs hcc⟩
  ·obtain⟨e,n,ne,nf,d⟩:=I.pin p hp;refine⟨(hs.2 p.1 ?_).trans e,n,ne,nf,d⟩;intro q;rw[q,hoc] at e;have q':oc=p.2:=qU e;exact d w' (by rw[<-q'];exact hocd)
theorem a3w {M:Model}{A:Around}{E:Value->Shared->Prop}{i:Nat}{x:Str}{v:V}{u:Value}{Q:Unit->Shared->Prop}(I:Inv X pins σ H s)(hN:X.N.Nodup)(hi:X.N[i]? =some x)(hx:Loc X.env.scope x)(r:RelV v u)
  (h:∀s',Inv X pins (σ.set i (some v)) H s'->Q () s') (hf:X.fn x=true\/X.env.scope.names.lookup x=some .local:=by first|exact .inl rfl|exact .inr rfl|assumption):wpAny M A (storeName X.env x u) Q E s:=
 a5Y I hN hi hx r (fun s' I' _=>h s' I') hf
theorem Inv.call' {s':Shared}{ch:List Addr}(I:Inv X pins σ H s)(ho:s'.os=s.os)(u:Un (frs X.stack) ch H H' s.heap s'.heap)(hok:HOk X.prog X.w H' s'.heap)(hg:AllBare s'.gens)
  (hch:∀b∈ch,(b∈X.ex\/X.s₀.heap.objs.size<=b)/\b≠X.env.locals/\(∀x c,X.env.cells.lookup x=some c->c≠b)/\∀p∈X.pn++pins,p.1≠b):Inv X pins σ H' s':=by
 obtain⟨h',g',d',t',o'⟩:=s';have e:o'=s.os:=ho;subst e;exact I.call (g':=g') (t':=t') (d':=d') u hok hg hch
end
abbrev XK:=Value->Option Addr->Hp->Prop
abbrev St:=List (Option V)
abbrev VK:=V->Hp->Prop
abbrev TE:=St->Hp->VK->Prop
abbrev TT:=St->Hp->(Bool->Hp->Prop)->Prop
abbrev TA:=St->Hp->(List V->Hp->Prop)->Prop
structure Ends where
 nx:St->Hp->Prop
 rt:VK
 bk:St->Hp->Prop:=fun _ _=>False
 ct:St->Hp->Prop:=fun _ _=>False
abbrev TS:=Ends->St->Hp->Prop
def EP (X:Cx) (pins:List (Addr×Obj)) (σ:St) (Q:VK) (u:Value) (s':Shared):Prop:=∃v H',Inv X pins σ H' s'/\RelV v u/\Q v H'
def TP (X:Cx) (pins:List (Addr×Obj)) (σ:St) (Q:Bool->Hp->Prop) (b:Bool) (s':Shared):Prop:=∃H',Inv X pins σ H' s'/\Q b H'
def AP (X:Cx) (pins:List (Addr×Obj)) (σ:St) (Q:List V->Hp->Prop) (us:List Value) (s':Shared):Prop:=∃vs H',Inv X pins σ H' s'/\Vals vs us/\Q vs H'
def SP (X:Cx) (pins:List (Addr×Obj)) (D:Ends) (f:Flow) (s':Shared):Prop:=
 match f with
 | .next=>∃σ' H',Inv X pins σ' H' s'/\D.nx σ' H'
 | .brk=>∃σ' H',Inv X pins σ' H' s'/\D.bk σ' H'
 | .cont=>∃σ' H',Inv X pins σ' H' s'/\D.ct σ' H'
 | .ret u=>∃v σ' H',Inv X pins σ' H' s'/\RelV v u/\D.rt v H'
def PE (X:Cx) (e:Expr) (t:TE):Prop:=
 ∀(pins:List (Addr×Obj)) (s:Shared) (σ:St) (H:Hp) (Q:VK),Inv X pins σ H s->t σ H Q->wpAny (model X.prog X.w) X.A (eval e X.env) (EP X pins σ Q) X.xe s
def PT (X:Cx) (e:Expr) (t:TT):Prop:=
 ∀(pins:List (Addr×Obj)) (s:Shared) (σ:St) (H:Hp) (Q:Bool->Hp->Prop),Inv X pins σ H s->t σ H Q->wpAny (model X.prog X.w) X.A (isTrue e X.env (eval e X.env)) (TP X pins σ Q) X.xe s
def PW (X:Cx) (e:Expr) (t:TT):Prop:=
 ∀(whole:Sem Value) (pins:List (Addr×Obj)) (s:Shared) (σ:St) (H:Hp) (Q:Bool->Hp->Prop),Inv X pins σ H s->t σ H Q->wpAny (model X.prog X.w) X.A (isTrue e X.env whole) (TP X pins σ Q) X.xe s
theorem PW.pt {X:Cx}{e:Expr}{t:TT}(h:PW X e t):PT X e t:=h _
def PA (X:Cx) (es:List Expr) (t:TA):Prop:=
 ∀(pos:Pos) (pins:List (Addr×Obj)) (s:Shared) (σ:St) (H:Hp) (Q:List V->Hp->Prop),Inv X pins σ H s->t σ H Q->wpAny (model X.prog X.w) X.A (spliced (backTo pos (starEach es X.env))) (AP X pins σ Q) X.xe s
def PS (X:Cx) (st:Stmt) (t:TS):Prop:=
 ∀(pins:List (Addr×Obj)) (s:Shared) (σ:St) (H:Hp) (D:Ends),Inv X pins σ H s->t D σ H->wpAny (model X.prog X.w) X.A (exec st X.env) (SP X pins D) X.xe s
def PSs (X:Cx) (st:List Stmt) (t:TS):Prop:=
 ∀(pins:List (Addr×Obj)) (s:Shared) (σ:St) (H:Hp) (D:Ends),Inv X pins σ H s->t D σ H->wpAny (model X.prog X.w) X.A (execs st X.env) (SP X pins D) X.xe s
theorem thn {α:Type}{t:Sem α}{Q Q':α->Shared->Prop}{M:Model}{A:Around}{E:Value->Shared->Prop}{s:Shared}(h:wpAny M A t Q E s)(hQ:∀a s,Q a s->Q' a s):wpAny M A t Q' E s:=zR h hQ fun _ _ x=>x
section
variable {X:Cx}
def tVar (i:Nat):TE:=fun σ H Q=>∃v,σ[i]? =some (some v)/\Q v H
def tC (v:V):TE:=fun _ H Q=>Q v H
theorem a4c {i:Nat}{x:Str}{pos:Pos}(hN:X.N[i]? =some x)(hv:Vis X.env.scope x)(hd:(x==("__debug__":Str))=false:=by decide)(hcd:(x==("__classdict__":Str))=false:=by decide):PE X (.Name x pos) (tVar i):=by
 intro pins s σ H Q I h;obtain⟨v,e,h⟩:=h;obtain⟨m,hn,hl⟩:=I.loc;obtain⟨u,r,l⟩:=hl i x v hN e hv;have fin:EP X pins σ Q u s:=⟨v,H,I,r,h⟩;rcases l with ⟨hk,hm⟩|⟨hk,c,hc,hcell⟩
 ·exact wpAny_Name (wpAny_loadName_local I.ok.kind hk hn hm fin) hd
 ·rcases hk with hk|hk
  ·exact wpAny_Name (wpAny_loadName_cell I.ok.kind hk hc hcell fin) hd
  ·exact wpAny_Name (wpAny_loadName_free I.ok.kind hk hc hcell fin hcd) hd
theorem a32 {i j pos}:PE X (.Constant (.int i) j pos) (tC (.int i)):=fun _ _ _ H _ I h=>wpAny_Constant_int ⟨.int i,H,I.tok _,⟨_,rfl⟩,h⟩
theorem pe_bl {b j pos}:PE X (.Constant (.bool b) j pos) (tC (.bl b)):=fun _ _ _ H _ I h=>Constant_bool ⟨.bl b,H,I,rfl,h⟩
def Gl (X:Cx) (x:Str):Prop:=X.env.kindOf x=some .globalImplicit
theorem a9t {E:Value->Shared->Prop}{pins:List (Addr×Obj)}{s:Shared}{σ:St}{H:Hp}{x:Str}{u:Value}{pos:Pos}{Q:Value->Shared->Prop}(I:Inv X pins σ H s)(hg:Gl X x)(hm:X.mg x=some u)(h:Q u s)
  (hd:(x==("__debug__":Str))=false:=by decide):wpAny (model X.prog X.w) X.A (eval (.Name x pos) X.env) Q E s:=
 Calls.Name_function_global I.ok.kind hg (Calls.loadGlobal_global (by rw[I.ok.glob];exact I.mod.glob.keeps I.bk) hm h) hd
theorem K8 {E:Value->Shared->Prop}{pins:List (Addr×Obj)}{s:Shared}{σ:St}{H:Hp}{x:Str}{u:Value}{pos:Pos}{Q:Value->Shared->Prop}(I:Inv X pins σ H s)(hg:Gl X x)(hm:X.mg x=none)(hv:bootBuiltins x=some u)(h:Q u s)
  (hn:x≠"__name__":=by decide) (hd:(x==("__debug__":Str))=false:=by decide):wpAny (model X.prog X.w) X.A (eval (.Name x pos) X.env) Q E s:=by
 obtain⟨mb,h1,h2⟩:=I.mod.blt;exact Calls.Name_function_global I.ok.kind hg (Calls.loadGlobal_builtin (by rw[I.ok.glob];exact I.mod.glob.keeps I.bk) hm (by rw[I.ok.blt];exact h1.keeps I.bk) ((h2 x hn).trans hv) h) hd
theorem a9y {x:Str}{v:V}{u:Value}{pos:Pos}(hg:Gl X x)(hm:X.mg x=none)(hv:bootBuiltins x=some u)(r:RelV v u)(hn:x≠"__name__":=by decide)(hd:(x==("__debug__":Str))=false:=by decide):PE X (.Name x pos) (tC v):=
 fun _ _ _ H _ I h=>K8 I hg hm hv ⟨v,H,I,r,h⟩ hn hd
variable {a b:Expr}{ta tb:TE}{pos:Pos}
variable {tA tB':TT}{rest:List Expr}
def tAnd (t u:TT):TT:=fun σ H Q=>t σ H fun c H1=>if c=true then u σ H1 Q else Q false H1
def tOr (t u:TT):TT:=fun σ H Q=>t σ H fun c H1=>if c=true then Q true H1 else u σ H1 Q
def tNot (t:TT):TT:=fun σ H Q=>t σ H fun c H1=>Q (!c) H1
theorem pw_and1 (ha:PT X a tA):PW X (.BoolOp .And [a] pos) tA:=by
 intro wh pins s σ H Q I h;refine isTrue_and (thn (ha pins s σ H Q I h) fun c s1 e=>?_);cases c with
 | true=>exact isTrue_and_nil e
 | false=>exact e
theorem pw_or1 (ha:PT X a tA):PW X (.BoolOp .Or [a] pos) tA:=by
 intro wh pins s σ H Q I h;refine isTrue_or (thn (ha pins s σ H Q I h) fun c s1 e=>?_);cases c with
 | false=>exact isTrue_or_nil e
 | true=>exact e
theorem pw_and (ha:PT X a tA)(hb:PW X (.BoolOp .And (b::rest) pos) tB'):PW X (.BoolOp .And (a::b::rest) pos) (tAnd tA tB'):=by
 intro wh pins s σ H Q I h;refine isTrue_and (thn (ha pins s σ H _ I h) fun c s1 ⟨H1,I1,q1⟩=>?_);cases c with
 | true=>exact hb wh pins s1 σ H1 Q I1 q1
 | false=>exact⟨H1,I1,q1⟩
theorem pw_or (ha:PT X a tA)(hb:PW X (.BoolOp .Or (b::rest) pos) tB'):PW X (.BoolOp .Or (a::b::rest) pos) (tOr tA tB'):=by
 intro wh pins s σ H Q I h;refine isTrue_or (thn (ha pins s σ H _ I h) fun c s1 ⟨H1,I1,q1⟩=>?_);cases c with
 | true=>exact⟨H1,I1,q1⟩
 | false=>exact hb wh pins s1 σ H1 Q I1 q1
theorem b1f (ha:PT X a tA):PT X (.UnaryOp .Not a pos) (tNot tA):=by
 intro pins s σ H Q I h;exact isTrue_not (ha pins s σ H (fun c H1=>Q (!c) H1) I h)
def tAndV (ta tb:TE):TE:=fun σ H Q=>ta σ H fun x H1=>∃c,x= .bl c/\if c=true then tb σ H1 Q else Q (.bl false) H1
theorem b1m {op}{t:TE}(h:PE X a t):PE X (.BoolOp op [a] pos) t:=fun pins s σ H Q I hw=>BoolOp_one (h pins s σ H Q I hw)
theorem b1H (ha:PE X a ta)(hb:PE X (.BoolOp .And (b::rest) pos) tb):PE X (.BoolOp .And (a::b::rest) pos) (tAndV ta tb):=by
 intro pins s σ H Q I h;refine BoolOp_and (thn (ha pins s σ H _ I h) fun v s1 h0=>ex5 h0 fun x H1 I1 r1 q1=>?_);obtain⟨c,rfl,q1⟩:=q1;cases r1;refine xJ ?_;cases c with
 | true=>exact hb pins s1 σ H1 Q I1 q1
 | false=>exact⟨.bl false,H1,I1,rfl,q1⟩
end
def SqL (K:PySem.W.Frag) (H:Hp) (a:Addr) (xs:List V):Prop:=
 Rd H a (.lst xs)\/
  ∃(o:Obj) (its:Array Value) (n:Nat),K.lookup a=some o/\o.cls= .type "list"/\o.dict=none/\o.data= .seq its n/\its.size<=sizeLine/\Vals xs its.toList
def SqT (K:PySem.W.Frag) (H:Hp) (a:Addr) (xs:List V):Prop:=
 Rd H a (.tup xs)\/
  ∃(o:Obj) (its:Array Value) (n:Nat),K.lookup a=some o/\o.cls= .type "tuple"/\o.dict=none/\o.data= .seq its n/\its.size<=sizeLine/\Vals xs its.toList
def absV:Value->Option V
 | .none=>some .non
 | .bool b=>some (.bl b)
 | .int i _=>some (.int i)
 | .str x _=>some (.str x)
 | .bytes b _=>some (.byt b)
 | .float b _=>some (.flt b)
 | .ref a=>some (.ref a)
 | .type n=>some (.ty n)
 | _=>none
theorem RelV.abs {x:V}{u:Value}(r:RelV x u):absV u=some x:=by
 cases x with
 | non=>cases r;rfl
 | bl _=>cases r;rfl
 | int _=>obtain⟨t,rfl⟩:=r;rfl
 | str _=>obtain⟨t,rfl⟩:=r;rfl
 | byt _=>obtain⟨t,rfl⟩:=r;rfl
 | flt _=>obtain⟨t,rfl⟩:=r;rfl
 | ref _=>cases r;rfl
 | ty _=>cases r;rfl
theorem RelV.inj {x y:V}{u:Value}(r:RelV x u)(q:RelV y u):x=y:=qU (r.abs.symm.trans q.abs)
theorem Vals.inj:∀{xs ys:List V} {us:List Value},Vals xs us->Vals ys us->xs=ys
 | _,_,_,.nil,.nil=>rfl
 | _,_,_,.cons r t,.cons r' t'=>by rw[r.inj r',Vals.inj t t']
section
variable {X:Cx}{pins:List (Addr×Obj)}{σ:St}{H:Hp}{s:Shared}{a:Addr}{xs ys:List V}
theorem SqL.of {K:PySem.W.Frag}(h:H a=some (.lst xs)):SqL K H a xs:=.inl (.inl h)
theorem SqT.of {K:PySem.W.Frag}(h:H a=some (.tup xs)):SqT K H a xs:=.inl (.inl h)
theorem Inv.list (I:Inv X pins σ H s)(h:SqL X.K H a xs):∃its:List Value,Vals xs its/\PlainL s.heap a its.toArray/\xs.length<=sizeLine:=by
 rcases h with h|⟨o,its,n,hk,hc,hd,hs,hz,r⟩
 ·obtain⟨z,its,n,r,e⟩:=h.ok I.hok;exact⟨its,r,⟨_,n,e,rfl,rfl,rfl⟩,z⟩
 ·refine⟨its.toList,r,⟨o,n,I.kIn a o hk,hc,hd,by simpa using hs⟩,?_⟩
  have e:=r.length;simp only[qZ] at e;walk_at "o"
theorem Inv.tupN (I:Inv X pins σ H s)(h:SqT X.K H a xs):∃its:List Value,Vals xs its/\TupN s.heap a its.toArray/\xs.length<=sizeLine:=by
 rcases h with h|⟨o,its,n,hk,hc,hd,hs,hz,r⟩
 ·obtain⟨z,its,r,p⟩:=h.ok I.hok;exact⟨its,r,p,z⟩
 ·refine⟨its.toList,r,⟨o,I.kIn a o hk,hc,⟨n,by simpa using hs⟩,hd⟩,?_⟩
  have e:=r.length;simp only[qZ] at e;walk_at "o"
theorem Inv.tuple (I:Inv X pins σ H s)(h:SqT X.K H a xs):∃its:List Value,Vals xs its/\IsTup s.heap a its.toArray/\xs.length<=sizeLine:=let ⟨its,r,p,z⟩:=I.tupN h;⟨its,r,p.is,z⟩
theorem Inv.list_inj (I:Inv X pins σ H s)(h:SqL X.K H a xs)(h':SqL X.K H a ys):xs=ys:=by
 obtain⟨its,r,⟨o,n,e,_,_,d⟩,_⟩:=I.list h;obtain⟨its',r',⟨o',n',e',_,_,d'⟩,_⟩:=I.list h';rw[e] at e';cases e';rw[d] at d';injection d' with d1 _
 have:its=its':=by simpa using congrArg Array.toList d1
 subst this;exact r.inj r'
theorem Inv.tuple_inj (I:Inv X pins σ H s)(h:SqT X.K H a xs)(h':SqT X.K H a ys):xs=ys:=by
 obtain⟨its,r,⟨o,e,_,n,d⟩,_⟩:=I.tuple h;obtain⟨its',r',⟨o',e',_,n',d'⟩,_⟩:=I.tuple h';rw[e] at e';cases e';rw[d] at d';injection d' with d1 _
 have:its=its':=by simpa using congrArg Array.toList d1
 subst this;exact r.inj r'
end
abbrev Cx.wish (X:Cx) (E:Value->Shared->Prop):Cx:={X with xe:=E}
abbrev Cx.nox (X:Cx):Cx:=X.wish fun _ _=>False
theorem Cx.Ok.wish {X:Cx}(ok:X.Ok)(E:Value->Shared->Prop):(X.wish E).Ok:=
 ⟨ok.mod,ok.kind,ok.glob,ok.blt,ok.above,ok.inj,ok.has,ok.cab,ok.hd,ok.frames,ok.stk,ok.exf,ok.bs,ok.bsz,ok.noex,ok.exfs,ok.funs,ok.frf⟩
theorem Cx.Ok.unwish {X:Cx}{E:Value->Shared->Prop}(ok:(X.wish E).Ok):X.Ok:=
 ⟨ok.mod,ok.kind,ok.glob,ok.blt,ok.above,ok.inj,ok.has,ok.cab,ok.hd,ok.frames,ok.stk,ok.exf,ok.bs,ok.bsz,ok.noex,ok.exfs,ok.funs,ok.frf⟩
section
variable {X:Cx}{pins:List (Addr×Obj)}{σ:St}{H:Hp}{s:Shared}{E:Value->Shared->Prop}
theorem Inv.wish (I:Inv X pins σ H s)(E:Value->Shared->Prop):Inv (X.wish E) pins σ H s:=⟨I.ok.wish E,I.os,I.bare,I.base,I.loc,I.cell,I.free,I.freeC,I.pin,I.hok,I.len⟩
theorem Inv.unwish (I:Inv (X.wish E) pins σ H s):Inv X pins σ H s:=⟨I.ok.unwish,I.os,I.bare,I.base,I.loc,I.cell,I.free,I.freeC,I.pin,I.hok,I.len⟩
theorem SP.unwish {D:Ends}{f:Flow}{s':Shared}(h:SP (X.wish E) pins D f s'):SP X pins D f s':=by
 cases f with
 | next=>obtain⟨σ',H',I,q⟩:=h;exact⟨σ',H',I.unwish,q⟩
 | brk=>obtain⟨σ',H',I,q⟩:=h;exact⟨σ',H',I.unwish,q⟩
 | cont=>obtain⟨σ',H',I,q⟩:=h;exact⟨σ',H',I.unwish,q⟩
 | ret u=>obtain⟨v,σ',H',I,r,q⟩:=h;exact⟨v,σ',H',I.unwish,r,q⟩
theorem PSs.nox {st:List Stmt}{t:TS}(h:PSs X.nox st t):PSs X st t:=fun pins s σ H D I hw=>
 zR (h pins s σ H D (I.wish _) hw) (fun _ _ q=>q.unwish) fun _ _ z=>False.elim z
end
section
variable {X:Cx}{st:Stmt}{rest:List Stmt}{t u:TS}{e:Expr}{te:TE}{pos:Pos}
def tNext:TS:=fun D σ H=>D.nx σ H
def tSeq (t u:TS):TS:=fun D σ H=>t {D with nx:=u D} σ H
theorem a8K:PSs X [] tNext:=fun _ _ σ H _ I h=>wpAny_execs_nil ⟨σ,H,I,h⟩
theorem a7e (h1:PS X st t)(h2:PSs X rest u):PSs X (st::rest) (tSeq t u):=by
 intro pins s σ H D I h;refine wpAny_execs_cons (thn (h1 pins s σ H {D with nx:=u D} I h) fun f s1 q=>?_)
 cases f with
 | next=>
  obtain⟨σ',H',I',q⟩:=q;exact h2 pins s1 σ' H' D I' q
 | ret v=>exact q
 | brk=>exact q
 | cont=>exact q
theorem a8F (h1:PS X st t):PSs X [st] t:=by
 intro pins s σ H D I h;refine wpAny_execs_cons (thn (h1 pins s σ H D I h) fun f s1 q=>?_);cases f with
 | next=>exact wpAny_execs_nil q
 | ret v=>exact q
 | brk=>exact q
 | cont=>exact q
def tCont:TS:=fun D σ H=>D.ct σ H
theorem a3l:PS X (.Continue pos) tCont:=fun _ _ σ H _ I h=>wpAny_Continue ⟨σ,H,I,h⟩
theorem Inv.quiet {pins:List (Addr×Obj)}{σ:St}{H:Hp}{s:Shared}(I:Inv X pins σ H s):interactive X.env=false:=by simp[interactive,I.ok.kind]
def tDrop (te:TE):TS:=fun D σ H=>te σ H fun _ H1=>D.nx σ H1
theorem a9g (he:PE X e te)(hs:swapsWith e none pos.line X.env=pure false:=by rfl):PS X (.Expr e pos) (tDrop te):=by
 intro pins s σ H D I h;exact wpAny_Expr_any (thn (he pins s σ H _ I h) fun v s1 h0=>ex5 h0 fun x H1 I1 r1 q1=>⟨σ,H1,I1,q1⟩) I.quiet hs
def tRet (te:TE):TS:=fun D σ H=>te σ H D.rt
theorem b1Q (he:PE X e te):PS X (.Return (some e) pos) (tRet te):=by
 intro pins s σ H D I h;exact wpAny_Return_some (thn (he pins s σ H _ I h) fun v s1 h0=>ex5 h0 fun x H1 I1 r1 q1=>⟨x,σ,H1,I1,r1,q1⟩)
def tIfS (c:TT) (t u:TS):TS:=fun D σ H=>c σ H fun b H1=>if b=true then t D σ H1 else u D σ H1
theorem ps_if {c:Expr}{a b:List Stmt}{tc:TT}(hc:PT X c tc)(ha:PSs X a t)(hb:PSs X b u):PS X (.If c a b pos) (tIfS tc t u):=by
 intro pins s σ H D I h;refine wpAny_If (thn (hc pins s σ H _ I h) fun d s1 ⟨H1,I1,q1⟩=>?_);cases d with
 | true=>exact ha pins s1 σ H1 D I1 q1
 | false=>exact hb pins s1 σ H1 D I1 q1
def tNever:TS:=fun _ _ _=>False
theorem a72:PS X st tNever:=fun _ _ _ _ _ _ h=>h.elim
end
abbrev TG:=V->St->Hp->(St->Hp->Prop)->Prop
abbrev TGs:=List V->St->Hp->(St->Hp->Prop)->Prop
def PG (X:Cx) (target:Expr) (t:TG):Prop:=
 ∀(pins:List (Addr×Obj)) (s:Shared) (σ:St) (H:Hp) (v:V) (u:Value) (Q:St->Hp->Prop),Inv X pins σ H s->RelV v u->t v σ H Q->
  wpAny (model X.prog X.w) X.A (assign target X.env u) (fun _ s'=>∃σ' H',Inv X pins σ' H' s'/\Q σ' H') X.xe s
def PGs (X:Cx) (ts:List Expr) (t:TGs):Prop:=
 ∀(pins:List (Addr×Obj)) (s:Shared) (σ:St) (H:Hp) (vs:List V) (us:List Value) (Q:St->Hp->Prop),Inv X pins σ H s->Vals vs us->t vs σ H Q->
  wpAny (model X.prog X.w) X.A (assignInOrder ((assignEach ts X.env).map (·.2)) us) (fun _ s'=>∃σ' H',Inv X pins σ' H' s'/\Q σ' H') X.xe s
abbrev TSet:=V->V->V->Hp->(Hp->Prop)->Prop
def PSet (X:Cx) (t:TSet):Prop:=
 ∀(pins:List (Addr×Obj)) (s:Shared) (σ:St) (H:Hp) (o i v:V) (ov iv u:Value) (Q:Hp->Prop),Inv X pins σ H s->RelV o ov->RelV i iv->RelV v u->t o i v H Q->
  wpAny (model X.prog X.w) X.A (setItem ov iv u) (fun _ s'=>∃H',Inv X pins σ H' s'/\Q H') X.xe s
section
variable {X:Cx}{pos:Pos}
def gName (i:Nat):TG:=fun v σ H Q=>Q (σ.set i (some v)) H
theorem a4w {i:Nat}{x:Str}(hN:X.N.Nodup)(hi:X.N[i]? =some x)(hx:Loc X.env.scope x)(hf:X.fn x=true\/X.env.scope.names.lookup x=some .local:=by first|exact .inl rfl|exact .inr rfl|assumption):PG X (.Name x pos) (gName i):=by
 intro pins s σ H v u Q I r h;exact wpAny_assign_Name (a3w I hN hi hx r (fun s' I'=>⟨_,H,I',h⟩) hf)
def gNil:TGs:=fun vs σ H Q=>vs=[]/\Q σ H
def gCons (t:TG) (u:TGs):TGs:=fun vs σ H Q=>∃v r,vs=v::r/\t v σ H fun σ' H'=>u r σ' H' Q
theorem a8N:PGs X [] gNil:=by
 intro pins s σ H vs us Q I r h;obtain⟨e,h⟩:=h;subst e;cases r;exact assignInOrder_nil ⟨σ,H,I,h⟩
theorem a7t {e:Expr}{es:List Expr}{t:TG}{u:TGs}(h1:PG X e t)(h2:PGs X es u)
  (hs:(assignEach (e::es) X.env).map (·.2)=assign e X.env::(assignEach es X.env).map (·.2):=by rfl):PGs X (e::es) (gCons t u):=by
 intro pins s σ H vs us Q I r h;obtain⟨v,vr,e1,h⟩:=h;subst e1;cases r with
 | cons r rr=>
  rw[hs];refine assignInOrder_cons (thn (h1 pins s σ H _ _ _ I r h) fun _ s1 ⟨σ1,H1,I1,q1⟩=>?_);exact h2 pins s1 σ1 H1 _ _ Q I1 rr q1
def gTup (K:PySem.W.Frag) (n:Nat) (t:TGs):TG:=fun v σ H Q=>∃a xs,v= .ref a/\SqT K H a xs/\xs.length=n/\t xs σ H Q
theorem b1I {es:List Expr}{k:Nat}{t:TGs}{n:Nat}(hc:X.calm=true)(h:PGs X es t)
  (hn:(assignEach es X.env).length=n:=by rfl) (hst:(assignEach es X.env).findIdx? (·.1)=none:=by rfl):PG X (.Tuple es k pos) (gTup X.K n t):=by
 intro pins s σ H v u Q I r hw;obtain⟨a,xs,e1,hq,hl,hw⟩:=hw;subst e1;cases r;obtain⟨its,rv,ht,hz⟩:=I.tuple hq;refine assign_Tuple_tuple (I.ok.hd hc) ht (by simp[hn,<-hl,rv.length]) hst fun h' hx=>?_
 have I1:Inv X pins σ H {s with heap:=h'}:=I.kept (t':=s.toks) fun b o e=>hx b o (zY (zX e)) e
 exact h pins _ σ H xs _ Q I1 (by simpa using rv) hw
def gSub (to ti:TE) (t:TSet):TG:=fun v σ H Q=>to σ H fun o H1=>ti σ H1 fun i H2=>t o i v H2 fun H3=>Q σ H3
theorem b1r {o i:Expr}{to ti:TE}{t:TSet}(ho:PE X o to)(hi:PE X i ti)(hs:PSet X t)
  (ha:∀v,assign (.Subscript o i pos) X.env v=(do
   let ov <-holding [v] (eval o X.env)
   let iv <-holding [v,ov] (eval i X.env)
   standAt pos
   holding [v,ov,iv] (setItem ov iv v)
   release [v,ov,iv] []):=by intro _;rfl):PG X (.Subscript o i pos) (gSub to ti t):=by
 intro pins s σ H v u Q I r h;rw[ha];refine zA (qD (thn (ho pins s σ H _ I h) fun ov s1 h0=>ex5 h0 fun x H1 I1 r1 q1=>?_));refine zA (qD (thn (hi pins s1 σ H1 _ I1 q1) fun iv s2 h0=>ex5 h0 fun y H2 I2 r2 q2=>?_));refine zA (wpAny_standAt (zA (qD (thn (hs pins s2 σ H2 x y v ov iv u _ I2 r1 r2 r q2) fun _ s3 ⟨H3,I3,q3⟩=>?_))));exact wpAny_release ⟨σ,H3,I3,q3⟩
def tAsg (te:TE) (g:TG):TS:=fun D σ H=>te σ H fun x H1=>g x σ H1 D.nx
theorem b0S {tg e:Expr}{te:TE}{g:TG}(he:PE X e te)(hg:PG X tg g)(hs:swapsWithSole [tg] e pos.line X.env=pure false:=by rfl)(hw:swappedStores [tg] e X.env=pure none:=by rfl)
  (h1:(assignEach [tg] X.env).map (·.2)=[assign tg X.env]:=by rfl):PS X (.Assign [tg] e pos) (tAsg te g):=by
 intro pins s σ H D I h;refine wpAny_Assign_stores (thn (he pins s σ H _ I h) fun v s1 h0=>ex5 h0 fun x H1 I1 r1 q1=>?_) hs hw;rw[h1];exact thn (hg pins s1 σ H1 x v _ I1 r1 q1) fun _ s2 q=>q
theorem b1s {i:Nat}{x:Str}{e:Expr}{te:TE}{pos':Pos}(hN:X.N.Nodup)(hi:X.N[i]? =some x)(hx:Loc X.env.scope x)(he:PE X e te)(hs:swapsWith e (some (.Name x pos')) pos.line X.env=pure false:=by rfl)(hf:X.fn x=true\/X.env.scope.names.lookup x=some .local:=by first|exact .inl rfl|exact .inr rfl|assumption):
  PS X (.Assign [.Name x pos'] e pos) (tAsg te (gName i)):=by
 intro pins s σ H D I h;refine wpAny_Assign_Name (thn (he pins s σ H _ I h) fun v s1 h0=>ex5 h0 fun y H1 I1 r1 q1=>?_) hs;exact a3w I1 hN hi hx r1 (fun s2 I2=>⟨_,H1,I2,q1⟩) hf
end
structure It where
 go:Nat->Hp->Prop
 yld:Nat->Hp->V->Hp->Prop
 stop:Nat->Hp->Prop
def FpOk (X:Cx) (pins:List (Addr×Obj)) (H:Hp) (b:Addr):Prop:=
 H b=none/\b≠X.env.locals/\b∉X.fs/\(b∈X.ex\/X.s₀.heap.objs.size<=b)/\(∀x c,X.env.cells.lookup x=some c->c≠b)/\∀p∈X.pn++pins,p.1≠b
theorem Inv.fpOk {X:Cx}{pins:List (Addr×Obj)}{σ:St}{H H':Hp}{s:Shared}{b:Addr}(I:Inv X pins σ H s)(hb:s.heap.objs.size<=b)(hn:H' b=none):FpOk X pins H' b:=by
 refine⟨hn,Nat.ne_of_gt (zI I.lt hb),I.nofs hb,.inr (zP I.sz hb),fun x c e z=>?_,fun p hp z=>?_⟩
 ·obtain⟨v,q⟩:=I.cell x c e;exact absurd (zI q.lt (by rw[z];exact hb)) (jL _)
 ·exact absurd (zI (zX (I.pin p hp).1) (by rw[z];exact hb)) (jL _)
structure Turn (P:Program) (w:World) (K:PySem.W.Frag) (tg:Expr) (J:It) (fp:List Addr) (it:Addr) (tn:Nat->Heap->Prop):Prop where
 mem:it∈fp
 obj:∀i h,tn i h->∀b∈fp,∃o,h.get? b=some o/\∀v,o.data≠.cell v
 keep:∀i h h',tn i h->(∀b∈fp,∀o,h.get? b=some o->h'.get? b=some o)->tn i h'
 item:∀(X:Cx),X.prog=P->X.w=w->X.K=K->X.calm=true->∀(i:Nat) (pins:List (Addr×Obj)) (s:Shared) (σ:St) (H:Hp) (E:Value->Shared->Prop),Inv X pins σ H s->(∀b∈fp,FpOk X pins H b)->tn i s.heap->J.go i H->
  wpAny (model P w) X.A (pyNext (.ref it)) (fun r s1=>∃u,r=some u/\
   wpAny (model P w) X.A (letOwnedTupleGo tg (.ref it) u) (fun _ s2=>∃x H',Inv X pins σ H' s2/\RelV x u/\J.yld i H x H'/\tn (i+1) s2.heap/\∀b∈fp,H' b=none) E s1) E s
 done:∀(X:Cx),X.prog=P->X.w=w->X.K=K->X.calm=true->∀(i:Nat) (pins:List (Addr×Obj)) (s:Shared) (σ:St) (H:Hp) (E:Value->Shared->Prop),Inv X pins σ H s->(∀b∈fp,FpOk X pins H b)->tn i s.heap->J.stop i H->
  wpAny (model P w) X.A (pyNext (.ref it)) (fun r s1=>r=none/\Inv X pins σ H s1) E s
 self:∀(A:Around) (i:Nat) (s:Shared) (Q:Value->Shared->Prop) (E:Value->Shared->Prop),tn i s.heap->Q (.ref it) s->wpAny (model P w) A (pyIter (.ref it)) Q E s
abbrev TI:=St->Hp->(It->Hp->Prop)->Prop
def PIE (X:Cx) (pins:List (Addr×Obj)) (σ:St) (tg:Expr) (R:It->Hp->Prop) (itv:Value) (s2:Shared):Prop:=
 ∃(it:Addr) (fp:List Addr) (tn:Nat->Heap->Prop) (J:It) (H':Hp),itv= .ref it/\Inv X pins σ H' s2/\Turn X.prog X.w X.K tg J fp it tn/\tn 0 s2.heap/\(∀b∈fp,FpOk X pins H' b)/\R J H'
def PI (X:Cx) (tg iter:Expr) (wi:TI):Prop:=
 ∀(pins:List (Addr×Obj)) (s:Shared) (σ:St) (H:Hp) (R:It->Hp->Prop),Inv X pins σ H s->wi σ H R->
  wpAny (model X.prog X.w) X.A (eval iter X.env) (fun v s1=>wpAny (model X.prog X.w) X.A (pyIter v) (PIE X pins σ tg R) X.xe s1) X.xe s
theorem a4k {M:Model}{A:Around}{E:Value->Shared->Prop}{s:Shared}{tg:Expr}{it:Addr}{u:Value}{o:Obj}{n:String}{vs:Array Value}{Q:Unit->Shared->Prop}(ho:s.heap.get? it=some o)(hc:o.cls= .type n)(hd:o.data= .fields vs)
  (hn:["enumerate","zip","dict_itemiterator","dict_reverseitemiterator","odict_iterator","itertools.zip_longest","itertools.pairwise"].contains n=false) (hQ:Q () s):wpAny M A (letOwnedTupleGo tg (.ref it) u) Q E s:=by
 unfold letOwnedTupleGo;cases tg<;>first
  | exact zB hQ
  | (cases u<;>first
    | exact zB hQ
    | (refine zA (wpAny_load ho ?_)
       rw[hc,hd];show wpAny M A (if(["enumerate","zip","dict_itemiterator","dict_reverseitemiterator","odict_iterator","itertools.zip_longest","itertools.pairwise"].contains n&&vs[0]? == some (rawInt _))=true then _ else _) Q E s;rw[if_neg (by intro h;rw[hn,jZ] at h;cases h)]
       exact zB hQ))
def Itl (K:PySem.W.Frag) (a:Addr):It:=
 ⟨fun i H=>∃xs x,SqL K H a xs/\xs[i]? =some x,fun i H x H'=>H'=H/\∀xs,SqL K H a xs->xs[i]? =some x,fun i H=>∃xs,SqL K H a xs/\xs.length<=i⟩
def Itt (K:PySem.W.Frag) (a:Addr):It:=
 ⟨fun i H=>∃xs x,SqT K H a xs/\xs[i]? =some x,fun i H x H'=>H'=H/\∀xs,SqT K H a xs->xs[i]? =some x,fun i H=>∃xs,SqT K H a xs/\xs.length<=i⟩
def Itr (lo:Int) (n:Nat):It:=⟨fun i _=>i<n,fun i H x H'=>H'=H/\x= .int (lo+i),fun i _=>n<=i⟩
theorem a5u {P:Program}{w:World}{K:PySem.W.Frag}{tg:Expr}(a it:Addr):Turn P w K tg (Itl K a) [it] it (fun i h=>h.IsListIter it a i) where
 mem:=by simp
 obj:=fun i h st b hb=>by
  have e:b=it:=by simpa using hb
  subst e;obtain⟨o,e,c,d⟩:=st;exact⟨o,e,fun v z=>by rw[d] at z;cases z⟩
 keep:=fun i h h' st k=>st.at fun o e=>k it (by simp) o e
 item:=by
  intro X hP hw hK hc i pins s σ H E I hf st hg;subst hP hw hK;obtain⟨xs,x,hq,hx⟩:=hg;obtain⟨its,rv,p,hz⟩:=I.list hq;obtain⟨u,hu,ru⟩:=rv.get hx;obtain⟨f0,f1,f2,f3,f4,f5⟩:=hf it (by simp)
  refine wpAny_pyNext_list_item st p.isList (x:=u) (by simpa using hu) fun h' st' sb=>?_
  have I1:Inv X pins σ H {s with heap:=h'}:=I.turned (t':=s.toks) (fun b o hb e=>(sb.2 b hb).trans e) f0 f1 f3 f4 f5
  obtain⟨o,e,c,d⟩:=id st';exact⟨u,rfl,a4k (s:={s with heap:=h'}) e c d (by decide) ⟨x,H,I1,ru,⟨rfl,fun ys hy=>by rw[I.list_inj hy hq];exact hx⟩,st',fun b hb=>(hf b hb).1⟩⟩
 done:=by
  intro X hP hw hK hc i pins s σ H E I hf st hg;subst hP hw hK;obtain⟨xs,hq,hx⟩:=hg;obtain⟨its,rv,p,hz⟩:=I.list hq;obtain⟨f0,f1,f2,f3,f4,f5⟩:=hf it (by simp)
  have hl:=rv.length;exact wpAny_pyNext_list_end (I.ok.hd hc) st p.isList (by simp;walk_at "o") fun h' eb=>⟨rfl,I.turned (t':=s.toks) (fun b o hb e=>eb b o hb e) f0 f1 f3 f4 f5⟩
 self:=fun _ _ _ _ _ st h=>wpAny_pyIter_listiter st h
theorem a30 {P:Program}{w:World}{K:PySem.W.Frag}{tg:Expr}(a it:Addr):Turn P w K tg (Itt K a) [it] it (fun i h=>h.IsTupleIter it a i) where
 mem:=by simp
 obj:=fun i h st b hb=>by
  have e:b=it:=by simpa using hb
  subst e;obtain⟨o,e,c,d⟩:=st;exact⟨o,e,fun v z=>by rw[d] at z;cases z⟩
 keep:=fun i h h' st k=>st.at fun o e=>k it (by simp) o e
 item:=by
  intro X hP hw hK hc i pins s σ H E I hf st hg;subst hP hw hK;obtain⟨xs,x,hq,hx⟩:=hg;obtain⟨its,rv,p,hz⟩:=I.tuple hq;obtain⟨u,hu,ru⟩:=rv.get hx;obtain⟨f0,f1,f2,f3,f4,f5⟩:=hf it (by simp)
  refine wpAny_pyNext_tuple_item st (show s.heap.IsTuple a its.toArray from p) (x:=u) (by simpa using hu) fun h' st' sb=>?_
  have I1:Inv X pins σ H {s with heap:=h'}:=I.turned (t':=s.toks) (fun b o hb e=>(sb.2 b hb).trans e) f0 f1 f3 f4 f5
  obtain⟨o,e,c,d⟩:=id st';exact⟨u,rfl,a4k (s:={s with heap:=h'}) e c d (by decide) ⟨x,H,I1,ru,⟨rfl,fun ys hy=>by rw[I.tuple_inj hy hq];exact hx⟩,st',fun b hb=>(hf b hb).1⟩⟩
 done:=by
  intro X hP hw hK hc i pins s σ H E I hf st hg;subst hP hw hK;obtain⟨xs,hq,hx⟩:=hg;obtain⟨its,rv,p,hz⟩:=I.tuple hq;obtain⟨f0,f1,f2,f3,f4,f5⟩:=hf it (by simp)
  have hl:=rv.length;exact wpAny_pyNext_tuple_end (I.ok.hd hc) st (show s.heap.IsTuple a its.toArray from p) (by simp;walk_at "o") fun h' eb=>⟨rfl,I.turned (t':=s.toks) (fun b o hb e=>eb b o hb e) f0 f1 f3 f4 f5⟩
 self:=fun _ _ _ _ _ st h=>wpAny_pyIter_tupleiter st h
theorem a3D {P:Program}{w:World}{K:PySem.W.Frag}{tg:Expr}(it:Addr)(lo:Int)(n:Nat):Turn P w K tg (Itr lo n) [it] it (fun i h=>IsRangeIter h it (lo+(i:Nat)*1) ((n:Int)-(i:Nat)) 1) where
 mem:=by simp
 obj:=fun i h st b hb=>by
  have e:b=it:=by simpa using hb
  subst e
  exact⟨_,st,fun v z=>by
   have z':Data.fields _=Data.cell v:=z
   cases z'⟩
 keep:=fun i h h' st k=>k it (by simp) _ st
 item:=by
  intro X hP hw hK hc i pins s σ H E I hf st hg;subst hP hw hK;obtain⟨f0,f1,f2,f3,f4,f5⟩:=hf it (by simp)
  have W:=Walks.range (prog:=X.prog) (w:=X.w) (I.ok.hd hc) it lo 1 n;refine W.item i s _ _ hg st fun v h' tk hv st' kk=>?_;obtain⟨t,rfl⟩:=hv;have I1:Inv X pins σ H {s with heap:=h',toks:=tk}:=I.turned (fun b o hb e=>kk b o (by simpa using hb) e) f0 f1 f3 f4 f5
  refine⟨_,rfl,a4k (s:={s with heap:=h',toks:=tk}) (n:="range_iterator") st' rfl rfl (by decide) ⟨.int (lo+i),H,I1,⟨t,?_⟩,⟨rfl,rfl⟩,st',fun b hb=>(hf b hb).1⟩⟩
  rw[Int.mul_one]
 done:=by
  intro X hP hw hK hc i pins s σ H E I hf st hg;subst hP hw hK;obtain⟨f0,f1,f2,f3,f4,f5⟩:=hf it (by simp)
  exact wpAny_pyNext_range_end (I.ok.hd hc) st (by have:n<=i:=hg;walk_at "o") fun h' eb=>⟨rfl,I.turned (t':=s.toks) (fun b o hb e=>eb b o hb e) f0 f1 f3 f4 f5⟩
 self:=fun _ _ _ _ _ st h=>wpAny_pyIter_rangeiter st h
section
variable {X:Cx}{tg:Expr}
theorem a3a {pins:List (Addr×Obj)}{σ:St}{H:Hp}{s:Shared}{R:It->Hp->Prop}{E:Value->Shared->Prop}{lo hi:Int}{t u v:Tok}{tk:Nat}(I:Inv X pins σ H s)(h1:-(2^62)<=lo)(h2:lo<2^62)(h3:-(2^62)<=hi)(h4:hi<2^62)
  (q:R (Itr lo (hi-lo).toNat) H):wpAny (model X.prog X.w) X.A (pyIter (.ref s.heap.objs.size)) (PIE X pins σ tg R) E {s with heap:=s.heap.push {cls:=.type "range",data:=.fields #[.int lo t,.int hi u,.int 1 v]},toks:=tk}:=by
 refine wpAny_pyIter_range (IsRange.new ..) (small_one h1 h2 h3 h4) ?_;have I1:Inv X pins σ H {s with heap:=s.heap.push {cls:=.type "range",data:=.fields #[.int lo t,.int hi u,.int 1 v]},toks:=tk}:=I.kept fun b o e=>zD _ e
 refine⟨(s.heap.push {cls:=.type "range",data:=.fields #[.int lo t,.int hi u,.int 1 v]}).objs.size,[(s.heap.push {cls:=.type "range",data:=.fields #[.int lo t,.int hi u,.int 1 v]}).objs.size],_,_,H,rfl,
  I1.kept (t':=tk) fun b o e=>zD _ e,a3D _ lo (hi-lo).toNat,?_,fun b hb=>?_,q⟩
 ·have e1:lo+((0:Nat):Int)*1=lo:=by simp
  have e2:(((hi-lo).toNat:Nat):Int)-((0:Nat):Int)=Builtin.Range.rangeSize lo hi 1:=by rw[rangeSize_one];split<;>walk_at "o"
  show IsRangeIter _ _ (lo+((0:Nat):Int)*1) ((((hi-lo).toNat:Nat):Int)-((0:Nat):Int)) 1;rw[e1,e2];exact zW _ rfl
 ·have e:b=(s.heap.push {cls:=.type "range",data:=.fields #[.int lo t,.int hi u,.int 1 v]}).objs.size:=by simpa using hb
  subst e;exact I1.fpOk (zF _) (I1.hok.fresh (zF _))
def iRng1 (ta:TA):TI:=fun σ H R=>ta σ H fun vs H1=>∃j:Int,vs=[.int j]/\-(2^62)<=j/\j<2^62/\R (Itr 0 j.toNat) H1
def iRng2 (ta:TA):TI:=fun σ H R=>ta σ H fun vs H1=>∃i j:Int,vs=[.int i,.int j]/\(-(2^62)<=i/\i<2^62/\-(2^62)<=j/\j<2^62)/\R (Itr i (j-i).toNat) H1
theorem a5E {a:Expr}{ta:TA}{p pos:Pos}(hg:Gl X "range")(hm:X.mg "range"=none)(ha:PA X [a] ta)(hs:starEach [a] X.env=[(false,eval a X.env)]:=by rfl):PI X tg (.Call (.Name "range" p) [a] [] pos) (iRng1 ta):=by
 intro pins s σ H R I h;refine Call_ (K8 I hg hm boot_range (jD (thn (ha pos pins s σ H _ I h) fun us s1 h0=>ex5 h0 fun vs H1 I1 r1 q1=>?_) hs rfl));obtain⟨j,e,q1,q2,q⟩:=q1;subst e;cases r1 with
 | cons r rr=>
  cases rr;obtain⟨t,rfl⟩:=r;exact call_range_1 (a3a I1 (by walk_at "o") (by walk_at "o") q1 q2 (by simpa using q))
theorem a6i {a b:Expr}{ta:TA}{p pos:Pos}(hg:Gl X "range")(hm:X.mg "range"=none)(ha:PA X [a,b] ta)(hs:starEach [a,b] X.env=[(false,eval a X.env),(false,eval b X.env)]:=by rfl)(hs2:starEach [b] X.env=[(false,eval b X.env)]:=by rfl):
  PI X tg (.Call (.Name "range" p) [a,b] [] pos) (iRng2 ta):=by
 intro pins s σ H R I h;refine Call_ (K8 I hg hm boot_range (jD (thn (ha pos pins s σ H _ I h) fun us s1 h0=>ex5 h0 fun vs H1 I1 r1 q1=>?_) (by rw[hs,hs2]) (by rw[hs2];rfl)))
 obtain⟨i,j,e,⟨q1,q2,q3,q4⟩,q⟩:=q1;subst e;cases r1 with
 | cons r rr=>
  cases rr with
  | cons r' rr=>
   cases rr;obtain⟨t,rfl⟩:=r;obtain⟨t',rfl⟩:=r';exact call_range_2 (a3a I1 q1 q2 q3 q4 q)
def tFor (wi:TI) (g:TG) (tb:TS):TS:=fun D σ H=>wi σ H fun J H1=>∃W:Nat->Nat->St->Hp->Prop,(∃m,W 0 m σ H1)/\∀i m σ H,W i m σ H->
 (J.stop i H/\D.nx σ H)\/(J.go i H/\∃N:St->Hp->Prop,(∀σ' H',N σ' H'->∃m',m'<m/\W (i+1) m' σ' H')/\∀x H',J.yld i H x H'->g x σ H' fun σ2 H2=>tb {D with nx:=N,ct:=N,bk:=D.nx} σ2 H2)
def pinsAt (fp:List Addr) (h:Heap):List (Addr×Obj):=fp.filterMap fun b=>(h.get? b).map fun o=>(b,o)
theorem J9 {fp:List Addr}{h:Heap}{b:Addr}{o:Obj}(hb:b∈fp)(e:h.get? b=some o):(b,o)∈pinsAt fp h:=mem_filterMap.mpr ⟨b,hb,by rw[e];rfl⟩
theorem a5R {fp:List Addr}{h:Heap}{p:Addr×Obj}(hp:p∈pinsAt fp h):p.1∈fp/\h.get? p.1=some p.2:=by
 obtain⟨b,hb,e⟩:=mem_filterMap.mp hp;cases q:h.get? b with
 | none=>rw[q] at e;cases e
 | some o=>
  rw[q] at e;have e':(b,o)=p:=qU e;subst e';exact⟨hb,q⟩
theorem Inv.pinned {pins:List (Addr×Obj)}{σ:St}{H:Hp}{s:Shared}{fp:List Addr}(I:Inv X pins σ H s)(hf:∀b∈fp,FpOk X pins H b)(ho:∀b∈fp,∃o,s.heap.get? b=some o/\∀v,o.data≠.cell v):Inv X (pins++pinsAt fp s.heap) σ H s:=
 I.pins_of fun p hp=>(jA.mp hp).elim (fun z=>I.pin p (qE _ z)) fun z=>by
  obtain⟨hb,e⟩:=a5R z;obtain⟨f0,f1,f2,_⟩:=hf p.1 hb;obtain⟨o,e',d⟩:=ho p.1 hb;rw[e] at e';cases e';exact⟨e,f0,f1,f2,d⟩
theorem Inv.unpinned {pins pl:List (Addr×Obj)}{σ:St}{H:Hp}{s:Shared}(I:Inv X (pins++pl) σ H s):Inv X pins σ H s:=I.pins_of fun p hp=>I.pin p (qE _ (xV _ hp))
theorem b1S {iter:Expr}{body:List Stmt}{wi:TI}{g:TG}{tb:TS}{pos:Pos}(hp:PassesOwn (model X.prog X.w) X.A X.env X.xe)(hc:X.calm=true)(hi:PI X tg iter wi)(hg:PG X tg g)(hb:PSs X body tb)
  (hs:∀x,foldedSetIterable iter X.env x=pure x:=by intro _;rfl):PS X (.For tg iter body [] pos) (tFor wi g tb):=by
 intro pins s σ H D I h;refine wpAny_For (thn (hi pins s σ H _ I h) fun v s1 h1=>thn h1 fun itv s2 h2=>?_) hs;obtain⟨it,fp,tn,J,H2,e,I2,T,st2,f2,W,⟨m0,w0⟩,turn⟩:=h2;subst e;have stat:∀{H':Hp},(∀b∈fp,H' b=none)->∀b∈fp,FpOk X pins H' b:=fun hn b hb=>⟨hn b hb,(f2 b hb).2⟩;refine codeAny_forLoop_any (fun n s'=>∃i σ' H',Inv X pins σ' H' s'/\tn i s'.heap/\(∀b∈fp,H' b=none)/\W i n σ' H') ?_ m0 ⟨0,σ,H2,I2,st2,fun b hb=>(f2 b hb).1,w0⟩;rintro n s3 ⟨i,σ3,H3,I3,st3,fr3,w3⟩;rcases turn i n σ3 H3 w3 with ⟨stop,qn⟩|⟨go,N,hN,step⟩
 ·refine wpAny_passesOwn hp (thn (T.done X rfl rfl rfl hc i pins s3 σ3 H3 X.xe I3 (stat fr3) st3 stop) fun r s4 ⟨hr,I4⟩=>?_);subst hr;exact wpAny_execs_nil ⟨σ3,H3,I4,qn⟩
 ·refine wpAny_passesOwn hp (thn (T.item X rfl rfl rfl hc i pins s3 σ3 H3 X.xe I3 (stat fr3) st3 go) fun r s4 ⟨u,hr,h4⟩=>?_);subst hr;refine wpAny_passesOwn hp (thn h4 fun _ s5 ⟨x,H5,I5,r5,y5,st5,fr5⟩=>?_);have I5':=I5.pinned (stat fr5) (T.obj _ _ st5);refine wpAny_passesOwn hp (thn (hg _ s5 σ3 H5 x u _ I5' r5 (step x H5 y5)) fun _ s6 ⟨σ6,H6,I6,q6⟩=>?_);refine wpAny_passesOwn hp (thn (hb _ s6 σ6 H6 _ I6 q6) fun f s7 q7=>?_);have again:∀{σ7:St} {H7:Hp},Inv X (pins++pinsAt fp s5.heap) σ7 H7 s7->N σ7 H7->∃m,m<n/\∃i σ' H',Inv X pins σ' H' s7/\tn i s7.heap/\(∀b∈fp,H' b=none)/\W i m σ' H':=fun{σ7 H7} I7 n7=>by
   obtain⟨m',hm,w7⟩:=hN σ7 H7 n7;refine⟨m',hm,i+1,σ7,H7,I7.unpinned,T.keep _ _ _ st5 fun b hb o e=>(I7.pin (b,o) (qE _ (qE _ (J9 hb e)))).1,fun b hb=>?_,w7⟩;obtain⟨o,e,d⟩:=T.obj _ _ st5 b hb;exact(I7.pin (b,o) (qE _ (qE _ (J9 hb e)))).2.1
  cases f with
  | next=>obtain⟨σ7,H7,I7,n7⟩:=q7;exact again I7 n7
  | cont=>obtain⟨σ7,H7,I7,n7⟩:=q7;exact again I7 n7
  | brk=>obtain⟨σ7,H7,I7,q7⟩:=q7;exact⟨σ7,H7,I7.unpinned,q7⟩
  | ret v=>obtain⟨x7,σ7,H7,I7,r7,q7⟩:=q7;exact⟨x7,σ7,H7,I7.unpinned,r7,q7⟩
end
abbrev R2:=V->V->Hp->VK->Prop
def OpR (X:Cx) (f:Value->Value->Sem Value) (r:R2):Prop:=
 ∀(pins:List (Addr×Obj)) (s:Shared) (σ:St) (H:Hp) (x y:V) (v u:Value) (Q:VK),Inv X pins σ H s->RelV x v->RelV y u->r x y H Q->
  wpAny (model X.prog X.w) X.A (f v u) (EP X pins σ Q) X.xe s
def UnR (X:Cx) (f:Value->Sem Value) (r:V->Hp->VK->Prop):Prop:=
 ∀(pins:List (Addr×Obj)) (s:Shared) (σ:St) (H:Hp) (x:V) (v:Value) (Q:VK),Inv X pins σ H s->RelV x v->r x H Q->
  wpAny (model X.prog X.w) X.A (f v) (EP X pins σ Q) X.xe s
def CallR (X:Cx) (f:Value) (r:List V->Hp->VK->Prop):Prop:=
 ∀(pins:List (Addr×Obj)) (s:Shared) (σ:St) (H:Hp) (xs:List V) (us:List Value) (Q:VK),Inv X pins σ H s->Vals xs us->r xs H Q->
  wpAny (model X.prog X.w) X.A (call f us) (EP X pins σ Q) X.xe s
def TruR (X:Cx) (r:V->Hp->(Bool->Hp->Prop)->Prop):Prop:=
 ∀(pins:List (Addr×Obj)) (s:Shared) (σ:St) (H:Hp) (x:V) (v:Value) (Q:Bool->Hp->Prop),Inv X pins σ H s->RelV x v->r x H Q->
  wpAny (model X.prog X.w) X.A (truthy v) (TP X pins σ Q) X.xe s
def tOp (r:R2) (ta tb:TE):TE:=fun σ H Q=>ta σ H fun x H1=>tb σ H1 fun y H2=>r x y H2 Q
def tUn (r:V->Hp->VK->Prop) (ta:TE):TE:=fun σ H Q=>ta σ H fun x H1=>r x H1 Q
def rI (C:Int->Int->Prop) (g:Int->Int->V):R2:=fun x y H Q=>∃i j,x= .int i/\y= .int j/\C i j/\Q (g i j) H
def rI0 (g:Int->Int->V):R2:=fun x y H Q=>∃i j,x= .int i/\y= .int j/\Q (g i j) H
def rU (g:Int->V):V->Hp->VK->Prop:=fun x H Q=>∃i,x= .int i/\Q (g i) H
section
variable {X:Cx}{a b:Expr}{ta tb:TE}{pos:Pos}
theorem binT (ha:PE X a ta)(hb:PE X b tb){pins:List (Addr×Obj)}{s:Shared}{σ:St}{H:Hp}{R:V->V->Hp->Prop}(I:Inv X pins σ H s)
  (h:ta σ H fun x H1=>tb σ H1 fun y H2=>R x y H2) {Q:Value->Shared->Prop} {f:Value->Value->Sem Value}
  (hf:∀v u s2 x y H2,Inv X pins σ H2 s2->RelV x v->RelV y u->R x y H2->wpAny (model X.prog X.w) X.A (f v u) Q X.xe s2):
  wpAny (model X.prog X.w) X.A (eval a X.env) (fun v s₁=>wpAny (model X.prog X.w) X.A (eval b X.env) (fun u s₂=>wpAny (model X.prog X.w) X.A (f v u) Q X.xe s₂) X.xe s₁) X.xe s:=by
 refine thn (ha pins s σ H _ I h) fun v s1 h0=>ex5 h0 fun x H1 I1 r1 q1=>?_;refine thn (hb pins s1 σ H1 _ I1 q1) fun u s2 h0=>ex5 h0 fun y H2 I2 r2 q2=>?_;exact hf v u s2 x y H2 I2 r1 r2 q2
theorem pe_op {op:Operator}{r:R2}(ho:OpR X (binaryOp op) r)(ha:PE X a ta)(hb:PE X b tb):PE X (.BinOp a op b pos) (tOp r ta tb):=by
 intro pins s σ H Q I h;exact wpAny_BinOp (binT ha hb I h fun v u s2 x y H2 I2 rx ry q=>ho pins s2 σ H2 x y v u Q I2 rx ry q)
theorem pe_un {op:UnaryOp}{r:V->Hp->VK->Prop}(ho:UnR X (unaryOp op) r)(ha:PE X a ta):PE X (.UnaryOp op a pos) (tUn r ta):=by
 intro pins s σ H Q I h;exact UnaryOp_ (thn (ha pins s σ H _ I h) fun v s1 h0=>ex5 h0 fun x H1 I1 r1 q1=>ho pins s1 σ H1 x v Q I1 r1 q1)
theorem opI {f:Value->Value->Sem Value}{C:Int->Int->Prop}{g:Int->Int->Int}
  (rule:∀(i j:Int) (t u:Tok) (s:Shared) (Q:Value->Shared->Prop) (E:Value->Shared->Prop),C i j->Q (.int (g i j) s.toks) {s with toks:=s.toks+1}->wpAny (model X.prog X.w) X.A (f (.int i t) (.int j u)) Q E s):
  OpR X f (rI C fun i j=>.int (g i j)):=by
 intro pins s σ H x y v u Q I rx ry h;obtain⟨i,j,rfl,rfl,hc,q⟩:=h;obtain⟨t,rfl⟩:=rx;obtain⟨t',rfl⟩:=ry;exact rule i j t t' s _ _ hc ⟨.int (g i j),H,I.tok _,⟨_,rfl⟩,q⟩
theorem opI0 {f:Value->Value->Sem Value}{g:Int->Int->Int}
  (rule:∀(i j:Int) (t u:Tok) (s:Shared) (Q:Value->Shared->Prop) (E:Value->Shared->Prop),Q (.int (g i j) s.toks) {s with toks:=s.toks+1}->wpAny (model X.prog X.w) X.A (f (.int i t) (.int j u)) Q E s):
  OpR X f (rI0 fun i j=>.int (g i j)):=by
 intro pins s σ H x y v u Q I rx ry h;obtain⟨i,j,rfl,rfl,q⟩:=h;obtain⟨t,rfl⟩:=rx;obtain⟨t',rfl⟩:=ry;exact rule i j t t' s _ _ ⟨.int (g i j),H,I.tok _,⟨_,rfl⟩,q⟩
theorem opB0 {f:Value->Value->Sem Value}{g:Int->Int->Bool}
  (rule:∀(i j:Int) (t u:Tok) (s:Shared) (Q:Value->Shared->Prop) (E:Value->Shared->Prop),Q (.bool (g i j)) s->wpAny (model X.prog X.w) X.A (f (.int i t) (.int j u)) Q E s):
  OpR X f (rI0 fun i j=>.bl (g i j)):=by
 intro pins s σ H x y v u Q I rx ry h;obtain⟨i,j,rfl,rfl,q⟩:=h;obtain⟨t,rfl⟩:=rx;obtain⟨t',rfl⟩:=ry;exact rule i j t t' s _ _ ⟨.bl (g i j),H,I,rfl,q⟩
def CPow (i j:Int):Prop:=0<=j/\j<=1000000/\i.natAbs<2^64
theorem a3J (k:Nat):(0:Int)<=2^k:=by
 rw[two_pow_cast];exact Int.natCast_nonneg _
theorem b1K:OpR X (binaryOp .Add) (rI0 fun i j=>.int (i+j)):=opI0 fun _ _ _ _ _ _ _ q=>add_int q
theorem b1n:OpR X (binaryOp .Sub) (rI0 fun i j=>.int (i-j)):=opI0 fun _ _ _ _ _ _ _ q=>sub_int q
theorem b0Z:OpR X (binaryOp .Mod) (rI (fun _ j=>0<j) fun i j=>.int (i%j)):=opI fun i j _ _ _ _ _ hc q=>by
 have h1:(0:Int)<j:=hc;exact mod_int' (by walk_at "o") (by rw[Int.fmod_eq_emod_of_nonneg i (by walk_at "o")];exact q)
theorem b00:OpR X (binaryOp .Pow) (rI CPow fun i j=>.int (i^j.toNat)):=opI fun _ _ _ _ _ _ _ hc q=>pow_int_small hc.1 hc.2.1 hc.2.2 q
theorem b1h:OpR X (binaryOp .LShift) (rI CPow fun i j=>.int (i*2^j.toNat)):=opI fun _ _ _ _ _ _ _ hc q=>lshift_int_small hc.1 hc.2.1 hc.2.2 q
theorem b0Y:OpR X (binaryOp .RShift) (rI (fun _ j=>0<=j) fun i j=>.int (i/2^j.toNat)):=opI fun i j _ _ _ _ _ hc q=>
 rshift_int hc (by rw[Int.fdiv_eq_ediv_of_nonneg i (a3J _)];exact q)
theorem b1T:OpR X (binaryOp .BitAnd) (rI0 fun i j=>.int (Builtin.bitAnd i j)):=opI0 fun _ _ _ _ _ _ _ q=>and_int q
theorem op_or:OpR X (binaryOp .BitOr) (rI0 fun i j=>.int (Builtin.bitOr i j)):=opI0 fun _ _ _ _ _ _ _ q=>or_int q
theorem unI {f:Value->Sem Value}{g:Int->Int}
  (rule:∀(i:Int) (t:Tok) (s:Shared) (Q:Value->Shared->Prop) (E:Value->Shared->Prop),Q (.int (g i) s.toks) {s with toks:=s.toks+1}->wpAny (model X.prog X.w) X.A (f (.int i t)) Q E s):
  UnR X f (rU fun i=>.int (g i)):=by
 intro pins s σ H x v Q I rx h;obtain⟨i,rfl,q⟩:=h;obtain⟨t,rfl⟩:=rx;exact rule i t s _ _ ⟨.int (g i),H,I.tok _,⟨_,rfl⟩,q⟩
theorem b1z:UnR X (unaryOp .USub) (rU fun i=>.int (-i)):=unI fun _ _ _ _ _ q=>neg_int q
end
section
variable {X:Cx}{a b c:Expr}{ta tb tc:TE}{pos:Pos}
theorem b0v:OpR X (compareOp .Lt) (rI0 fun i j=>.bl (decide (i<j))):=opB0 fun _ _ _ _ _ _ _ q=>lt_int q
theorem a71:OpR X (compareOp .LtE) (rI0 fun i j=>.bl (decide (i<=j))):=opB0 fun _ _ _ _ _ _ _ q=>le_int q
theorem op_gt:OpR X (compareOp .Gt) (rI0 fun i j=>.bl (decide (j<i))):=opB0 fun _ _ _ _ _ _ _ q=>gt_int q
theorem op_ge:OpR X (compareOp .GtE) (rI0 fun i j=>.bl (decide (j<=i))):=opB0 fun _ _ _ _ _ _ _ q=>ge_int q
theorem OpR.or {f:Value->Value->Sem Value}{r r':R2}(h:OpR X f r)(h':OpR X f r'):OpR X f (fun x y H Q=>r x y H Q\/r' x y H Q):=by
 intro pins s σ H x y v u Q I rx ry q;rcases q with q|q
 ·exact h pins s σ H x y v u Q I rx ry q
 ·exact h' pins s σ H x y v u Q I rx ry q
theorem nomark (b:Expr){op:CmpOp}(h:op≠.In:=by decide)(h2:op≠.NotIn:=by decide):behindInMarks op b=false:=by
 have e1:(op==CmpOp.In)=false:=by cases op<;>first|rfl|exact absurd rfl h
 have e2:(op==CmpOp.NotIn)=false:=by cases op<;>first|rfl|exact absurd rfl h2
 cases b<;>simp[behindInMarks,e1,e2]
theorem a8M {op:CmpOp}{r:R2}(ho:OpR X (compareOp op) r)(ha:PE X a ta)(hb:PE X b tb)(hm:behindInMarks op b=false):PE X (.Compare a [op] [b] pos) (tOp r ta tb):=by
 intro pins s σ H Q I h;exact wpAny_Compare1 (binT ha hb I h fun v u s2 x y H2 I2 rx ry q=>ho pins s2 σ H2 x y v u Q I2 rx ry q) hm
def tTest (t:TE):TT:=fun σ H Q=>t σ H fun x H'=>∃k,x= .bl k/\Q k H'
theorem a9d {op:CmpOp}{r:R2}(ho:OpR X (compareOp op) r)(ha:PE X a ta)(hb:PE X b tb)(hm:behindInMarks op b=false):PT X (.Compare a [op] [b] pos) (tTest (tOp r ta tb)):=by
 intro pins s σ H Q I h
 refine wpAny_isTrue_Compare1 (thn (ha pins s σ H _ I h) fun v s1 h0=>ex5 h0 fun x H1 I1 r1 q1=>thn (hb pins s1 σ H1 _ I1 q1) fun u s2 h0=>ex5 h0 fun y H2 I2 r2 q2=>
  thn (ho pins s2 σ H2 x y v u _ I2 r1 r2 q2) fun c s3 ⟨z,H3,I3,r3,k,e,q3⟩=>?_) hm
 subst e;cases r3;exact xJ ⟨H3,I3,q3⟩
def tChain (r r':R2) (ta tb tc:TE):TE:=fun σ H Q=>ta σ H fun x H1=>tb σ H1 fun y H2=>r x y H2 fun z H3=>∃k,z= .bl k/\
 (if k=true then tc σ H3 fun w' H4=>r' y w' H4 Q else Q (.bl false) H3)
theorem a6Y {op op':CmpOp}{r r':R2}(ho:OpR X (compareOp op) r)(ho':OpR X (compareOp op') r')(ha:PE X a ta)(hb:PE X b tb)(hc:PE X c tc)
  (hm:lastMarks [op,op'] [b,c]=false:=by with_unfolding_all rfl):PE X (.Compare a [op,op'] [b,c] pos) (tChain r r' ta tb tc):=by
 intro pins s σ H Q I h
 refine Compare_chain (thn (ha pins s σ H _ I h) fun v s1 h0=>ex5 h0 fun x H1 I1 r1 q1=>chain_link (thn (hb pins s1 σ H1 _ I1 q1) fun u s2 h0=>ex5 h0 fun y H2 I2 r2 q2=>
  thn (ho pins s2 σ H2 x y v u _ I2 r1 r2 q2) fun d s3 ⟨z,H3,I3,r3,k,e,q3⟩=>?_)) hm
 subst e;cases r3;refine xJ ?_;cases k with
 | false=>exact ite_ff ⟨.bl false,H3,I3,rfl,q3⟩
 | true=>exact ite_tt (chain_last (thn (hc pins s3 σ H3 _ I3 q3) fun w' s4 h0=>ex5 h0 fun z' H4 I4 r4 q4=>ho' pins s4 σ H4 y z' u w' Q I4 r2 r4 q4))
theorem a7Z {op op':CmpOp}{r r':R2}(ho:OpR X (compareOp op) r)(ho':OpR X (compareOp op') r')(ha:PE X a ta)(hb:PE X b tb)(hc:PE X c tc)
  (hm:lastMarks [op,op'] [b,c]=false:=by with_unfolding_all rfl):PT X (.Compare a [op,op'] [b,c] pos) (tTest (tChain r r' ta tb tc)):=by
 intro pins s σ H Q I h
 refine isTrue_chain (thn (ha pins s σ H _ I h) fun v s1 h0=>ex5 h0 fun x H1 I1 r1 q1=>test_link (thn (hb pins s1 σ H1 _ I1 q1) fun u s2 h0=>ex5 h0 fun y H2 I2 r2 q2=>
  thn (ho pins s2 σ H2 x y v u _ I2 r1 r2 q2) fun d s3 ⟨z,H3,I3,r3,k,e,q3⟩=>?_)) hm
 subst e;cases r3;refine xJ ?_;cases k with
 | false=>
  obtain⟨k',e',q'⟩:=q3;cases e';exact ite_ff ⟨H3,I3,q'⟩
 | true=>
  refine ite_tt (test_last (thn (hc pins s3 σ H3 _ I3 q3) fun w' s4 h0=>ex5 h0 fun z' H4 I4 r4 q4=>thn (ho' pins s4 σ H4 y z' u w' _ I4 r2 r4 q4) fun d' s5 ⟨z2,H5,I5,r5,k2,e2,q5⟩=>?_));subst e2;cases r5;exact xJ ⟨H5,I5,q5⟩
def TruV (K:PySem.W.Frag) (x:V) (H:Hp) (k:Bool):Prop:=
 match x with
 | .non=>k=false
 | .bl b=>k=b
 | .int i=>k=(i != 0)
 | .str y=>y.length<=sizeLine/\k=((y.length:Int) != 0)
 | .byt y=>y.size<=sizeLine/\k=((y.size:Int) != 0)
 | .ref p=>(∃xs,SqL K H p xs/\k= !xs.isEmpty)\/(∃xs,SqT K H p xs/\k= !xs.isEmpty)\/∃kvs,H p=some (.dK kvs)/\k= !kvs.isEmpty
 | _=>False
theorem a3P {κ:Type}{kvs:List (κ×V)}{vs:List (κ×Value)}(r:KV kvs vs):(!vs.isEmpty)= !kvs.isEmpty:=by
 cases r<;>rfl
theorem a0K {xs:List V}{its:List Value}(r:Vals xs its):(!its.toArray.isEmpty)= !xs.isEmpty:=by
 cases r<;>simp
theorem line63:(sizeLine:Nat)<2^63:=by rw[jO];decide
theorem a63:TruR X (fun x H Q=>∃k,TruV X.K x H k/\Q k H):=by
 intro pins s σ H x v Q I rx h;obtain⟨k,e,q⟩:=h;have hl:=line63;have hs:sizeLine=16777216:=jO;cases x with
 | non=>
  cases rx;have e':k=false:=e;subst e';exact truthy_none ⟨H,I,q⟩
 | bl b=>
  cases rx;have e':k=b:=e;subst e';exact xJ ⟨H,I,q⟩
 | int i=>
  obtain⟨t,rfl⟩:=rx;have e':k=(i != 0):=e;subst e';exact PySem.P.truthy_int ⟨H,I,q⟩
 | str y=>
  obtain⟨t,rfl⟩:=rx;obtain⟨hy,e'⟩:y.length<=sizeLine/\k=((y.length:Int) != 0):=e;subst e';exact PySem.P.truthy_str (by walk_at "o") ⟨H,I.tok _,q⟩
 | byt y=>
  obtain⟨t,rfl⟩:=rx;obtain⟨hy,e'⟩:y.size<=sizeLine/\k=((y.size:Int) != 0):=e;subst e';exact PySem.W.truthy_bytes (by walk_at "o") ⟨H,I.tok _,q⟩
 | ref p=>
  cases rx;have e':(∃xs,SqL X.K H p xs/\k= !xs.isEmpty)\/(∃xs,SqT X.K H p xs/\k= !xs.isEmpty)\/∃kvs,H p=some (.dK kvs)/\k= !kvs.isEmpty:=e;rcases e' with ⟨xs,hx,e'⟩|⟨xs,hx,e'⟩|⟨kvs,hx,e'⟩
  ·subst e';obtain⟨its,r,pl,hz⟩:=I.list hx;have hlen:=r.length;exact wpAny_truthy_list pl.isList (by simp only[zV];walk_at "o") ⟨H,I.tok _,by rw[a0K r];exact q⟩
  ·subst e';obtain⟨its,r,pl,hz⟩:=I.tuple hx;have hlen:=r.length;exact truthy_tuple pl (by simp only[zV];walk_at "o") ⟨H,I.tok _,by rw[a0K r];exact q⟩
  ·subst e';obtain⟨hz,hS,vs,r,m⟩:kvs.length<=sizeLine/\(p==sysModules)=false/\∃vs,KV kvs vs/\s.heap.DictAt (mixKind X.prog X.w) p vs kvs.length:=I.hok p _ hx;have hlen:kvs.length=vs.length:=xG r;exact wpAny_truthy_dict hS m.dictOf (by walk_at "o") ⟨H,I.tok _,by rw[a3P r];exact q⟩
 | _=>exact(show False from e).elim
theorem a6J (ha:PE X a ta)(he:∀whole,isTrue a X.env whole=(do let v <-whole;standAt a.pos;holding [v] (truthy v))):
  PT X a (fun σ H Q=>ta σ H fun x H'=>∃k,TruV X.K x H' k/\Q k H'):=by
 intro pins s σ H Q I h;exact isTrue_plain (thn (ha pins s σ H _ I h) fun v s1 h0=>ex5 h0 fun x H1 I1 r1 q1=>a63 pins s1 σ H1 x v Q I1 r1 q1) (he _)
theorem vals1 {x:V}{us:List Value}(r:Vals [x] us):∃u,us=[u]/\RelV x u:=by
 cases r with
 | cons r1 r2=>cases r2;exact⟨_,rfl,r1⟩
theorem vals2 {x y:V}{us:List Value}(r:Vals [x,y] us):∃u w',us=[u,w']/\RelV x u/\RelV y w':=by
 cases r with
 | cons r1 r2=>
  cases r2 with
  | cons r3 r4=>cases r4;exact⟨_,_,rfl,r1,r3⟩
theorem a1p (hc:X.calm=true):CallR X (.builtin "max") (fun xs H Q=>∃i j,xs=[.int i,.int j]/\Q (.int (if j>i then j else i)) H):=by
 intro pins s σ H xs us Q I r h;obtain⟨i,j,rfl,q⟩:=h;obtain⟨u,w',rfl,⟨t,rfl⟩,⟨t',rfl⟩⟩:=vals2 r;refine max_two_ints (I.ok.hd hc) fun h' tk k=>⟨_,H,I.kept k,?_,q⟩
 by_cases hj:j>i
 ·rw[if_pos hj,if_pos hj];exact⟨_,rfl⟩
 ·rw[if_neg hj,if_neg hj];exact⟨_,rfl⟩
theorem a5S (hc:X.calm=true):CallR X (.builtin "min") (fun xs H Q=>∃i j,xs=[.int i,.int j]/\Q (.int (if j<i then j else i)) H):=by
 intro pins s σ H xs us Q I r h;obtain⟨i,j,rfl,q⟩:=h;obtain⟨u,w',rfl,⟨t,rfl⟩,⟨t',rfl⟩⟩:=vals2 r;refine min_two_ints (I.ok.hd hc) fun h' tk k=>⟨_,H,I.kept k,?_,q⟩
 by_cases hj:j<i
 ·rw[if_pos hj,if_pos hj];exact⟨_,rfl⟩
 ·rw[if_neg hj,if_neg hj];exact⟨_,rfl⟩
end
theorem RelO.some_of {v:V}{o:Option Value}(r:RelO (some v) o):∃u,o=some u/\RelV v u:=by
 cases o with
 | none=>exact(show False from r).elim
 | some u=>exact⟨u,rfl,r⟩
structure Cls (K:PySem.W.Frag) (C:Addr):Prop where
 pg:PySem.W.plainGet K C Str.empty=true
 hd:PySem.W.hasDictIn K C=true
 po:PySem.W.plainOver K C=true
 sa:PySem.W.findIn K (.ref C) "__setattr__"=some (some (.builtin "object.__setattr__"))
section
variable {H:Hp}
inductive TyOf (K:PySem.W.Frag) (H:Hp):V->Value->Prop where
 | non:TyOf K H .non (.type "NoneType")
 | bl (x:Bool):TyOf K H (.bl x) (.type "bool")
 | int (i:Int):TyOf K H (.int i) (.type "int")
 | str (x:Str):TyOf K H (.str x) (.type "str")
 | flt (x:UInt64):TyOf K H (.flt x) (.type "float")
 | lst {a:Addr} {xs:List V} (e:H a=some (.lst xs)):TyOf K H (.ref a) (.type "list")
 | frz {a:Addr} {o:Obj} {xs:List V} (e:H a=some (.frz o (.lst xs))):TyOf K H (.ref a) (.type "list")
 | tup {a:Addr} {xs:List V} (e:H a=some (.tup xs)):TyOf K H (.ref a) (.type "tuple")
 | dK {a:Addr} {kvs:List (Key×V)} (e:H a=some (.dK kvs)):TyOf K H (.ref a) (.type "dict")
 | dT {a:Addr} {kvs:List (List Key×V)} (e:H a=some (.dT kvs)):TyOf K H (.ref a) (.type "dict")
 | ins {a C dx:Addr} {fs:List (Str×V)} (e:H a=some (.ins C dx fs)) (cl:Cls K C) (ha:PySem.W.findIn K (.ref C) "__class__"=some (some (.builtin "object.__class__")))
   (hn:PySem.W.specialIn K (.builtin "object.__class__") "__get__"=some (some (.builtin "getset_descriptor.__get__"))) (htk:PySem.W.takesIn K (.builtin "object.__class__")=some true)
   (hm:PySem.W.mroIn K C (.type "object")=some true):TyOf K H (.ref a) (.ref C)
end
structure Room (k:Nat) (A:Around):Prop where
 hd:A.handled=none
 dp:A.depth+3*k+5<recursionLimit
 un:A.units+16*k+200<cLine
 gd:A.guards=some []
theorem Room.mono {j k:Nat}{A:Around}(r:Room k A)(h:j<=k):Room j A:=⟨r.hd,by have:=r.dp;walk_at "o",by have:=r.un;walk_at "o",r.gd⟩
theorem Room.deeper {k:Nat}{A:Around}(r:Room (k+1) A)(env:Env):Room k (A.deeper env):=
 ⟨r.hd,by have:=r.dp;show A.depth+1+3*k+5<_;walk_at "o",by have:=r.un;show A.units+3+16*k+200<_;walk_at "o",r.gd⟩
theorem Room.depth {k:Nat}{A:Around}(r:Room k A):A.depth<recursionLimit:=by have:=r.dp;walk_at "o"
theorem Room.units {k:Nat}{A:Around}(r:Room k A):A.units+64<cLine:=by have:=r.un;walk_at "o"
def tNil:TA:=fun _ H Q=>Q [] H
def tCons (ta:TE) (tr:TA):TA:=fun σ H Q=>ta σ H fun x H1=>tr σ H1 fun xs H2=>Q (x::xs) H2
section
variable {X:Cx}{e:Expr}{es:List Expr}{te:TE}{t:TA}{pos:Pos}
theorem a6V:PA X [] tNil:=fun _ _ _ _ H Q I h=>Calls.spliced_nil ⟨[],H,I,.nil,h⟩
theorem a2r (ha:PE X e te)(hr:PA X es t)(hs:starEach (e::es) X.env=(false,eval e X.env)::starEach es X.env:=by rfl):PA X (e::es) (tCons te t):=by
 intro pos pins s σ H Q I h;rw[hs];show wpAny _ _ (spliced ((false,eval e X.env)::backTo pos (starEach es X.env))) _ _ s;refine Calls.spliced_cons (thn (ha pins s σ H _ I h) fun u s1 h0=>ex5 h0 fun x H1 I1 r1 q1=>?_);exact thn (hr pos pins s1 σ H1 _ I1 q1) fun us s2 h0=>ex5 h0 fun xs H2 I2 r2 q2=>⟨x::xs,H2,I2,.cons r1 r2,q2⟩
def tTup (t:TA):TE:=fun σ H Q=>t σ H fun xs H1=>xs.length<=sizeLine/\∀p,H1 p=none->Q (.ref p) (upd H1 p (.tup xs))
def tLst (t:TA):TE:=fun σ H Q=>t σ H fun xs H1=>xs.length<=sizeLine/\∀p,H1 p=none->Q (.ref p) (upd H1 p (.lst xs))
theorem a6B {x1}(h:PA X es t):PE X (.Tuple es x1 pos) (tTup t):=by
 intro pins s σ H Q I hq;refine wpAny_Tuple_spliced (thn (h pos pins s σ H _ I hq) fun us s1 ⟨xs,H1,I1,r,z,q⟩=>⟨by rw[<-r.length];exact z,?_⟩)
 have hf:H1 s1.heap.objs.size=none:=I1.hok.fresh (zF _);refine⟨.ref s1.heap.objs.size,upd H1 s1.heap.objs.size (.tup xs),I1.laid (t':=s1.toks) (fun b u e=>zD _ e) (zF _) ?_,rfl,q _ hf⟩;exact⟨z,us,r,TupN.new _ _⟩
theorem b1E (h:PA X es t):PE X (.List es pos) (tLst t):=by
 intro pins s σ H Q I hq;refine wpAny_List_spliced (thn (h pos pins s σ H _ I hq) fun us s1 ⟨xs,H1,I1,r,z,q⟩=>⟨by rw[<-r.length];exact z,?_⟩)
 have hf:H1 s1.heap.objs.size=none:=I1.hok.fresh (zF _);refine⟨.ref s1.heap.objs.size,upd H1 s1.heap.objs.size (.lst xs),I1.laid (t':=s1.toks) (fun b u e=>zD _ e) (zF _) ?_,rfl,q _ hf⟩;exact⟨z,us,0,r,zW _ rfl⟩
end
abbrev Sp:=List V->Hp->VK->XK->Prop
abbrev CXT:=List Env->Hp->Shared->XK->Value->Shared->Prop
structure Env0 (P:Program) (w:World) (K:PySem.W.Frag) (mg:Str->Option Value) (base:Heap) (A:Around) (outer:List Env) (s:Shared) (H:Hp):Prop where
 frames:A.frames=some outer
 mod:Mod K mg base
 bs:∀b o,base.get? b=some o->s.heap.get? b=some o/\H b=none
 bsz:base.objs.size<=s.heap.objs.size
 funs:s.heap.FunFrames base outer
 frf:∀b∈frs outer,H b=none
 hok:HOk P w H s.heap
 bare:AllBare s.gens
def CE (outer:List Env) (P:Program) (w:World) (H:Hp) (s:Shared) (Q:VK) (u:Value) (s':Shared):Prop:=
 ∃v H',s'.os=s.os/\AllBare s'.gens/\Un (frs outer) [] H H' s.heap s'.heap/\HOk P w H' s'.heap/\RelV v u/\Q v H'
def CR (CX:CXT) (outer:List Env) (P:Program) (w:World) (H:Hp) (s:Shared) (Q:VK) (E:XK) (r:Result) (s':Shared):Prop:=
 match r with
 | .ok (.ret u)=>CE outer P w H s Q u s'
 | .ok _=>False
 | .error e=>CX outer H s E e s'
structure FnOk (P:Program) (w:World) (K:PySem.W.Frag) (mg:Str->Option Value) (base:Heap) (CX:CXT) (k:Nat) (f:Addr) (fd:FuncData) (ps:List Str) (sp:Sp):Prop where
 len:∀vs H Q E,sp vs H Q E->vs.length=ps.length
 run:∀(A:Around) (outer:List Env) (s:Shared) (H:Hp) (args:Args) (us:List Value) (vs:List V) (Q:VK) (E:XK),Room k A->Env0 P w K mg base A outer s H->BindsTo s fd args (ps.zip us)->Vals vs us->sp vs H Q E->
  codeAny (model P w) A (.call (.ref f) args) (CR CX outer P w H s Q E) s
theorem FnOk.mono {P:Program}{w:World}{K:PySem.W.Frag}{mg:Str->Option Value}{base:Heap}{CX:CXT}{j k:Nat}{f:Addr}{fd:FuncData}{ps:List Str}{sp:Sp}(F:FnOk P w K mg base CX j f fd ps sp)(h:j<=k):
  FnOk P w K mg base CX k f fd ps sp:=⟨F.len,fun A outer s H args us vs Q E hr=>F.run A outer s H args us vs Q E (hr.mono h)⟩
section
variable {X:Cx}{pins:List (Addr×Obj)}{σ:St}{H:Hp}{s s':Shared}
theorem Inv.env0 (I:Inv X pins σ H s):Env0 X.prog X.w X.K X.mg X.base X.A X.stack s H:=
 ⟨I.ok.frames,I.ok.mod,I.bs,zP I.ok.bsz I.sz,I.stack,I.stkFree,I.hok,I.bare⟩
theorem Inv.after {Q:VK}{u:Value}(I:Inv X pins σ H s)(h:CE X.stack X.prog X.w H s Q u s'):EP X pins σ Q u s':=by
 obtain⟨v,H',os,bare,un,hok,r,q⟩:=h;obtain⟨hh,g,d,t,os'⟩:=s';obtain rfl:os'=s.os:=os;exact⟨v,H',I.call (h':=hh) (g':=g) (d':=d) (t':=t) (ch:=[]) un hok bare (fun b z=>absurd z (by simp)),r,q⟩
end
def tCall (sp:Sp) (dvs:List V) (E:XK) (t:TA):TE:=fun σ H Q=>t σ H fun vs H1=>sp (vs++dvs) H1 Q E
def Binds (K:PySem.W.Frag) (fd:FuncData) (ps:List Str) (ds:List Value):Prop:=
 ∀(s:Shared) (us:List Value),K.In s.heap->(us++ds).length=ps.length->BindsTo s fd ⟨us,[]⟩ (ps.zip (us++ds))
theorem Binds.all {K:PySem.W.Frag}{fd:FuncData}{ps:List Str}(h:∀us:List Value,us.length=ps.length->bindArgs fd ⟨us,[]⟩=pure (ps.zip us)):Binds K fd ps []:=fun s us _ hl=>by
 rw[jP] at hl ⊢;exact .of_eq (h us hl)
def Passes (CX:CXT) (X:Cx) (E:XK):Prop:=∀(pins:List (Addr×Obj)) (σ:St) (H:Hp) (s:Shared) (e:Value) (s':Shared),Inv X pins σ H s->CX X.stack H s E e s'->X.xe e s'
section
variable {X:Cx}{CX:CXT}{k:Nat}{f:Addr}{fd:FuncData}{ps:List Str}{sp:Sp}{dvs:List V}{ds:List Value}{E:XK}{x:Str}{p pos:Pos}{e:Expr}{es:List Expr}{t:TA}
theorem b1A {pins:List (Addr×Obj)}{σ:St}{H:Hp}{s:Shared}{Q:VK}{us:List Value}{vs:List V}(F:FnOk X.prog X.w X.K X.mg X.base CX k f fd ps sp)(hr:Room k X.A)(hb:Binds X.K fd ps ds)(hd:Vals dvs ds)(hx:Passes CX X E)
  (I:Inv X pins σ H s) (r:Vals vs us) (h:sp (vs++dvs) H Q E):wpAny (model X.prog X.w) X.A (call (.ref f) us) (EP X pins σ Q) X.xe s:=by
 have r2:Vals (vs++dvs) (us++ds):=r.append hd;have hl:(us++ds).length=ps.length:=by rw[<-r2.length];exact F.len _ _ _ _ h
 refine wpAny_call (codeAny_mono (F.run X.A X.stack s H ⟨us,[]⟩ (us++ds) (vs++dvs) Q E hr I.env0 (hb s us I.kIn hl) r2 h) fun r s' hq=>?_);cases r with
 | error e=>exact hx pins σ H s e s' I hq
 | ok fl=>
  cases fl with
  | ret u=>exact I.after hq
  | next=>exact False.elim hq
  | brk=>exact False.elim hq
  | cont=>exact False.elim hq
theorem a4E (F:FnOk X.prog X.w X.K X.mg X.base CX k f fd ps sp)(hr:Room k X.A)(hg:Gl X x)(hm:X.mg x=some (.ref f))(hk:PySem.W.keepIn X.K (.ref f)=true)(hb:Binds X.K fd ps ds)(hd:Vals dvs ds)(hx:Passes CX X E)
  (ha:PA X (e::es) t) (hdb:(x==("__debug__":Str))=false:=by decide) (he:starEach (e::es) X.env=(false,eval e X.env)::starEach es X.env:=by rfl) (hpl:(backTo pos (starEach es X.env)).any (·.1)=false:=by rfl):
  PE X (.Call (.Name x p) (e::es) [] pos) (tCall sp dvs E t):=by
 intro pins s σ H Q I h;refine xW (a9t I hg hm ?_ hdb);refine PySem.W.callWith_K (h₀:=X.base) I.ok.mod.kin hk (thn (ha pos pins s σ H _ I h) fun us s1 h0=>ex5 h0 fun vs H1 I1 r q=>⟨I1.kIn,?_⟩) he hpl;exact b1A F hr hb hd hx I1 r q
end
structure FnScope (N P:List Str) (sc:Scope):Prop where
 kind:sc.kind= .function
 co:sc.isCoroutine=false
 gen:sc.isGenerator=false
 nd:N.Nodup
 pre:N.take P.length=P
 par:∀x∈P,sc.names.lookup x=some .local\/sc.names.lookup x=some .cell
 nofree:∀y∈sc.names,y.2≠.free
theorem a1m {kindOf:Str->Option NameKind}{x:Str}:∀{binds:List (Str×Value)} {m:Str->Option Value},(∀v,(x,v)∉binds)->bindL kindOf binds m x=m x
 | [],_,_=>rfl
 | (n,v)::r,m,h=>by
  unfold bindL;rw[a1m fun w hw=>h w (zJ _ hw)]
  split
  ·have:x≠n:=by rintro rfl;exact h v zG
   simp[this]
  ·rfl
theorem a1v {kindOf:Str->Option NameKind}{x:Str}:∀{binds:List (Str×Value)} {m:Str->Option Value},(∀v,(x,v)∉binds)->bindC kindOf binds m x=m x
 | [],_,_=>rfl
 | (n,v)::r,m,h=>by
  unfold bindC;rw[a1v fun w hw=>h w (zJ _ hw)]
  split
  ·rfl
  ·have:x≠n:=by rintro rfl;exact h v zG
   simp[this]
theorem a1d {kindOf:Str->Option NameKind}{x:Str}{v:Value}:∀{P:List Str} {vs:List Value} {i:Nat} {m:Str->Option Value},P.Nodup->P[i]? =some x->vs[i]? =some v->kindOf x=some .local->
  bindL kindOf (P.zip vs) m x=some v
 | [],_,_,_,_,h,_,_=>by simp at h
 | _::_,[],_,_,_,_,h,_=>by simp at h
 | p::P,w::vs,0,m,nd,h1,h2,hk=>by
  simp at h1 h2;subst h1;subst h2;show bindL kindOf ((p,w)::P.zip vs) m p=_;unfold bindL;rw[a1m fun v hv=>(xK.mp nd).1 (of_mem_zip hv).1,if_pos hk];simp
 | p::P,w::vs,i+1,m,nd,h1,h2,hk=>by
  show bindL kindOf ((p,w)::P.zip vs) m x=_;unfold bindL;exact a1d (i:=i) (xK.mp nd).2 (by simpa using h1) (by simpa using h2) hk
theorem a1F {kindOf:Str->Option NameKind}{x:Str}{v:Value}:∀{P:List Str} {vs:List Value} {i:Nat} {m:Str->Option Value},P.Nodup->P[i]? =some x->vs[i]? =some v->kindOf x≠some .local->
  bindC kindOf (P.zip vs) m x=some v
 | [],_,_,_,_,h,_,_=>by simp at h
 | _::_,[],_,_,_,_,h,_=>by simp at h
 | p::P,w::vs,0,m,nd,h1,h2,hk=>by
  simp at h1 h2;subst h1;subst h2;show bindC kindOf ((p,w)::P.zip vs) m p=_;unfold bindC;rw[a1v fun v hv=>(xK.mp nd).1 (of_mem_zip hv).1,if_neg hk];simp
 | p::P,w::vs,i+1,m,nd,h1,h2,hk=>by
  show bindC kindOf ((p,w)::P.zip vs) m x=_;unfold bindC;exact a1F (i:=i) (xK.mp nd).2 (by simpa using h1) (by simpa using h2) hk
def start (N:List Str) (vs:List V):St:=vs.map some++List.replicate (N.length-vs.length) none
def cxOf (CX:CXT) (P:Program) (w:World) (K:PySem.W.Frag) (mg:Str->Option Value) (base:Heap) (N:List Str) (qual:Str) (scope:Scope) (f:Addr) (cd:Value) (A:Around) (outer:List Env) (s:Shared) (H:Hp) (E:XK):Cx where
 prog:=P
 w:=w
 K:=K
 mg:=mg
 base:=base
 A:=A.deeper (envOfC qual scope s.heap.objs.size f cd)
 N:=N
 s₀:=s
 H₀:=H
 env:=envOfC qual scope s.heap.objs.size f cd
 outer:=outer
 stack:=envOfC qual scope s.heap.objs.size f cd::outer
 ex:=[]
 calm:=true
 fn:=fun _=>true
 pn:=[]
 xe:=fun e s'=>wpAny (model P w) (A.deeper (envOfC qual scope s.heap.objs.size f cd)) (leaving (envOfC qual scope s.heap.objs.size f cd) e) (fun _ s''=>CX outer H s E e s'') (fun e' s''=>CX outer H s E e' s'') s'
theorem a2X {sc:Scope}{n:Nat}{x:Str}(h:sc.names.lookup x=some .cell):∃c,(cellsFrom n sc.names []).lookup x=some c:=by
 have q:=PySem.W.cellsFrom_some sc.names n [] (.inl h);exact isSome_iff_exists.mp q
theorem a5I {CX:CXT}{P:Program}{w:World}{K:PySem.W.Frag}{mg:Str->Option Value}{base:Heap}{N ps:List Str}{qual:Str}{scope:Scope}{f:Addr}{cd:Value}{A:Around}{outer:List Env}{s s1:Shared}{H:Hp}{E:XK}{us:List Value}{vs:List V}
  (S:FnScope N ps scope) (hd:A.handled=none) (e0:Env0 P w K mg base A outer s H) (hl:vs.length=ps.length) (r:Vals vs us)
  (x:InCallC s s.heap.objs.size (bindL (envOfC qual scope s.heap.objs.size f cd).kindOf (ps.zip us) fun _=>none) (cellsFrom (s.heap.objs.size+1) scope.names []) (bindC (envOfC qual scope s.heap.objs.size f cd).kindOf (ps.zip us) fun _=>none) s1):
  Inv (cxOf CX P w K mg base N qual scope f cd A outer s H E) [] (start N vs) H s1:=by
 have hpl:ps.length<=N.length:=by have:=congrArg List.length S.pre;rw[length_take] at this;walk_at "o"
 obtain⟨h1,tk,rfl,hk⟩:=x.done;have noA:∀b:Addr,b∉(cxOf CX P w K mg base N qual scope f cd A outer s H E).ex:=fun b z=>absurd (show b∈([]:List Addr) from z) (by simp)
 refine⟨⟨e0.mod,S.kind,rfl,rfl,zF _,fun y z c h1 h2=>?_,fun y hy=>?_,fun y c _ h=>?_,fun _=>hd,Around.frames_deeper e0.frames,.inr ⟨rfl,rfl⟩,fun b z=>absurd z (noA b),e0.bs,e0.bsz,fun b _ _=>noA b,fun b z=>absurd z (noA b),e0.funs,e0.frf⟩,
  rfl,e0.bare,Un.kept hk,⟨_,x.toInCall.ns,fun i y v h1 h2 h3=>?_⟩,fun y c h=>⟨_,x.cell y c h⟩,e0.hok.fresh (zF _),fun y c h=>?_,fun p hp=>absurd (show p∈([]:List (Addr×Obj)) from hp) (by simp),e0.hok.kept hk,?_⟩
 ·exact name_of_addr x.apart (xR h1) (xR h2)
 ·have hy:scope.names.lookup y=some .cell\/scope.names.lookup y=some .free:=hy;rcases hy with hy|hy
  ·exact a2X hy
  ·exact absurd rfl (S.nofree _ (xR hy))
 ·exact Nat.le_of_lt (x.above y c (xR h))
 ·have hi:i<vs.length:=by
   unfold start at h2
   by_cases hi:i<vs.length
   ·exact hi
   ·rw[qG (by simpa using hi)] at h2
    rw[List.getElem?_replicate] at h2;split at h2<;>cases h2
  have ha:vs[i]? =some v:=by
   unfold start at h2;rw[qA (by simpa using hi),qH] at h2
   cases e:vs[i]? with
   | none=>rw[e] at h2;cases h2
   | some a=>rw[e] at h2;cases h2;rfl
  obtain⟨u,hu,rv⟩:=r.get ha;have hp:ps[i]? =some y:=by
   rw[<-S.pre,List.getElem?_take_of_lt (by walk_at "o")];exact h1
  have ndP:ps.Nodup:=by rw[<-S.pre];exact S.nd.sublist (List.take_sublist _ _)
  refine⟨u,rv,?_⟩;rcases S.par y (mem_of_getElem? hp) with k|k
  ·exact .inl ⟨k,a1d ndP hp hu k⟩
  ·obtain⟨c,e⟩:=a2X (n:=s.heap.objs.size+1) k;refine .inr ⟨.inl k,c,e,?_⟩;have q:=x.cell y c e;rw[a1F ndP hp hu (by show scope.names.lookup y≠_;rw[k];decide)] at q
   exact q
 ·exact e0.hok.fresh (Nat.le_of_lt (x.above y c (xR h)))
 ·unfold start;show _=N.length;rw[qB,zC,length_replicate];walk_at "o"
theorem fn_of {CX:CXT}{P:Program}{w:World}{K:PySem.W.Frag}{mg:Str->Option Value}{base:Heap}{k:Nat}{f:Addr}{name qual:Str}{params:Arguments}{body:List Stmt}{scope:Scope}{dV kV doc pm cdv ct oc:Value}{an od:Option Addr}
  {osl:Array (Option Value)} {N ps:List Str} {sp:Sp} (lk:K.lookup f=some ⟨oc,od,.func (PySem.W.fnOf name qual params body scope dV kV doc pm an cdv ct),osl⟩) (hcd:PySem.W.codeIn K cdv qual=true) (S:FnScope N ps scope)
  (len:∀vs H Q E,sp vs H Q E->vs.length=ps.length)
  (hbody:∀(A:Around) (outer:List Env) (s:Shared) (H:Hp) (vs:List V) (Q:VK) (E:XK),Room k (A.deeper (envOfC qual scope s.heap.objs.size f cdv))->sp vs H Q E->
   ∃t,PSs (cxOf CX P w K mg base N qual scope f cdv A outer s H E) body t/\t {nx:=fun _ H'=>Q .non H',rt:=Q} (start N vs) H):
  FnOk P w K mg base CX (k+1) f (PySem.W.fnOf name qual params body scope dV kV doc pm an cdv ct) ps sp:=by
 refine⟨len,fun A outer s H args us vs Q E hr e0 hb r hsp=>?_⟩;have hl:=len _ _ _ _ hsp;have KX:K.In s.heap:=e0.mod.kin.keeps fun b o e=>(e0.bs b o e).1;have lim:s.heap.NoLimit:=e0.mod.nolimit.keeps fun b o e=>(e0.bs b o e).1;have hkind:∀y∈ps.zip us,scope.names.lookup y.1=some .local\/(scope.names.lookup y.1=some .cell/\((cellsFrom (s.heap.objs.size+1) scope.names []).lookup y.1).isSome=true):=fun⟨n,v⟩ hy=>by
  rcases S.par n (of_mem_zip hy).1 with q|q
  ·exact .inl q
  ·exact .inr ⟨q,PySem.W.cellsFrom_some _ _ _ (.inl q)⟩
 refine codeAny_call_function hr.depth (KX _ _ lk) rfl S.co S.gen rfl (PySem.W.codeRec_of KX hcd) (hb _ _ _ _ ?_);refine wpAny_newFunctionEnv_cells S.kind hkind fun env he s1 x=>?_;subst he;refine⟨lim.keeps x.toInCall.keep,codeAny_func ?_⟩;obtain⟨t,ht,hq⟩:=hbody A outer s H vs Q E (hr.deeper _) hsp;have I:Inv (cxOf CX P w K mg base N qual scope f cdv A outer s H E) [] (start N vs) H s1:=a5I S hr.hd e0 hl r x;refine zR (ht [] s1 (start N vs) H _ I hq) (fun fl s' hs=>?_) fun e s' hs=>hs;have fin:∀{σ':St} {H':Hp} {v:V} {u:Value},Inv (cxOf CX P w K mg base N qual scope f cdv A outer s H E) [] σ' H' s'->RelV v u->Q v H'->CE outer P w H s Q u s':=
  fun{σ' H' v u} J rv q=>⟨v,H',J.os,J.bare,J.base,J.hok,rv,q⟩
 cases fl with
 | ret u=>
  obtain⟨v,σ',H',J,rv,q⟩:=hs;exact fin J rv q
 | next=>
  obtain⟨σ',H',J,q⟩:=hs;exact fin (v:=V.non) (u:=Value.none) J rfl q
 | brk=>
  obtain⟨_,_,_,q⟩:=hs;exact False.elim q
 | cont=>
  obtain⟨_,_,_,q⟩:=hs;exact False.elim q
section
variable {X:Cx}{x:Str}{p pos:Pos}{e:Expr}{es:List Expr}{t:TA}{id T:String}{r:List V->Hp->VK->Prop}
def tCB (r:List V->Hp->VK->Prop) (t:TA):TE:=fun σ H Q=>t σ H fun vs H1=>r vs H1 Q
theorem a2Z (hc:CallR X (.builtin id) r)(hg:Gl X x)(hm:X.mg x=none)(hv:bootBuiltins x=some (.builtin id))(ha:PA X (e::es) t)(hn:x≠"__name__":=by decide)(hdb:(x==("__debug__":Str))=false:=by decide)
  (he:starEach (e::es) X.env=(false,eval e X.env)::starEach es X.env:=by rfl) (hpl:(backTo pos (starEach es X.env)).any (·.1)=false:=by rfl):PE X (.Call (.Name x p) (e::es) [] pos) (tCB r t):=by
 intro pins s σ H Q I h;refine xW (K8 I hg hm hv ?_ hn hdb);exact PyProof.Rows.callWith_builtin1 (thn (ha pos pins s σ H _ I h) fun us s1 h0=>ex5 h0 fun vs H1 I1 r1 q1=>hc pins s1 σ H1 vs us Q I1 r1 q1) he hpl
theorem a6a (hc:CallR X (.type T) r)(hg:Gl X x)(hm:X.mg x=none)(hv:bootBuiltins x=some (.type T))(ha:PA X (e::es) t)(hn:x≠"__name__":=by decide)(hdb:(x==("__debug__":Str))=false:=by decide)
  (he:starEach (e::es) X.env=(false,eval e X.env)::starEach es X.env:=by rfl) (hpl:(backTo pos (starEach es X.env)).any (·.1)=false:=by rfl):PE X (.Call (.Name x p) (e::es) [] pos) (tCB r t):=by
 intro pins s σ H Q I h;refine xW (K8 I hg hm hv ?_ hn hdb);exact jD (thn (ha pos pins s σ H _ I h) fun us s1 h0=>ex5 h0 fun vs H1 I1 r1 q1=>hc pins s1 σ H1 vs us Q I1 r1 q1) he hpl
end
end L2
namespace HT
open PySem PyProof.Rows
def lexLt:List Int->List Int->Bool
 | [],[]=>false
 | [],_::_=>true
 | _::_,[]=>false
 | x::xs,y::ys=>if x=y then lexLt xs ys else decide (x<y)
theorem lexLt_cons (x y:Int)(xs ys:List Int):lexLt (x::xs) (y::ys)=if x=y then lexLt xs ys else decide (x<y):=rfl
theorem a09:lexLt [] []=false:=rfl
theorem a0Q (y:Int)(ys:List Int):lexLt [] (y::ys)=true:=rfl
theorem a0B (x:Int)(xs:List Int):lexLt (x::xs) []=false:=rfl
theorem a70 (A:Around)(s:Shared)(a:Int)(t:Tok)(c:Int)(u:Tok):∃e,SeqAt.EqAt A s (.int a t) (.int c u) e/\(e=true↔a=c):=
 ⟨(a==c),SeqAt.EqAt.int_int a t c u,by simp⟩
theorem a7c (A:Around)(s:Shared)(a:Int)(t:Tok)(c:Int)(u:Tok)(prog:Program)(w:World)(E:Value->Shared->Prop)(Q:Value->Shared->Prop)(h:Q (.bool (decide (a<c))) s):
  wpAny (model prog w) A (richCompare .Lt (.int a t) (.int c u)) Q E s:=
 (PyProof.Rows.lt_int h:wpAny (model prog w) A (compareOp .Lt (.int a t) (.int c u)) Q E s)
section
open PySem.SeqAt
open PySem.AutoSeq1 (wpAny_loadPart')
open PySem.MeetsSeq PySem.MeetsSeq2 PySem.MeetsSeq3
theorem a08 (l b:Addr)(items items2:Array Value)(n n2:Nat)(dd dd2:Option Addr)(sl sl2:Array (Option Value))(ns ms:List Int)(hi:IntsAre items.toList ns)(hj:IntsAre items2.toList ms):
  Meets (Builtin.«tuple.__lt__» ⟨[.ref l,.ref b],[]⟩)
   (fun _ R s=>s.heap.get? l=some {cls:=.type "tuple",dict:=dd,data:=.seq items n,slots:=sl}/\s.heap.get? b=some {cls:=.type "tuple",dict:=dd2,data:=.seq items2 n2,slots:=sl2}/\
    R (.ok (.ret (.bool (lexLt ns ms)))) s):=
 .of_wp fun prog w A R s h=>by
  obtain⟨hp,g,d,tk,os⟩:=s;obtain⟨hl,hb,h⟩:=h;have f2:=AutoSeq1.sub_tuple_tuple;have z1:items.size=ns.length:=by rw[<-hi.length];simp
  have z2:items2.size=ms.length:=by rw[<-hj.length];simp
  wp_walk using wpAny_loadPart' hl,wpAny_loadPart' hb,wpAny_forIn_list _ (fun rest b s'=>b.1=none/\s'=⟨hp,g,d,tk,os⟩/\∃(vs ws:List Value) (ns' ms':List Int),rest=vs.zip ws/\
   IntsAre vs ns'/\IntsAre ws ms'/\ns'.length+items2.size=ms'.length+items.size/\R (.ok (.ret (.bool (lexLt ns' ms')))) ⟨hp,g,d,tk,os⟩) _
  case turn=>
   rintro⟨y,x⟩ rest b s' ⟨hb',rfl,vs,ws,ns',ms',hz,hvi,hwi,hlen,hR⟩;cases hvi with
   | nil=>rw[zip_nil_left] at hz;cases hz
   | cons a t hvi'=>
    cases hwi with
    | nil=>rw[List.zip_nil_right] at hz;cases hz
    | cons c u hwi'=>
     rw[jX] at hz;injection hz with hyx hrest
     injection hyx with hy hx
     subst hy hx;rw[lexLt_cons] at hR;simp only[qC] at hlen;obtain⟨e,he,hiff⟩:=a70 A.in1 ⟨hp,g,d,tk,os⟩ a t c u;refine zA (he prog w _ _ ?_);cases e with
     | true=>
      rw[if_pos (hiff.mp rfl)] at hR
      wp_walk
      exact⟨rfl,rfl,_,_,_,_,hrest,hvi',hwi',by walk_at "o",hR⟩
     | false=>
      rw[if_neg (fun q=>absurd (hiff.mpr q) zT)] at hR;have hri:=a7c A.in1 ⟨hp,g,d,tk,os⟩ a t c u prog w
      wp_walk using hri
      exact⟨_,rfl,by simpa using hR⟩
  case fin=>
   rintro⟨b1,b2⟩ s' ⟨hb',rfl,vs,ws,ns',ms',hz,hvi,hwi,hlen,hR⟩;simp only at hb';subst hb';have hv:lexLt ns' ms'=decide (items.size<items2.size):=by
    cases hvi with
    | nil=>
     cases hwi with
     | nil=>
      simp only[xX] at hlen;rw[a09];exact(zO (by walk_at "o")).symm
     | cons c u hw=>
      simp only[xX,qC] at hlen;rw[a0Q];exact(zL (by walk_at "o")).symm
    | cons a t hv=>
     cases hwi with
     | nil=>
      simp only[xX,qC] at hlen;rw[a0B];exact(zO (by walk_at "o")).symm
     | cons c u hw=>
      rw[jX] at hz;cases hz
   rw[hv] at hR
   wp_walk
   exact⟨_,rfl,by simpa [Builtin.Tuple.tupleCompareSizes] using hR⟩
  case h=>
   exact⟨rfl,rfl,items.toList,items2.toList,ns,ms,rfl,hi,hj,by walk_at "o",h⟩
end
section
variable {prog:Program}{w:World}{A:Around}{E:Value->Shared->Prop}{s:Shared}
theorem lt_tupInts {l b:Addr}{items items2:Array Value}{ns ms:List Int}{Q:Value->Shared->Prop}(hl:IsTup s.heap l items)(hb:IsTup s.heap b items2)(hi:IntsAre items.toList ns)(hj:IntsAre items2.toList ms)
  (hu:A.units<cLine) (h:Q (.bool (lexLt ns ms)) s):wpAny (model prog w) A (compareOp .Lt (.ref l) (.ref b)) Q E s:=by
 obtain⟨⟨cls,dd,data,sl⟩,ho,hc,n,hd⟩:=id hl;obtain⟨⟨cls2,dd2,data2,sl2⟩,ho2,hc2,n2,hd2⟩:=id hb;simp only at hc hd hc2 hd2;subst hc hd hc2 hd2;exact richCompare_meets_room (op:=.Lt) ⟨_,ho,rfl⟩ ⟨_,ho2,rfl⟩ PySem.F.slot_tuple_lt PySem.F.entry_tuple_lt (PySem.F.args_tuple_lt_2 _ _) (a08 l b items items2 n n2 dd dd2 sl sl2 ns ms hi hj)
  ⟨ho,ho2,show Value.bool (lexLt ns ms)≠Value.notImplemented/\Q (.bool (lexLt ns ms)) s from⟨(fun x=>nomatch x),h⟩⟩ hu
theorem cat_tup {t b:Addr}{vs ws:List Value}{Q:Value->Shared->Prop}(ht:IsTup s.heap t vs.toArray)(hb:IsTup s.heap b ws.toArray)(hv:vs≠[])
  (h1:ws=[]->Q (.ref t) s) (h2:ws≠[]->Q (.ref s.heap.objs.size) {s with heap:=s.heap.push {cls:=.type "tuple",data:=.seq (vs++ws).toArray}})
  (hsz:vs.length+ws.length<=sizeLine):wpAny (model prog w) A (binaryOp .Add (.ref t) (.ref b)) Q E s:=by
 obtain⟨⟨cls,dd,data,sl⟩,ho,hc,n,hd⟩:=id ht;obtain⟨⟨cls2,dd2,data2,sl2⟩,ho2,hc2,n2,hd2⟩:=id hb;simp only at hc hd hc2 hd2;subst hc hd hc2 hd2;have e:vs.toArray++ws.toArray=(vs++ws).toArray:=by simp
 by_cases hw:ws=[]
 ·exact concat_meets ⟨_,ho,rfl⟩ ⟨_,ho2,rfl⟩ noFill_tuple_add seq_tuple_add PySem.F.slot_tuple_add PySem.F.entry_tuple_add (PySem.F.args_tuple_add_2 _ _)
   (tuple_addW1 t b vs.toArray ws.toArray n n2 dd dd2 sl sl2 (by simpa using hv) (by simp[hw])) ⟨ho,ho2,h1 hw⟩
 ·refine concat_meets ⟨_,ho,rfl⟩ ⟨_,ho2,rfl⟩ noFill_tuple_add seq_tuple_add PySem.F.slot_tuple_add PySem.F.entry_tuple_add (PySem.F.args_tuple_add_2 _ _)
   (tuple_addW2 t b vs.toArray ws.toArray n n2 dd dd2 sl sl2 (by simpa using hv) (by simpa using hw) (by rw[zV,zV];exact hsz)) ⟨ho,ho2,?_⟩
  rw[e];exact h2 hw
def sIx (n d:Nat):Option Int->Nat
 | none=>d
 | some v=>if v<0 then(v+(n:Int)).toNat else min v.toNat n
theorem sIx_none (n d:Nat):sIx n d none=d:=rfl
theorem sIx_nat (n d k:Nat):sIx n d (some (k:Int))=min k n:=by
 show(if(k:Int)<0 then((k:Int)+(n:Int)).toNat else min (k:Int).toNat n)=min k n;rw[if_neg (by walk_at "o"),qN]
theorem b1x (n d:Nat)(hd:d<=n)(o:Option Int):sIx n d o<=n:=by
 cases o with
 | none=>exact hd
 | some v=>
  show(if v<0 then(v+(n:Int)).toNat else min v.toNat n)<=n
  by_cases hv:v<0
  ·rw[if_pos hv];walk_at "o"
  ·rw[if_neg hv];exact Nat.min_le_right _ _
theorem a4R (v:Int)(n d:Nat):(if v<0 then max (v+(n:Int)) 0 else min v (n:Int))=((sIx n d (some v):Nat):Int):=by
 show(if v<0 then max (v+(n:Int)) 0 else min v (n:Int))=(((if v<0 then(v+(n:Int)).toNat else min v.toNat n):Nat):Int)
 by_cases hv:v<0
 ·simp only[if_pos hv];walk_at "o"
 ·simp only[if_neg hv];walk_at "o"
theorem a3K (lo hi:Option Int)(n:Nat):Builtin.Slice.sliceAdjust lo hi 1 (n:Int)=(((sIx n 0 lo:Nat):Int),((sIx n n hi:Nat):Int)):=by
 have h1:¬((1:Int)<0):=by walk_at "o"
 unfold Builtin.Slice.sliceAdjust;simp only[h1,xH];refine Prod.ext ?_ ?_
 ·cases lo with
  | none=>rfl
  | some v=>exact a4R v n 0
 ·cases hi with
  | none=>rfl
  | some v=>exact a4R v n n
theorem a4a (i j:Nat):Builtin.Slice.slicePlaces (i:Int) (j:Int) 1=j-i:=by
 unfold Builtin.Slice.slicePlaces;have h1:(1:Int)>0:=by walk_at "o"
 simp only[h1,jF,Int.ediv_one]
 split<;>walk_at "o"
theorem a0k {v:Value}{o:Option Int}{Q:Option Int->Shared->Prop}(p:IsPart v o)(h:Q o s):wpAny (model prog w) A (Builtin.Slice.slicePartIndex v) Q E s:=by
 cases p with
 | none=>exact slicePart_none h
 | int i t=>exact slicePart_int h
theorem sliceApplied_gen {sl:Addr}{vl vu:Value}{lo hi:Option Int}{n:Nat}{Q:Int×Int×Nat->Shared->Prop}(hs:s.heap.IsSliceOf sl vl vu .none)(pl:IsPart vl lo)(pu:IsPart vu hi)
  (h:Q (((sIx n 0 lo:Nat):Int),1,sIx n n hi-sIx n 0 lo) s):wpAny (model prog w) A (Builtin.Slice.sliceApplied (.ref sl) (pure (n:Int))) Q E s:=by
 obtain⟨os,hos,hcs,hds⟩:=id hs;unfold Builtin.Slice.sliceApplied Builtin.Slice.sliceFields;refine zA (zA (jC hos hds (x:=vl) rfl (zA (jC hos hds (x:=vu) rfl (zA (jC hos hds (x:=.none) rfl (zB ?_)))))));refine zA (slicePart_none ?_);show wpAny _ _ (if((1:Int)==0)=true then _ else _) _ _ s;rw[if_neg (by decide)]
 refine zA (a0k pl (zA (a0k pu (zA (zB ?_)))));show wpAny _ _ (match Builtin.Slice.sliceAdjust lo hi 1 (n:Int) with|(lo,hi)=>pure (lo,(1:Int),Builtin.Slice.slicePlaces lo hi 1)) _ _ s
 rw[a3K lo hi n];show wpAny _ _ (pure (((sIx n 0 lo:Nat):Int),(1:Int),Builtin.Slice.slicePlaces ((sIx n 0 lo:Nat):Int) ((sIx n n hi:Nat):Int) 1)) _ _ s;rw[a4a];exact zB h
theorem a6v (xs:Array Value)(i k:Nat):((List.range k).filterMap fun(m:Nat)=>xs[((i:Int)+(m:Int)*1).toNat]?).toArray=((xs.toList.drop i).take k).toArray:=by
 have e:(fun(m:Nat)=>xs[((i:Int)+(m:Int)*1).toNat]?)=fun m=>xs[i+m]?:=by
  funext m
  have:((i:Int)+(m:Int)*1).toNat=i+m:=by walk_at "o"
  rw[this]
 rw[e]
 have:=pick_run xs i k
 rw[List.filterMap_map] at this;have e2:((fun x=>xs[x]?)∘fun x=>i+x)=fun m=>xs[i+m]?:=rfl;rw[e2] at this;rw[this]
theorem getItem_tuple_cut {t sl:Addr}{items:Array Value}{vl vu:Value}{lo hi:Option Int}{Q:Value->Shared->Prop}(ht:IsTup s.heap t items)(hs:s.heap.IsSliceOf sl vl vu .none)(pl:IsPart vl lo)(pu:IsPart vu hi)
  (hw:¬(sIx items.size 0 lo=0/\sIx items.size items.size hi=items.size))
  (h:Q (.ref s.heap.objs.size) {s with heap:=s.heap.push {cls:=.type "tuple",data:=.seq ((items.toList.drop (sIx items.size 0 lo)).take (sIx items.size items.size hi-sIx items.size 0 lo)).toArray}})
  (hsz:items.size<=sizeLine):wpAny (model prog w) A (getItem (.ref t) (.ref sl)) Q E s:=by
 have htake:sizeOk (.seq ((items.toList.drop (sIx items.size 0 lo)).take (sIx items.size items.size hi-sIx items.size 0 lo)).toArray):=by
  show((items.toList.drop (sIx items.size 0 lo)).take (sIx items.size items.size hi-sIx items.size 0 lo)).toArray.size<=sizeLine;rw[zV,length_take,List.length_drop,qZ];omega
 have hj:sIx items.size items.size hi<=items.size:=b1x _ _ (zF _) hi;obtain⟨os,hos,hcs,hds⟩:=id hs;have hTs:s.TypeIs (.ref sl) "slice":=⟨os,hos,hcs⟩;unfold getItem
 try with_reducible refine qD ?_
 first|refine zA (zB ?_)|skip
 refine zA (wpAny_sequenceKey ht.typeIs (by decide) ?_)
 refine zA (qJ (name:=Str.ofString "__getitem__") ht.typeIs qW
  (qR qW ht.typeIs entry_tuple_getitem ?_ (args_tuple_getitem _ _)))
 show wpAny _ _ (Builtin.Tuple.tupleItemsOf (.ref t) >>=_) _ _ s;refine zA (tupleItemsOf_ ht ?_);refine zA (wpAny_typeOf hTs ?_);rw[if_pos (by decide)]
 refine zA (sliceApplied_gen hs pl pu ?_);have hno:¬((((sIx items.size 0 lo:Nat):Int)==0&&(1:Int)==1&&(sIx items.size items.size hi-sIx items.size 0 lo)==items.size)=true):=by
  intro q;rw[qF,qF] at q;have q1:((sIx items.size 0 lo:Nat):Int)=0:=eq_of_beq q.1.1;have q2:sIx items.size items.size hi-sIx items.size 0 lo=items.size:=eq_of_beq q.2;exact hw ⟨by omega,by omega⟩
 show wpAny _ _ (if(((sIx items.size 0 lo:Nat):Int)==0&&(1:Int)==1&&(sIx items.size items.size hi-sIx items.size 0 lo)==items.size)=true then _ else _) _ _ s;rw[if_neg hno,a6v]
 first
  | exact zA (m:=Builtin.Tuple.tupleExact _) (qV (zB ⟨_,rfl,zB h⟩) htake)
  | exact zA (m:=Builtin.Tuple.tupleExact _) (qV (zA (zB (zB ⟨_,rfl,zB h⟩))) htake)
  | exact zA (zA (m:=Builtin.Tuple.tupleExact _) (qV (zB (zB ⟨_,rfl,zB h⟩)) htake))
  | exact zA (zA (m:=Builtin.Tuple.tupleExact _) (qV (zB ⟨_,rfl,zB h⟩) htake))
end
end HT
namespace L2
open PySem PySem.Spec PyProof.Rows
abbrev TO:=St->Hp->(Option Int->Hp->Prop)->Prop
def PO (X:Cx) (e:Option Expr) (t:TO):Prop:=
 ∀(pins:List (Addr×Obj)) (s:Shared) (σ:St) (H:Hp) (Q:Option Int->Hp->Prop),Inv X pins σ H s->t σ H Q->
  wpAny (model X.prog X.w) X.A (evalPart e X.env) (fun u s'=>∃o H',Inv X pins σ H' s'/\IsPart u o/\Q o H') X.xe s
def tNoPart:TO:=fun _ H Q=>Q none H
def tPart (t:TE):TO:=fun σ H Q=>t σ H fun x H1=>∃i,x= .int i/\Q (some i) H1
theorem F9 {ns:List Int}:∀{us:List Value},Vals (ns.map V.int) us->IntsAre us ns:=by
 induction ns with
 | nil=>intro us r;rw[xT] at r;cases r;exact .nil
 | cons n ns ih=>
  intro us r;rw[zH] at r;cases r with
  | cons r1 r2=>
   obtain⟨t,e⟩:=r1;subst e;exact .cons n t (ih r2)
section
variable {X:Cx}{e:Expr}{te:TE}{lo hi:Option Expr}{tl th:TO}{pos p2:Pos}
theorem a8H:PO X none tNoPart:=by
 intro pins s σ H Q I h;rw[evalPart_none];exact zB ⟨none,H,I,.none,h⟩
theorem a8Z (h:PE X e te):PO X (some e) (tPart te):=by
 intro pins s σ H Q I hw;rw[evalPart_some];refine thn (h pins s σ H _ I hw) fun u s1 h0=>ex5 h0 fun x H1 I1 r1 q1=>?_;obtain⟨i,rfl,q⟩:=q1;obtain⟨t,rfl⟩:=r1;exact⟨some i,H1,I1,.int i t,q⟩
def SlR (X:Cx) (r:V->Option Int->Option Int->Hp->VK->Prop):Prop:=
 ∀(pins:List (Addr×Obj)) (s:Shared) (σ:St) (H:Hp) (x:V) (v vl vu:Value) (lo hi:Option Int) (sl:Addr) (Q:VK),Inv X pins σ H s->RelV x v->s.heap.IsSliceOf sl vl vu .none->IsPart vl lo->IsPart vu hi->r x lo hi H Q->
  ∃T id,typeLookup (.type T) "__getitem__"=pure (some (.builtin id))/\s.TypeIs v T/\wpAny (model X.prog X.w) X.A (getItem v (.ref sl)) (EP X pins σ Q) X.xe s
theorem SlR.or {r r':V->Option Int->Option Int->Hp->VK->Prop}(h:SlR X r)(h':SlR X r'):SlR X (fun x lo hi H Q=>r x lo hi H Q\/r' x lo hi H Q):=by
 intro pins s σ H x v vl vu lo hi sl Q I rx hs pl pu q;rcases q with q|q
 ·exact h pins s σ H x v vl vu lo hi sl Q I rx hs pl pu q
 ·exact h' pins s σ H x v vl vu lo hi sl Q I rx hs pl pu q
def tSl (r:V->Option Int->Option Int->Hp->VK->Prop) (te:TE) (tl th:TO):TE:=fun σ H Q=>te σ H fun x H1=>tl σ H1 fun l H2=>th σ H2 fun u H3=>r x l u H3 Q
theorem a6T {r:V->Option Int->Option Int->Hp->VK->Prop}(hr:SlR X r)(he:PE X e te)(hl:PO X lo tl)(hu:PO X hi th):PE X (.Subscript e (.Slice lo hi none p2) pos) (tSl r te tl th):=by
 intro pins s σ H Q I h;refine Subscript_ (thn (he pins s σ H _ I h) fun v s1 h0=>ex5 h0 fun x H1 I1 r1 q1=>?_);refine wpAny_Slice (thn (hl pins s1 σ H1 _ I1 q1) fun vl s2 ⟨l,H2,I2,pl,q2⟩=>thn (hu pins s2 σ H2 _ I2 q2) fun vu s3 ⟨u,H3,I3,pu,q3⟩=>?_);rw[evalPart_none];refine zB ?_;have I4:Inv X pins σ H3 {s3 with heap:=s3.heap.push {cls:=.type "slice",data:=.fields #[vl,vu,.none]}}:=I3.kept (t':=s3.toks) fun b ob q=>zD _ q
 obtain⟨T,id,hT,ht,hg⟩:=hr pins {s3 with heap:=s3.heap.push {cls:=.type "slice",data:=.fields #[vl,vu,.none]}} σ H3 x v vl vu l u s3.heap.objs.size Q I4 r1 (Heap.IsSliceOf.new ..) pl pu q3
 show wpAny (model X.prog X.w) X.A (subscriptTail e (.Slice lo hi none p2) v (.ref s3.heap.objs.size)) (EP X pins σ Q) X.xe {s3 with heap:=s3.heap.push {cls:=.type "slice",data:=.fields #[vl,vu,.none]}}
 exact tail_any (ops:=[.ref s3.heap.objs.size,v]) ht hT hg (by with_unfolding_all rfl)
def cutV (xs:List V) (lo hi:Option Int):List V:=(xs.drop (HT.sIx xs.length 0 lo)).take (HT.sIx xs.length xs.length hi-HT.sIx xs.length 0 lo)
theorem Y8 (xs:List V)(lo hi:Option Int):(cutV xs lo hi).length<=xs.length:=by
 unfold cutV;rw[length_take,List.length_drop];walk_at "o"
def rSlT (K:PySem.W.Frag):V->Option Int->Option Int->Hp->VK->Prop:=fun x lo hi H Q=>∃a xs,x= .ref a/\SqT K H a xs/\
 ¬(HT.sIx xs.length 0 lo=0/\HT.sIx xs.length xs.length hi=xs.length)/\∀p,H p=none->Q (.ref p) (upd H p (.tup (cutV xs lo hi)))
theorem b1t:SlR X (rSlT X.K):=by
 intro pins s σ H x v vl vu lo hi sl Q I rx hs pl pu h;obtain⟨a,xs,rfl,hx,hw,q⟩:=h;cases rx;obtain⟨its,r,ht,hz⟩:=I.tuple hx;have hlen:its.toArray.size=xs.length:=by rw[zV];exact r.length.symm
 refine⟨"tuple",_,PyProof.Rows.slot_tuple_getitem.lookup,ht.typeIs,?_⟩;refine HT.getItem_tuple_cut ht hs pl pu (by rw[hlen];exact hw) ?_ (by rw[hlen];exact hz)
 rw[hlen];refine⟨.ref s.heap.objs.size,_,I.laid (t':=s.toks) (o:=.tup (cutV xs lo hi)) (fun b ob q=>zD _ q) (zF _) ?_,rfl,q _ (I.hok.fresh (zF _))⟩;exact⟨zP (Y8 xs lo hi) hz,_,(r.drop (HT.sIx xs.length 0 lo)).take (HT.sIx xs.length xs.length hi-HT.sIx xs.length 0 lo),TupN.new _ _⟩
def rLtT (K:PySem.W.Frag):R2:=fun x y H Q=>∃a b ns ms,x= .ref a/\y= .ref b/\SqT K H a (ns.map V.int)/\SqT K H b (ms.map V.int)/\Q (.bl (HT.lexLt ns ms)) H
theorem b1l (hu:X.A.units<cLine):OpR X (compareOp .Lt) (rLtT X.K):=by
 intro pins s σ H x y v u Q I rx ry h;obtain⟨a,b,ns,ms,rfl,rfl,ha,hb,q⟩:=h;cases rx;cases ry;obtain⟨its,r1,p1,_⟩:=I.tuple ha;obtain⟨its2,r2,p2,_⟩:=I.tuple hb;have i1:IntsAre its.toArray.toList ns:=F9 r1;have i2:IntsAre its2.toArray.toList ms:=F9 r2;exact HT.lt_tupInts p1 p2 i1 i2 hu ⟨.bl (HT.lexLt ns ms),H,I,rfl,q⟩
def rCatT (K:PySem.W.Frag):R2:=fun x y H Q=>∃a b xs ys,x= .ref a/\y= .ref b/\SqT K H a xs/\SqT K H b ys/\xs≠[]/\xs.length+ys.length<=sizeLine/\
 (ys=[]->Q (.ref a) H)/\(ys≠[]->∀p,H p=none->Q (.ref p) (upd H p (.tup (xs++ys))))
theorem Vals.nil_iff {xs:List V}{us:List Value}(r:Vals xs us):us=[]↔xs=[]:=by
 cases r with
 | nil=>simp
 | cons _ _=>simp
theorem a4o:OpR X (binaryOp .Add) (rCatT X.K):=by
 intro pins s σ H x y v u Q I rx ry h;obtain⟨a,b,xs,ys,rfl,rfl,ha,hb,hx,hz,q1,q2⟩:=h;cases rx;cases ry;obtain⟨its,r1,p1,_⟩:=I.tuple ha;obtain⟨its2,r2,p2,_⟩:=I.tuple hb;refine HT.cat_tup p1 p2 (fun z=>hx (r1.nil_iff.mp z)) (fun z=>⟨.ref a,H,I,rfl,q1 (r2.nil_iff.mp z)⟩) (fun z=>?_) (by rw[<-r1.length,<-r2.length];exact hz)
 refine⟨.ref s.heap.objs.size,_,I.laid (t':=s.toks) (o:=.tup (xs++ys)) (fun b ob q=>zD _ q) (zF _) ?_,rfl,q2 (fun w=>z (r2.nil_iff.mpr w)) _ (I.hok.fresh (zF _))⟩;exact⟨by rw[qB];exact hz,_,r1.append r2,TupN.new _ _⟩
end
def ixN (n:Nat) (i:Int):Option Nat:=if 0<=i then(if i<n then some i.toNat else none) else if -(n:Int)<=i then some (i+n).toNat else none
def atI {α:Type} (xs:List α) (i:Int):Option α:=(ixN xs.length i).bind fun j=>xs[j]?
theorem a49 {n:Nat}{i:Int}{j:Nat}(h:ixN n i=some j):seqIndex? i n=some j/\j<n/\-(n:Int)<=i/\i<n:=by
 unfold ixN at h
 by_cases h0:0<=i
 ·rw[if_pos h0] at h
  by_cases h1:i<n
  ·rw[if_pos h1] at h;have e:i.toNat=j:=qU h;exact⟨by rw[seqIndex_of h0 h1,e],by walk_at "o",by walk_at "o",h1⟩
  ·rw[if_neg h1] at h;cases h
 ·rw[if_neg h0] at h
  by_cases h1:-(n:Int)<=i
  ·rw[if_pos h1] at h;have e:(i+n).toNat=j:=qU h;exact⟨by rw[seqIndex_neg (by walk_at "o") h1,e],by walk_at "o",h1,by walk_at "o"⟩
  ·rw[if_neg h1] at h;cases h
theorem a13 {α:Type}{xs:List α}{i:Int}{v:α}(h:atI xs i=some v):∃j,seqIndex? i xs.length=some j/\xs[j]? =some v/\j<xs.length/\-(xs.length:Int)<=i/\i<xs.length:=by
 unfold atI at h;cases e:ixN xs.length i with
 | none=>rw[e] at h;cases h
 | some j=>
  rw[e] at h;obtain⟨h1,h2,h3,h4⟩:=a49 e;exact⟨j,h1,h,h2,h3,h4⟩
theorem p6 {α:Type}{xs:List α}{j:Nat}{v:α}(h:xs[j]? =some v):atI xs (j:Int)=some v:=by
 have hj:j<xs.length:=(zQ.mp h).1;have e:ixN xs.length (j:Int)=some j:=by
  unfold ixN;rw[if_pos (by walk_at "o"),if_pos (by walk_at "o")];simp
 unfold atI;rw[e];exact h
def PlainIx (b:Expr):Prop:=∀o i,subscripted b false o i=operate [o,i] (getItem o i)
def IxR (X:Cx) (r:R2):Prop:=
 ∀(value slice:Expr) (pins:List (Addr×Obj)) (s:Shared) (σ:St) (H:Hp) (x y:V) (v u:Value) (Q:VK),Inv X pins σ H s->RelV x v->RelV y u->r x y H Q->
  subscripted slice false v u=operate [v,u] (getItem v u)->wpAny (model X.prog X.w) X.A (subscriptTail value slice v u) (EP X pins σ Q) X.xe s
def MtR (X:Cx) (id:String) (r:V->List V->Hp->VK->Prop):Prop:=
 ∀(pins:List (Addr×Obj)) (s:Shared) (σ:St) (H:Hp) (x:V) (xs:List V) (v:Value) (us:List Value) (Q:VK),Inv X pins σ H s->RelV x v->Vals xs us->r x xs H Q->
  wpAny (model X.prog X.w) X.A (call (.builtin id) (v::us)) (EP X pins σ Q) X.xe s
section
variable {X:Cx}{a b:Expr}{ta tb:TE}{pos:Pos}
theorem IxR.or {r r':R2}(h:IxR X r)(h':IxR X r'):IxR X (fun x y H Q=>r x y H Q\/r' x y H Q):=by
 intro value slice pins s σ H x y v u Q I rx ry q hs;rcases q with q|q
 ·exact h value slice pins s σ H x y v u Q I rx ry q hs
 ·exact h' value slice pins s σ H x y v u Q I rx ry q hs
theorem pe_ix {r:R2}(hr:IxR X r)(ha:PE X a ta)(hb:PE X b tb)(hs:PlainIx b):PE X (.Subscript a b pos) (tOp r ta tb):=by
 intro pins s σ H Q I h;exact Subscript_ (binT ha hb I h fun v u s2 x y H2 I2 rx ry q=>hr a b pins s2 σ H2 x y v u Q I2 rx ry q (hs _ _))
def rIxL (K:PySem.W.Frag):R2:=fun x y H Q=>∃p xs i v,x= .ref p/\y= .int i/\SqL K H p xs/\atI xs i=some v/\Q v H
def rIxT (K:PySem.W.Frag):R2:=fun x y H Q=>∃p xs i v,x= .ref p/\y= .int i/\SqT K H p xs/\atI xs i=some v/\Q v H
def rIxS:R2:=fun x y H Q=>∃z i c,x= .str z/\y= .int i/\z.length<=sizeLine/\atI z.cps.toList i=some c/\Q (.str ⟨#[c]⟩) H
theorem a9k:IxR X (rIxL X.K):=by
 intro value slice pins s σ H x y v u Q I rx ry h hs;obtain⟨p,xs,i,z,rfl,rfl,hq,he,q⟩:=h;cases rx;obtain⟨t,rfl⟩:=ry;obtain⟨its,r,pl,hz⟩:=I.list hq;obtain⟨j,h1,h2,h3,h4,h5⟩:=a13 he;obtain⟨w,ew,rw'⟩:=r.get h2;have hl:=r.length;have hn:=line63;have fin:EP X pins σ Q w s:=⟨z,H,I,rw',q⟩
 by_cases h0:0<=i
 ·have hj:i.toNat=j:=by
   rw[seqIndex_of h0 h5] at h1;exact qU h1
  exact item_listR pl.isList h0 (by walk_at "o") (by rw[hj];simpa using ew) fin hs
 ·have hj:(i+(its.toArray.size:Int)).toNat=j:=by
   rw[seqIndex_neg (by walk_at "o") h4] at h1
   rw[zV,<-hl];exact qU h1
  exact yC (x:=w) pl.isList.typeIs slot_list_getitem.lookup
   (wpAny_getItem_list_neg (Q:=fun r s'=>r=w/\EP X pins σ Q r s') pl.isList (by walk_at "o") (by rw[zV]<;>walk_at "o") (by walk_at "o") (by rw[hj];simpa using ew) ⟨rfl,fin⟩) hs
theorem b1i:IxR X (rIxT X.K):=by
 intro value slice pins s σ H x y v u Q I rx ry h hs;obtain⟨p,xs,i,z,rfl,rfl,hq,he,q⟩:=h;cases rx;obtain⟨t,rfl⟩:=ry;obtain⟨its,r,pl,hz⟩:=I.tuple hq;obtain⟨j,h1,h2,h3,h4,h5⟩:=a13 he;obtain⟨w,ew,rw'⟩:=r.get h2;have hl:=r.length;have hn:=line63;have fin:EP X pins σ Q w s:=⟨z,H,I,rw',q⟩;exact yC (x:=w) pl.typeIs slot_tuple_getitem.lookup
  (getItem_tuple (j:=j) (Q:=fun r s'=>r=w/\EP X pins σ Q r s') pl (by walk_at "o") (by walk_at "o") (by rw[zV,<-hl];exact h1) (by simpa using ew) ⟨rfl,fin⟩) hs
theorem b1b:IxR X rIxS:=by
 intro value slice pins s σ H x y v u Q I rx ry h hs;obtain⟨z,i,c,rfl,rfl,hz,he,q⟩:=h;obtain⟨t,rfl⟩:=rx;obtain⟨t',rfl⟩:=ry;obtain⟨j,h1,h2,h3,h4,h5⟩:=a13 he;have hl:z.cps.toList.length=z.length:=by simp[Str.length]
 rw[hl] at h1 h4 h5;have hn:=line63
 exact tail_any (typeIs_str s z t) slot_str_getitem.lookup (getItem_str (c:=c) (by
  have e1:decide (i < -(2^63:Int))=false:=zO (by walk_at "o")
  have e2:decide (i≥2^63)=false:=zO (by walk_at "o")
  rw[e1,e2,Bool.or_false]) (by rw[h1];simpa using h2) ⟨.str ⟨#[c]⟩,H,I.tok _,⟨_,rfl⟩,q⟩) hs
def rIx (K:PySem.W.Frag):R2:=fun x y H Q=>rIxL K x y H Q\/rIxT K x y H Q\/rIxS x y H Q
theorem b1y:IxR X (rIx X.K):=a9k.or (b1i.or b1b)
theorem a39 (its:List Value)(n j:Nat)(u:Value):Obj.mapSeq (·.setIfInBounds j u) {cls:=.type "list",data:=.seq its.toArray n}={cls:=.type "list",data:=.seq (its.set j u).toArray n}:=by
 simp[Obj.mapSeq]
theorem Inv.lst {pins:List (Addr×Obj)}{σ:St}{H:Hp}{s:Shared}{p:Addr}{xs:List V}(I:Inv X pins σ H s)(h:H p=some (.lst xs)):
  ∃(its:List Value) (n:Nat),Vals xs its/\s.heap.get? p=some {cls:=.type "list",data:=.seq its.toArray n}/\xs.length<=sizeLine:=by
 obtain⟨z,its,n,r,e⟩:=I.hok p _ h;exact⟨its,n,r,e,z⟩
theorem Inv.lstUpd {pins:List (Addr×Obj)}{σ:St}{H:Hp}{s:Shared}{p:Addr}{xs ys:List V}{its its':List Value}{n n':Nat}{f:Obj->Obj}(I:Inv X pins σ H s)(h:H p=some (.lst xs))
  (ho:s.heap.get? p=some {cls:=.type "list",data:=.seq its.toArray n}) (hf:f {cls:=.type "list",data:=.seq its.toArray n}={cls:=.type "list",data:=.seq its'.toArray n'}) (r:Vals ys its') (hz:ys.length<=sizeLine) (t:Nat):
  Inv X pins σ (upd H p (.lst ys)) {s with heap:=s.heap.update p f,toks:=t}:=by
 have e:(s.heap.update p f).get? p=some {cls:=.type "list",data:=.seq its'.toArray n'}:=by
  rw[xA f ho (by rw[hf]<;>rfl),hf]
 refine I.write (x:=p) (e:=p) (by rw[h];trivial) (.inl rfl) (fun b u hb q=>(Heap.get?_update_other _ _ (qX hb)).trans q) ⟨_,e⟩ ?_
 exact⟨hz,its',n',r,e⟩
def rSetL:V->V->V->Hp->(Hp->Prop)->Prop:=fun o i v H Q=>∃p xs k j,o= .ref p/\i= .int k/\H p=some (.lst xs)/\ixN xs.length k=some j/\Q (upd H p (.lst (xs.set j v)))
theorem a7Y:PSet X rSetL:=by
 intro pins s σ H o i v ov iv u Q I ro ri rv h;obtain⟨p,xs,k,j,rfl,rfl,hp,hj,q⟩:=h;cases ro;obtain⟨t,rfl⟩:=ri;obtain⟨its,n,r,ho,hz⟩:=I.lst hp;obtain⟨h1,h2,h3,h4⟩:=a49 hj;have hl:=r.length;have hn:=line63;have I':Inv X pins σ (upd H p (.lst (xs.set j v))) {s with heap:=s.heap.update p (Obj.mapSeq (·.setIfInBounds j u))}:=
  I.lstUpd hp ho (a39 its n j u) (r.set rv j) (by rw[qK];exact hz) s.toks
 by_cases h0:0<=k
 ·have hk:k.toNat=j:=by
   rw[seqIndex_of h0 h4] at h1;exact qU h1
  exact PySem.W.ki_setAt ho h0 (by walk_at "o") (by rw[zV,<-hl];exact h4) (by rw[hk];exact⟨_,I',q⟩)
 ·have hk:(k+(its.toArray.size:Int)).toNat=j:=by
   rw[seqIndex_neg (by walk_at "o") h3] at h1
   rw[zV,<-hl];exact qU h1
  exact PySem.W.ki_setBack ho (by walk_at "o") (by rw[zV,<-hl];exact h3) (by walk_at "o") (by rw[hk];exact⟨_,I',q⟩)
theorem a2D (lo hi:Option Int)(n:Nat):(sliceBounds lo hi none n).1=((HT.sIx n 0 lo:Nat):Int)/\(sliceBounds lo hi none n).2.1=((HT.sIx n n hi:Nat):Int)/\(sliceBounds lo hi none n).2.2=1:=by
 refine⟨?_,?_,rfl⟩
 ·cases lo with
  | none=>simp[sliceBounds,HT.sIx]
  | some i=>
   simp only[sliceBounds,HT.sIx,getD_none,show(1:Int)>0 by decide,jF]
   by_cases h:i<0
   ·simp only[h,jF]<;>walk_at "o"
   ·simp only[h,xH]<;>walk_at "o"
 ·cases hi with
  | none=>simp[sliceBounds,HT.sIx]
  | some i=>
   simp only[sliceBounds,HT.sIx,getD_none,show(1:Int)>0 by decide,jF]
   by_cases h:i<0
   ·simp only[h,jF]<;>walk_at "o"
   ·simp only[h,xH]<;>walk_at "o"
theorem a06 (its:List Value)(lo hi:Option Int):slicePick its.toArray lo hi none=((its.drop (HT.sIx its.length 0 lo)).take (HT.sIx its.length its.length hi-HT.sIx its.length 0 lo)).toArray:=by
 obtain⟨h1,h2,h3⟩:=a2D lo hi its.toArray.size;unfold slicePick;rw[h1,h2,h3];simp only[sliceRange_one,pick_run,zV]<;>rfl
def rSlL (K:PySem.W.Frag):V->Option Int->Option Int->Hp->VK->Prop:=fun x lo hi H Q=>∃a xs,x= .ref a/\SqL K H a xs/\∀p,H p=none->Q (.ref p) (upd H p (.lst (cutV xs lo hi)))
theorem a8T:SlR X (rSlL X.K):=by
 intro pins s σ H x v vl vu lo hi sl Q I rx hs pl pu h;obtain⟨a,xs,rfl,hx,q⟩:=h;cases rx;obtain⟨its,r,ht,hz⟩:=I.list hx;have hlen:=r.length;refine⟨"list",_,slot_list_getitem.lookup,ht.isList.typeIs,?_⟩;refine wpAny_getItem_list_slice ht.isList hs pl pu .none (by simp) ?_ (by rw[zV]<;>walk_at "o")
 rw[a06,<-hlen];refine⟨.ref s.heap.objs.size,_,I.laid (t':=s.toks) (o:=.lst (cutV xs lo hi)) (fun b ob q=>zD _ q) (zF _) ?_,rfl,q _ (I.hok.fresh (zF _))⟩;exact⟨zP (Y8 xs lo hi) hz,_,0,(r.drop (HT.sIx xs.length 0 lo)).take (HT.sIx xs.length xs.length hi-HT.sIx xs.length 0 lo),zW _ rfl⟩
def flatV:V->Bool
 | .non=>true
 | .bl _=>true
 | .int _=>true
 | .str _=>true
 | _=>false
def eqV:V->V->Bool
 | .non,.non=>true
 | .bl a,.bl b=>a==b
 | .bl a,.int b=>(if a then 1 else 0)==b
 | .int a,.bl b=>a==(if b then 1 else 0)
 | .int a,.int b=>a==b
 | .str a,.str b=>a==b
 | _,_=>false
theorem b1J {A:Around}{s:Shared}{y x:V}{u v:Value}(ry:RelV y u)(rx:RelV x v)(fy:flatV y=true)(fx:flatV x=true):SeqAt.EqAt A s u v (eqV y x):=by
 cases y with
 | non=>
  cases ry;cases x with
  | non=>cases rx;exact SeqAt.EqAt.same _
  | bl b=>cases rx;exact SeqAt.EqAt.none_bool b
  | int b=>obtain⟨t,rfl⟩:=rx;exact SeqAt.EqAt.none_int b t
  | str b=>obtain⟨t,rfl⟩:=rx;exact SeqAt.EqAt.none_str b t
  | _=>exact absurd (show false=true from fx) zT
 | bl a=>
  cases ry;cases x with
  | non=>cases rx;exact SeqAt.EqAt.bool_none a
  | bl b=>cases rx;exact SeqAt.EqAt.bool_bool a b
  | int b=>obtain⟨t,rfl⟩:=rx;exact SeqAt.EqAt.bool_int a b t
  | str b=>obtain⟨t,rfl⟩:=rx;exact SeqAt.EqAt.bool_str a b t
  | _=>exact absurd (show false=true from fx) zT
 | int a=>
  obtain⟨t',rfl⟩:=ry;cases x with
  | non=>cases rx;exact SeqAt.EqAt.int_none a t'
  | bl b=>cases rx;exact SeqAt.EqAt.int_bool a t' b
  | int b=>obtain⟨t,rfl⟩:=rx;exact SeqAt.EqAt.int_int a t' b t
  | str b=>obtain⟨t,rfl⟩:=rx;exact SeqAt.EqAt.int_str a t' b t
  | _=>exact absurd (show false=true from fx) zT
 | str a=>
  obtain⟨t',rfl⟩:=ry;cases x with
  | non=>cases rx;exact SeqAt.EqAt.str_none a t'
  | bl b=>cases rx;exact SeqAt.EqAt.str_bool a t' b
  | int b=>obtain⟨t,rfl⟩:=rx;exact SeqAt.EqAt.str_int a t' b t
  | str b=>obtain⟨t,rfl⟩:=rx;exact SeqAt.EqAt.str_str a t' b t
  | _=>exact absurd (show false=true from fx) zT
 | _=>exact absurd (show false=true from fy) zT
def eqU (x:V) (u:Value):Bool:=match u with
 | .none=>eqV .non x
 | .bool b=>eqV (.bl b) x
 | .int i _=>eqV (.int i) x
 | .str z _=>eqV (.str z) x
 | _=>false
theorem a8v {x y:V}{u:Value}(r:RelV y u)(f:flatV y=true):eqU x u=eqV y x:=by
 cases y with
 | non=>cases r;rfl
 | bl b=>cases r;rfl
 | int i=>obtain⟨t,rfl⟩:=r;rfl
 | str z=>obtain⟨t,rfl⟩:=r;rfl
 | _=>exact absurd (show false=true from f) zT
theorem V2 {x:V}:∀{xs:List V} {us:List Value},Vals xs us->xs.all flatV=true->us.any (eqU x)=xs.any fun y=>eqV y x
 | _,_,.nil,_=>rfl
 | y::xs,u::us,.cons r t,f=>by
  rw[all_cons,qF] at f;rw[any_cons,any_cons,a8v r f.1,V2 t f.2]
theorem L3 {A:Around}{s:Shared}{x:V}{v:Value}(rx:RelV x v)(fx:flatV x=true):∀{xs:List V} {us:List Value},Vals xs us->xs.all flatV=true->∀u∈us,SeqAt.EqAt A s u v (eqU x u)
 | _,_,.nil,_=>fun u hu=>by cases hu
 | y::xs,u::us,.cons r t,f=>fun u' hu=>by
  rw[all_cons,qF] at f;rcases zK.mp hu with rfl|hu
  ·rw[a8v r f.1];exact b1J r rx f.1 fx
  ·exact L3 rx fx t f.2 u' hu
def inV (x:V) (xs:List V):Bool:=xs.any fun y=>eqV y x
def rIn (K:PySem.W.Frag) (neg:Bool):R2:=fun x y H Q=>∃p xs,y= .ref p/\(SqL K H p xs\/SqT K H p xs)/\flatV x=true/\xs.all flatV=true/\Q (.bl (if neg then !inV x xs else inV x xs)) H
theorem W9:OpR X (compareOp .In) (rIn X.K false):=by
 intro pins s σ H x y v u Q I rx ry h;obtain⟨p,xs,rfl,hq,fx,fs,q⟩:=h;cases ry;rcases hq with hq|hq
 ·obtain⟨its,r,pl,hz⟩:=I.list hq;refine SeqAt.in_listAt (eqU x) pl.isList (fun w hw=>L3 rx fx r fs w (by simpa using hw)) ⟨.bl _,H,I,rfl,?_⟩
  rw[show its.toArray.any (eqU x)=its.any (eqU x) by simp,V2 r fs]
  exact q
 ·obtain⟨its,r,pl,hz⟩:=I.tuple hq;refine SeqAt.in_tupleAt (eqU x) pl (fun w hw=>L3 rx fx r fs w (by simpa using hw)) ⟨.bl _,H,I,rfl,?_⟩
  rw[show its.toArray.any (eqU x)=its.any (eqU x) by simp,V2 r fs]
  exact q
theorem S5:OpR X (compareOp .NotIn) (rIn X.K true):=by
 intro pins s σ H x y v u Q I rx ry h;obtain⟨p,xs,rfl,hq,fx,fs,q⟩:=h;cases ry;rcases hq with hq|hq
 ·obtain⟨its,r,pl,hz⟩:=I.list hq;refine SeqAt.notIn_listAt (eqU x) pl.isList (fun w hw=>L3 rx fx r fs w (by simpa using hw)) ⟨.bl _,H,I,rfl,?_⟩
  rw[show its.toArray.any (eqU x)=its.any (eqU x) by simp,V2 r fs]
  exact q
 ·obtain⟨its,r,pl,hz⟩:=I.tuple hq;refine SeqAt.notIn_tupleAt (eqU x) pl (fun w hw=>L3 rx fx r fs w (by simpa using hw)) ⟨.bl _,H,I,rfl,?_⟩
  rw[show its.toArray.any (eqU x)=its.any (eqU x) by simp,V2 r fs]
  exact q
theorem a18:CallR X (.builtin "len") (fun xs H Q=>∃p ys,xs=[.ref p]/\(SqL X.K H p ys\/SqT X.K H p ys)/\Q (.int ys.length) H):=by
 intro pins s σ H xs us Q I r h;obtain⟨p,ys,rfl,hq,q⟩:=h;obtain⟨u,rfl,rx⟩:=vals1 r;cases rx;have hn:=line63;rcases hq with hq|hq
 ·obtain⟨its,r',pl,hz⟩:=I.list hq;have hlen:=r'.length;exact Calls.call_len_list pl.isList (by simp only[zV]<;>walk_at "o") ⟨.int ys.length,H,I.tok _,⟨s.toks+1,by rw[zV,hlen]⟩,q⟩
 ·obtain⟨its,r',pl,hz⟩:=I.tuple hq;have hlen:=r'.length;exact len_tuple pl (by simp only[zV]<;>walk_at "o") ⟨.int ys.length,H,I.tok _,⟨s.toks+1,by rw[zV,hlen]⟩,q⟩
theorem CallR.or {f:Value}{r r':List V->Hp->VK->Prop}(h:CallR X f r)(h':CallR X f r'):CallR X f (fun xs H Q=>r xs H Q\/r' xs H Q):=by
 intro pins s σ H xs us Q I rs q;rcases q with q|q
 ·exact h pins s σ H xs us Q I rs q
 ·exact h' pins s σ H xs us Q I rs q
theorem A5:CallR X (.type "tuple") (fun xs H Q=>∃p ys,xs=[.ref p]/\((SqL X.K H p ys/\∀l,H l=none->Q (.ref l) (upd H l (.tup ys)))\/(SqT X.K H p ys/\Q (.ref p) H))):=by
 intro pins s σ H xs us Q I r h;obtain⟨p,ys,rfl,h⟩:=h;obtain⟨u,rfl,rx⟩:=vals1 r;cases rx;rcases h with ⟨hq,q⟩|⟨hq,q⟩
 ·obtain⟨its,r',pl,hz⟩:=I.list hq;have hlen:=r'.length;refine call_tuple_list pl.isList (fun h' kp=>?_) (by simp only[zV]<;>walk_at "o")
  have I1:Inv X pins σ H {s with heap:=h'}:=I.kept (t':=s.toks) kp
  have I2:Inv X pins σ (upd H h'.objs.size (.tup ys)) {s with heap:=h'.push {cls:=.type "tuple",data:=.seq its.toArray}}:=
   I1.laid (t':=s.toks) (fun b o e=>zD _ e) (zF _) (show ObjOk X.prog X.w _ _ _ (.tup ys) from⟨hz,its,r',TupN.new _ _⟩)
  exact⟨.ref h'.objs.size,_,I2,rfl,q _ (I1.hok.fresh (zF _))⟩
 ·obtain⟨its,r',pl,hz⟩:=I.tuple hq;exact call_tuple_same pl ⟨.ref p,H,I,rfl,q⟩
def tyV (K:PySem.W.Frag) (T:String) (x:V) (H:Hp):Prop:=match x with
 | .str _=>T="str"
 | .int _=>T="int"
 | .ref p=>(T="list"/\∃xs,SqL K H p xs)\/(T="tuple"/\∃o,K.lookup p=some o/\o.cls= .type "tuple"/\o.dict=none)\/
   (T="dict"/\((∃kvs,H p=some (.dK kvs))\/∃kvs,H p=some (.dT kvs)))\/(T="set"/\∃S n,H p=some (.set S n))
 | _=>False
theorem a7M {pins:List (Addr×Obj)}{σ:St}{H:Hp}{s:Shared}{T:String}{x:V}{v:Value}(I:Inv X pins σ H s)(r:RelV x v)(ty:tyV X.K T x H):
  s.TypeIs v T/\∀a,v= .ref a->∃ob,s.heap.get? a=some ob/\ob.dict=none:=by
 cases x with
 | str z=>
  obtain⟨t,rfl⟩:=r;cases(show T="str" from ty);exact⟨typeIs_str s z t,fun _ e=>nomatch e⟩
 | int i=>
  obtain⟨t,rfl⟩:=r;cases(show T="int" from ty);exact⟨typeIs_int s i t,fun _ e=>nomatch e⟩
 | ref p=>
  cases r;rcases ty with ⟨rfl,xs,hq⟩|⟨rfl,o,hk,hc,hd⟩|⟨rfl,hk⟩|⟨rfl,S,n,hk⟩
  ·obtain⟨its,_,pl,_⟩:=I.list hq;refine⟨pl.isList.typeIs,fun a e=>?_⟩;cases e;obtain⟨o,n,e,c,hd,_⟩:=pl;exact⟨o,e,hd⟩
  ·refine⟨⟨o,I.kIn p o hk,hc⟩,fun a e=>?_⟩;cases e;exact⟨o,I.kIn _ o hk,hd⟩
  ·have z:∃o,s.heap.get? p=some o/\o.ExactDict:=by
    rcases hk with ⟨kvs,hk⟩|⟨kvs,hk⟩
    ·obtain⟨_,_,_,_,o,_,e,ex,_⟩:=I.hok p _ hk;exact⟨o,e,ex⟩
    ·obtain⟨_,_,_,_,o,_,e,ex,_⟩:=I.hok p _ hk;exact⟨o,e,ex⟩
   obtain⟨o,e,ex⟩:=z;refine⟨⟨o,e,ex.1⟩,fun a e2=>?_⟩;cases e2;exact⟨o,e,ex.2.1⟩
  ·obtain⟨o,_,_,_,e,ex,_⟩:=I.hok p _ hk;refine⟨⟨o,e,ex.1⟩,fun a e2=>?_⟩;cases e2;exact⟨o,e,ex.2.1⟩
 | _=>exact False.elim ty
def tBM0 (K:PySem.W.Frag) (T:String) (r:V->List V->Hp->VK->Prop) (to:TE):TE:=fun σ H Q=>to σ H fun x H1=>tyV K T x H1/\r x [] H1 Q
def tBM (K:PySem.W.Frag) (T:String) (r:V->List V->Hp->VK->Prop) (to:TE) (t:TA):TE:=fun σ H Q=>to σ H fun x H1=>tyV K T x H1/\t σ H1 fun xs H2=>r x xs H2 Q
variable {o e:Expr}{es:List Expr}{to:TE}{t:TA}{name:Str}{apos cpos:Pos}{T id:String}{r:V->List V->Hp->VK->Prop}
theorem b05 (pa:PlainAttrs T)(slot:Slot T name id)(hty:typeOf (.builtin id)=pure (.type "method_descriptor"))(hm:MtR X id r)(ho:PE X o to)
  (hbase:attributeBase o name X.env (eval o X.env)=eval o X.env:=by rfl) (hline:(apos.endLine==cpos.line)=true:=by rfl):PE X (.Call (.Attribute o name apos) [] [] cpos) (tBM0 X.K T r to):=by
 intro pins s σ H Q I h;refine wpAny_Call_method0_late hbase hline (thn (ho pins s σ H _ I h) fun v s1 ⟨x,H1,I1,r1,ty,q1⟩=>?_);obtain⟨h1,h2⟩:=a7M I1 r1 ty;exact⟨T,id,pa,slot,hty,h1,h2,Calls.callWith_builtin rfl (PySem.evalArgs_none (hm pins s1 σ H1 x [] v [] Q I1 r1 .nil q1))⟩
theorem a6D (pa:PlainAttrs T)(slot:Slot T name id)(hty:typeOf (.builtin id)=pure (.type "method_descriptor"))(hm:MtR X id r)(ho:PE X o to)(ha:PA X (e::es) t)
  (hbase:attributeBase o name X.env (eval o X.env)=eval o X.env:=by rfl)
  (hfew:((backTo cpos (starEach (e::es) X.env)).all (fun x=>!x.1)&&(backToKw cpos (keywordEach [] X.env)).all (fun x=>x.1.isSome)
   && decide ((e::es).length+([]:List Keyword).length+(if([]:List Keyword).isEmpty then 0 else 1)<30))=true:=by rfl)
  (hline:(apos.endLine==cpos.line)=true:=by rfl) (hs:starEach (e::es) X.env=(false,eval e X.env)::starEach es X.env:=by rfl) (hplain:(backTo cpos (starEach es X.env)).any (·.1)=false:=by rfl):
  PE X (.Call (.Attribute o name apos) (e::es) [] cpos) (tBM X.K T r to t):=by
 intro pins s σ H Q I h;refine wpAny_Call_method_late hbase hfew hline rfl (thn (ho pins s σ H _ I h) fun v s1 ⟨x,H1,I1,r1,ty,q1⟩=>?_);obtain⟨h1,h2⟩:=a7M I1 r1 ty;refine⟨T,id,pa,slot,hty,h1,h2,?_⟩;have hA:=ha cpos pins s1 σ H1 _ I1 q1;rw[hs] at hA ⊢;refine Calls.callWith_builtin (by show(false||(backTo cpos (starEach es X.env)).any (·.1))=false;rw[hplain]<;>rfl) (Calls.evalArgs_plain ?_)
 exact thn hA fun us s2 h0=>ex5 h0 fun vs H2 I2 r2 q2=>hm pins s2 σ H2 x vs v us Q I2 r1 r2 q2
end
def MtM (X:Cx) (id:String) (r:V->List V->Hp->VK->Prop):Prop:=
 ∀(pins:List (Addr×Obj)) (s:Shared) (σ:St) (H:Hp) (x:V) (xs:List V) (v:Value) (us:List Value) (Q:VK),Inv X pins σ H s->RelV x v->Vals xs us->r x xs H Q->
  wpAny (model X.prog X.w) X.A (call (.builtin id) (v::us)) (EP X pins σ Q) X.xe s
theorem Vals.one:∀{x:V} {us:List Value},Vals [x] us->∃u,us=[u]/\RelV x u
 | _,_,.cons r .nil=>⟨_,rfl,r⟩
section
variable {X:Cx}{pins:List (Addr×Obj)}{σ:St}{H:Hp}{s:Shared}{l:Addr}{xs ys:List V}
theorem Inv.lset {its its':List Value}{n:Nat}{f:Array Value->Array Value}{t':Nat}(I:Inv X pins σ H s)(hH:H l=some (.lst xs))
  (e:s.heap.get? l=some {cls:=.type "list",data:=.seq its.toArray n}) (hf:f its.toArray=its'.toArray) (hv:Vals ys its') (hz:ys.length<=sizeLine):
  Inv X pins σ (upd H l (.lst ys)) {s with heap:=s.heap.update l (Obj.mapSeq f),toks:=t'}:=by
 have q:=PySem.IsL.update e f;rw[hf] at q;refine I.write (x:=l) (e:=l) (by rw[hH];exact trivial) (.inl rfl) (fun b' u hb hu=>(Heap.get?_update_other s.heap (Obj.mapSeq f) (qX hb)).trans hu) ⟨_,q⟩ ?_
 exact⟨hz,its',_,hv,q⟩
theorem Inv.lnew {its:List Value}{t':Nat}(I:Inv X pins σ H s)(hv:Vals ys its)(hz:ys.length<=sizeLine):
  Inv X pins σ (upd H s.heap.objs.size (.lst ys)) {s with heap:=s.heap.push {cls:=.type "list",data:=.seq its.toArray},toks:=t'}:=
 I.laid (fun _ _ q=>zD _ q) (zF _) ⟨hz,its,0,hv,zW _ rfl⟩
theorem Inv.fresh (I:Inv X pins σ H s):H s.heap.objs.size=none:=I.hok.fresh (zF _)
theorem Inv.lstM (I:Inv X pins σ H s)(hH:H l=some (.lst xs)):xs.length<=sizeLine/\∃(its:List Value) (n:Nat),Vals xs its/\xs.length=its.length/\s.heap.get? l=some {cls:=.type "list",data:=.seq its.toArray n}:=by
 obtain⟨z,its,n,r,e⟩:=I.hok l _ hH;exact⟨z,its,n,r,r.length,e⟩
theorem notLongL {n:Nat}(h:n<=sizeLine):Builtin.List.listTooLong n=false:=by
 unfold Builtin.List.listTooLong;exact zO (by walk_at "o")
end
section
variable {X:Cx}
def rAppend:V->List V->Hp->VK->Prop:=fun x vs H Q=>∃l xs y,x= .ref l/\vs=[y]/\H l=some (.lst xs)/\xs.length<sizeLine/\Q .non (upd H l (.lst (xs++[y])))
theorem a1c:MtM X "list.append" rAppend:=by
 intro pins s σ H x vs v us Q I rx rv h;obtain⟨l,xs,y,rfl,rfl,hH,hz,q⟩:=h;cases rx;obtain⟨u,rfl,ru⟩:=rv.one;obtain⟨z,its,n,r,hl,e⟩:=I.lstM hH;refine call_meets F.slot_list_append ⟨_,e,rfl⟩ F.entry_list_append (F.args_list_append_2 _ _) (PySem.list_append l its.toArray n u (by rw[zV];walk_at "o")) ⟨e,?_⟩
 refine⟨.non,_,I.lset (its':=its++[u]) hH e (by simp) (r.append (.cons ru .nil)) ?_,rfl,q⟩
 rw[qB,xM];walk_at "o"
end
section
set_option maxRecDepth 100000 in
end
end L2
namespace Att
open PySem PySem.W PySem.Calls PyProof.Rows
theorem Z5 {P:Params}{h:Heap}:∀(ns:List Int) (vs:List Value),WellAll P h vs (ns.map WData.int)->IntsAre vs ns:=by
 intro ns
 induction ns with
 | nil=>
  intro vs w;rw[xT] at w;cases w;exact .nil
 | cons n ns ih=>
  intro vs w;rw[zH] at w;cases w with
  | cons a b=>
   cases a;exact .cons _ _ (ih _ b)
theorem a5T {l:OpenLaw}{n:Nat}(hn:l.most=some n){P:Params}{h:Heap}{args:List WData}{vals:List Value}
  (hpre:l.row.toRowW.claim.pre args=true) (hwl:WellAll P h vals args):
  ∃a vs ns,vals=[Value.ref a]/\args=[WData.list (ns.map WData.int)]/\h.get? a=some {cls:=.type "list",data:=.seq vs.toArray}/\IntsAre vs ns/\ns.length<=n:=by
 have hsh:WShape.hasAll [] args [.list .int]=true:=(pre_splitW hpre).1;have hc:l.pre.holds [] {args:=args}=true:=(pre_splitW hpre).2;obtain⟨d,r,rfl,h1,h2⟩:=hasAllW_cons hsh;obtain rfl:=hasAllW_nil h2;obtain⟨xs,rfl,h3⟩:=hasW_list h1;obtain⟨ns,rfl⟩:=items_int h3;have hlen:ns.length<=n:=by
  unfold OpenLaw.pre at hc;have h4:(WTm.not (.lt (.lit (.int (n:Int))) (.len (.arg 0)))).holds [] {args:=[.list (ns.map .int)]}=true:=by
   have h4:=(holds_andW hc).1;rw[hn] at h4;exact h4
  have h5:=condW_of h4 (w_not (w_lt w_lit (w_len_list (w_arg rfl))));rw[zC] at h5;refine Nat.le_of_not_lt fun q=>?_;have q':(n:Int)<((ns.length:Nat):Int):=by walk_at "o"
  first
   | (rw[zL q'] at h5;exact absurd h5 (by decide))
   | (simp at h5;walk_at "o")
 cases hwl with
 | cons w1 w2=>
  cases w2;cases w1 with
  | list ho hall=>exact⟨_,_,ns,rfl,rfl,ho,Z5 ns _ hall,hlen⟩
theorem a5w (l:OpenLaw)(args:List WData):l.row.toRowW.claim.post args (.bool true) args=true:=
 postW_of (r:=l.row.toRowW) (X:=(true==true))
  (show WShape.has [] (.bool true) .bool=true by first|rfl|decide|simp[WShape.has,WShape.arms,WShape.armsAll])
  (show(WTm.eq .res (.lit (.bool true))).value [] {args:=args,res:=some (.bool true),after:=args}=some (.bool (true==true)) from w_eq_bool (w_res rfl) w_lit) rfl
theorem attach_call {l:OpenLaw}{n:Nat}{q:Program}{loose:List Str}{XP:(Str->Option Value)->Heap->Prop}{YP:World->Heap->Prop}{d:DefRec}
  (hn:l.most=some n) (hdf:d.params.defaults=[])
  (call:∀(w:World) (s₀ s₁:Shared) (mg mb:Str->Option Value) (fa:Addr) (o:Obj) (pm cd doc:Value) (a:Addr) (vs:List Value) (ns:List Int),
   Ground q loose [] XP w s₀ mg mb s₁.heap->YP w s₁.heap->
   s₁.heap.get? fa=some o->o.data= .func (docDef d.name d.params d.body d.scope pm cd doc)->s₁.heap.CodeRec cd d.name->mg d.name=some (.ref fa)->
   s₁.heap.get? a=some {cls:=.type "list",data:=.seq vs.toArray}->IntsAre vs ns->ns.length<=n->s₁.gens= #[]->
   codeAny (model l.prog w) callerA (.call (.ref fa) ⟨[.ref a],[]⟩) (fun r s'=>r= .ok (.ret (.bool true))/\OldK s₁.heap s'.heap/\s'.os=s₁.os/\AllBare s'.gens) s₁):
  WalkO q loose XP YP l.row.toRowW d [] (fun f vs=>PySem.call f vs):=by
 intro w s₀ s₁ mg mb G Y fa o pm cd doc dV kV ho hd hcd hD hmg hg args vals as hpre hlay hrd hwl hlo;obtain rfl:dV= .none:=Dflts.none hD hdf;obtain rfl:kV= .none:=Dflts.noKw hD;obtain⟨a,vs,ns,rfl,rfl,hobj,hints,hlen⟩:=a5T hn hpre hwl;refine enter_call (codeAny_mono (call w s₀ s₁ mg mb fa o pm cd doc a vs ns G Y ho (fd_plain hd) hcd hmg hobj hints hlen hg) fun r s' hq=>?_);obtain⟨rfl,h2,h3,h4⟩:=hq;exact⟨.inl ⟨.bool true,.bool true,[],rfl,fun _=>rfl,.bool true,a5w l _,fun _=>⟨List.Pairwise.nil,fun _ hm=>(nomatch hm)⟩⟩,h2,h3,h4⟩
def ledger (h:Heap) (L d:Addr):List (Addr×Obj):=(List.range h.objs.size).filterMap fun a=>if a=L\/a=d then none else(h.get? a).map fun o=>(a,o)
end Att
namespace L2
open PySem PySem.Spec PyProof.Rows
theorem a1x:∀{vs:List Value} {ns:List Int},IntsAre vs ns->Vals (ns.map V.int) vs
 | _,_,.nil=>.nil
 | _,_,.cons n t h=>.cons ⟨t,rfl⟩ (a1x h)
def Only (H:Hp):Prop:=∀b,H b=none\/∃o xs,H b=some (.frz o (.lst xs))
theorem a6P {P:Program}{w:World}{K:PySem.W.Frag}{mg mb:Str->Option Value}{CX:CXT}{k:Nat}{fa a:Addr}{fd:FuncData}{x:Str}{sp:Sp}{s₁:Shared}{vs:List Value}{ns:List Int}
  (KX:K.In s₁.heap) (hns:s₁.heap.Ns mainGlobals mg) (hb:s₁.heap.Ns builtinsNs mb) (hbb:∀x:Str,x≠"__name__"->mb x=bootBuiltins x) (hlim:s₁.heap.NoLimit) (hg:s₁.gens= #[])
  (ha:s₁.heap.get? a=some {cls:=.type "list",data:=.seq vs.toArray}) (hi:IntsAre vs ns) (hl:ns.length<=sizeLine) (hr:Room k callerA)
  (F:∀base:Heap,K.In base->base.Ns mainGlobals mg->FnOk P w K mg base CX k fa fd [x] sp) (hbind:∀(s:Shared) (u:Value),BindsTo s fd ⟨[u],[]⟩ [(x,u)])
  (hsp:∀H:Hp,Only H->SqL K H a (ns.map V.int)->sp [.ref a] H (fun v _=>v= .bl true) fun _ _ _=>False)
  (hCX:∀H e s',CX [] H s₁ (fun _ _ _=>False) e s'->False):
  codeAny (model P w) callerA (.call (.ref fa) ⟨[.ref a],[]⟩) (fun r s'=>r= .ok (.ret (.bool true))/\OldK s₁.heap s'.heap/\s'.os=s₁.os/\AllBare s'.gens) s₁:=by
 have rv:=a1x hi;have lenV:=hi.length;have core:∀H:Hp,Only H->SqL K H a (ns.map V.int)->HOk P w H s₁.heap->(∀b,H b≠none->b=a)->(H a≠none->K.lookup a=none)->
   codeAny (model P w) callerA (.call (.ref fa) ⟨[.ref a],[]⟩) (fun r s'=>r= .ok (.ret (.bool true))/\OldK s₁.heap s'.heap/\s'.os=s₁.os/\AllBare s'.gens) s₁:=by
  intro H hO hS hok hA hK;have base_of:∀{b:Addr} {o:Obj},s₁.heap.get? b=some o->H b=none->(hidT s₁.heap H).get? b=some o:=fun e n=>a7X e n;have noA:∀{b:Addr} {o:Obj} {es:Array DictEntry} {ep:Nat},s₁.heap.get? b=some o->o.data= .dict es ep->H b=none:=fun{b o es ep} e d=>by
   cases q:H b with
   | none=>rfl
   | some u=>
    have e':b=a:=hA b (by rw[q];simp)
    subst e';rw[ha] at e;cases e;have d':Data.seq vs.toArray _=Data.dict es ep:=d;cases d'
  have nsK:∀{b:Addr} {m:Str->Option Value},s₁.heap.Ns b m->(hidT s₁.heap H).Ns b m:=fun{b m} ⟨o,es,ep,e,d,r⟩=>⟨o,es,ep,base_of e (noA e d),d,r⟩
  have hKb:K.In (hidT s₁.heap H):=fun b o e=>base_of (KX b o e) (by
   cases q:H b with
   | none=>rfl
   | some u=>
    have e':b=a:=hA b (by rw[q];simp)
    subst e'
    rw[hK (by rw[q];simp)] at e;cases e)
  have hM:Mod K mg (hidT s₁.heap H):=⟨hKb,nsK hns,⟨mb,nsK hb,hbb⟩,let ⟨mc,h1,h2⟩:=hlim;⟨mc,nsK h1,h2⟩⟩;have e0:Env0 P w K mg (hidT s₁.heap H) callerA [] s₁ H:=⟨rfl,hM,fun b o e=>a80 e,Nat.le_of_eq (a6f _ _),trivial,fun b hb=>absurd (show b∈([]:List Addr) from hb) (by simp),hok,.of_eq hg⟩
  refine codeAny_mono ((F _ hKb (nsK hns)).run callerA [] s₁ H ⟨[.ref a],[]⟩ [.ref a] [.ref a] _ _ hr e0 (hbind s₁ (.ref a)) (.cons rfl .nil) (hsp H hO hS)) fun r s' h=>?_;cases r with
  | error e=>exact(hCX H e s' h).elim
  | ok fl=>
   cases fl with
   | next=>exact False.elim h
   | brk=>exact False.elim h
   | cont=>exact False.elim h
   | ret u=>
    obtain⟨v,H',os,bare,un,hok',r',q⟩:=h;have q':v= .bl true:=q;subst q';obtain rfl:u=Value.bool true:=r';refine⟨rfl,OldK.of_keep fun b o e=>?_,os,bare⟩;cases q:H b with
    | none=>exact un.keep b o e q (by intro z;exact absurd (show b∈([]:List Addr) from z) (by simp)) (by simp)
    | some u=>
     rcases hO b with z|⟨ob,xs,z⟩
     ·rw[q] at z;cases z
     ·have z2:=un.frzs b ob _ z;obtain⟨e1,_⟩:=hok b _ z;obtain⟨e2,_⟩:=hok' b _ z2;rw[e] at e1;cases e1;exact e2
 cases hk:K.lookup a with
 | some o=>
  have e:=KX a o hk;rw[ha] at e;cases e;refine core (fun _=>none) (fun _=>.inl rfl) (.inr ⟨_,vs.toArray,_,hk,rfl,rfl,rfl,by rw[zV,lenV];exact hl,by simpa using rv⟩) (fun b u z=>by have z':(none:Option HO)=some u:=z;cases z') (fun b z=>absurd rfl z) fun z=>absurd rfl z
 | none=>
  refine core (fun b=>if b=a then some (.frz {cls:=.type "list",data:=.seq vs.toArray} (.lst (ns.map V.int))) else none) (fun b=>?_) (.inl (.inr ⟨{cls:=.type "list",data:=.seq vs.toArray},if_pos rfl⟩)) (fun b u z=>?_) (fun b z=>?_) fun _=>hk
  ·by_cases hb:b=a
   ·exact .inr ⟨_,_,if_pos hb⟩
   ·exact .inl (if_neg hb)
  ·by_cases hb:b=a
   ·have z':=(if_pos hb).symm.trans z;cases z';subst hb;exact⟨ha,by rw[zC];exact hl,vs,_,rv,ha⟩
   ·have z':=(if_neg hb).symm.trans z;cases z'
  ·by_cases hb:b=a
   ·exact hb
   ·exact absurd (if_neg hb) z
abbrev KOf {K:PySem.W.Frag} {h:Heap} (_:K.In h):PySem.W.Frag:=K
theorem a82 {l:PySem.W.OpenLaw}{n k:Nat}{q:Program}{loose:List Str}{XP:(Str->Option Value)->Heap->Prop}{YP:World->Heap->Prop}{d:DefRec}{K:Params->PySem.W.Frag}{CX:World->CXT}{sp:World->Sp}{x:Str}
  (hn:l.most=some n) (hn2:n<=sizeLine) (hdf:d.params.defaults=[]) (hr:Room k callerA)
  (hY:∀(w:World) (h:Heap),YP w h->(K w.params).In h)
  (F:∀(w:World) (mg:Str->Option Value) (fa:Addr) (h:Heap),(K w.params).In h->h.Ns mainGlobals mg->mg d.name=some (.ref fa)->
   ∃fd:FuncData,(∀(s:Shared) (u:Value),BindsTo s fd ⟨[u],[]⟩ [(x,u)])/\
    ∀base:Heap,(K w.params).In base->base.Ns mainGlobals mg->FnOk l.prog w (K w.params) mg base (CX w) k fa fd [x] (sp w))
  (hsp:∀(w:World) (H:Hp) (a:Addr) (ns:List Int),ns.length<=n->Only H->SqL (K w.params) H a (ns.map V.int)->sp w [.ref a] H (fun v _=>v= .bl true) fun _ _ _=>False)
  (hCX:∀(w:World) (H:Hp) (s:Shared) (e:Value) (s':Shared),CX w [] H s (fun _ _ _=>False) e s'->False):
  PySem.W.WalkO q loose XP YP l.row.toRowW d [] (fun f vs=>PySem.call f vs):=by
 refine Att.attach_call hn hdf fun w s₀ s₁ mg mb fa o pm cd doc a vs ns G Y ho hd hcd hmg hobj hints hlen hg=>?_;have KX:=hY w _ Y;obtain⟨fd,hb,hF⟩:=F w mg fa _ KX G.T.g hmg;exact a6P KX G.T.g G.T.b G.T.builtins G.T.nolimit hg hobj hints (zP hlen hn2) hr hF hb (fun H hO hS=>hsp w H a ns hlen hO hS) fun H e s'=>hCX w H s₁ e s'
def defArgs (s:Stmt):Arguments:=match s with
 | .FunctionDef _ a _ _ _ _ _ _ _ _=>a
 | _=>{posonlyargs:=[],args:=[],vararg:=none,kwonlyargs:=[],kw_defaults:=[],kwarg:=none,defaults:=[]}
def defBody (s:Stmt):List Stmt:=match s with
 | .FunctionDef _ _ b _ _ _ _ _ _ _=>b
 | _=>[]
def defScope (s:Stmt):Scope:=match s with
 | .FunctionDef _ _ _ _ _ _ sc _ _ _=>sc
 | _=>{kind:=.function,names:=[],isGenerator:=false,isCoroutine:=false}
abbrev CX0:CXT:=fun _ _ _ _ _ _=>False
abbrev E0:XK:=fun _ _ _=>False
theorem pass0 {X:Cx}:Passes CX0 X E0:=fun _ _ _ _ _ _ _ h=>h.elim
structure Fun (K:PySem.W.Frag) (x qual:Str) (st:Stmt) (f:Addr) (fd:FuncData):Prop where
 ex:∃(oc:Value) (od:Option Addr) (kV doc pm:Value) (an:Option Addr) (cdv ct:Value) (osl:Array (Option Value)),
  fd=PySem.W.fnOf x qual (defArgs st) (defBody st) (defScope st) .none kV doc pm an cdv ct/\K.lookup f=some ⟨oc,od,.func fd,osl⟩/\PySem.W.codeIn K cdv qual=true
 kp:PySem.W.keepIn K (.ref f)=true
section
variable {P:Program}{w:World}{K:PySem.W.Frag}{mg:Str->Option Value}{base:Heap}
theorem Fun.ok {x qual:Str}{st:Stmt}{f:Addr}{fd:FuncData}{N ps:List Str}{k:Nat}{sp:Sp}(F:Fun K x qual st f fd)(S:FnScope N ps (defScope st))(len:∀vs H Q E,sp vs H Q E->vs.length=ps.length)
  (hbody:∀(cdv:Value) (A:Around) (outer:List Env) (s:Shared) (H:Hp) (vs:List V) (Q:VK) (E:XK),Room k (A.deeper (envOfC qual (defScope st) s.heap.objs.size f cdv))->sp vs H Q E->
   ∃t,PSs (cxOf CX0 P w K mg base N qual (defScope st) f cdv A outer s H E).nox (defBody st) t/\t {nx:=fun _ H'=>Q .non H',rt:=Q} (start N vs) H):FnOk P w K mg base CX0 (k+1) f fd ps sp:=by
 obtain⟨oc,od,kV,doc,pm,an,cdv,ct,osl,rfl,lk,hcd⟩:=F.ex;refine fn_of lk hcd S len fun A outer s H vs Q E hr hsp=>?_;obtain⟨t,h,q⟩:=hbody cdv A outer s H vs Q E hr hsp;exact⟨t,h.nox,q⟩
theorem Fun.binds {x qual:Str}{st:Stmt}{f:Addr}{fd:FuncData}{ps:List Str}(F:Fun K x qual st f fd)
  (h:∀(kV doc pm:Value) (an:Option Addr) (cdv ct:Value) (us:List Value),us.length=ps.length->bindArgs (PySem.W.fnOf x qual (defArgs st) (defBody st) (defScope st) .none kV doc pm an cdv ct) ⟨us,[]⟩=pure (ps.zip us)):Binds K fd ps []:=by
 obtain⟨oc,od,kV,doc,pm,an,cdv,ct,osl,rfl,lk,hcd⟩:=F.ex;exact .all (h kV doc pm an cdv ct)
theorem a6q {x qual:Str}{st:Stmt}{f:Addr}{oc:Value}{od an:Option Addr}{osl:Array (Option Value)}{kV doc pm cdv ct:Value}(l:K.lookup f=some ⟨oc,od,.func (PySem.W.fnOf x qual (defArgs st) (defBody st) (defScope st) .none kV doc pm an cdv ct),osl⟩)
  (c:PySem.W.codeIn K cdv qual=true) (k:PySem.W.keepIn K (.ref f)=true):Fun K x qual st f (PySem.W.fnOf x qual (defArgs st) (defBody st) (defScope st) .none kV doc pm an cdv ct):=⟨⟨oc,od,kV,doc,pm,an,cdv,ct,osl,rfl,l,c⟩,k⟩
end
theorem a1P {A:Around}{k:Nat}(hr:Room k A):A.units+1<cLine:=Nat.lt_of_le_of_lt (Nat.add_le_add_left (by decide:1<=64) _) hr.units
def Same (H H':Hp):Prop:=∀b o,H b=some o->H' b=some o
theorem Same.refl (H:Hp):Same H H:=fun _ _ h=>h
theorem Same.trans {H H1 H2:Hp}(a:Same H H1)(b:Same H1 H2):Same H H2:=fun c o h=>b c o (a c o h)
section
variable {prog:Program}{w:World}{K:Type} [DecidableEq K] {knd:KeyKind prog w K}{A:Around}{E:Value->Shared->Prop}{s:Shared}
theorem a0T {kvs:List (K×Value)}{k:K}{v:Value}(h:(kvs.any fun kv=>decide (kv.1=k))=true):(stored kvs k v).length=kvs.length:=by
 unfold stored;rw[if_pos h,zC]
theorem a0L {kvs:List (K×Value)}{k:K}{v:Value}(h:¬(kvs.any fun kv=>decide (kv.1=k))=true):(stored kvs k v).length=kvs.length+1:=by
 unfold stored;rw[if_neg h,qB];rfl
theorem a0m {d:Addr}{kvs:List (K×Value)}{k:K}{key v:Value}{Q:Unit->Shared->Prop}(hkey:knd.is k key=true)(hm:s.heap.DictAt knd d kvs kvs.length)(hsz:kvs.length<=sizeLine)
  (hQ:∀h',h'.DictAt knd d (stored kvs k v) (stored kvs k v).length->Heap.SameBut d s.heap h'->Q () {s with heap:=h',toks:=s.toks+1}):wpAny (model prog w) A (dictSet d key v) Q E s:=by
 obtain⟨o,es,ho,hc,hd,hk,hp,hn⟩:=hm;have pl:=hp.length;have hes:es.size<=sizeLine:=by rw[qZ] at pl;walk_at "o"
 unfold dictSet
 try with_reducible refine qD ?_
 refine zA (knd.pyHash hkey ?_);unfold dictSetHashed
 try with_reducible refine qD ?_
 refine zA (wpAny_dictFind_of (s:={s with toks:=s.toks+1}) hkey ho hd hk ?_)
 have hidx:(es.findIdx? fun e=>knd.is k e.key)=kvs.findIdx? fun kv=>decide (kv.1=k):=by
  rw[<-hp.findIdx k];obtain⟨l⟩:=es;simp
 cases hi:es.findIdx? fun e=>knd.is k e.key with
 | some i=>
  have old:=any_of_findIdx_some (hidx▸hi);have el:=a0T (v:=v) old;refine zA (xY (zA (wpAny_updateDict (s:={s with toks:=s.toks+1}) ho hd (wpAny_point (hQ _ ⟨_,_,xA _ ho (Obj.isFreed_of_dict (Obj.data_mapDict hd _)),hc.mapDict _,by rw[el];exact Obj.data_mapDict hd _,hk.modify _ _,?_,?_⟩ (qQ ..))))))
  ·rw[stored,if_pos old];have hl:(es.toList.findIdx? fun e=>knd.is k e.key)=some i:=by rw[<-hi];obtain⟨l⟩:=es;simp
   have:=hp.modify hn hl v
   obtain⟨l⟩:=es;simpa using this
  ·rw[stored,if_pos old,keys_map_store];exact hn
 | none=>
  have hnot:k∉kvs.map (·.1):=not_mem_of_findIdx_none (hidx▸hi);have hany:¬(kvs.any fun kv=>decide (kv.1=k))=true:=by
   rw[List.any_eq_true];rintro⟨kv,hkv,he⟩;exact hnot (zE.mpr ⟨kv,hkv,qM he⟩)
  have el:=a0L (v:=v) hany;refine zA (xY (wpAny_updateDictKeys (hz:=hes) (s:={s with toks:=s.toks+1}) ho hd (hQ _ ⟨_,_,xA _ ho (Obj.isFreed_of_dict (Obj.data_mapDictKeys hd _)),hc.mapDictKeys _,by rw[el];exact Obj.data_mapDictKeys hd _,hk.push hkey _,?_,?_⟩ (qQ ..))))
  ·rw[stored,if_neg hany]
   have:=hp.append hkey (knd.hash k) v
   obtain⟨l⟩:=es;simpa using this
  ·rw[stored,if_neg hany,jQ,xN];exact⟨hn,by simp,fun a ha b hb e=>by simp only[zH,xT,zN] at hb;subst hb;exact hnot (e▸ha)⟩
theorem a3v {d:Addr}{kvs:List (K×Value)}{k:K}{key v:Value}{Q:Unit->Shared->Prop}(hkey:knd.is k key=true)(hm:s.heap.DictAt knd d kvs kvs.length)(hsz:kvs.length<=sizeLine)
  (hQ:∀h',h'.DictAt knd d (stored kvs k v) (stored kvs k v).length->Heap.SameBut d s.heap h'->Q () {s with heap:=h',toks:=s.toks+1}):wpAny (model prog w) A (setItem (.ref d) key v) Q E s:=by
 have ty:=hm.dictOf.typeIs;unfold setItem
 try with_reducible refine qD ?_
 refine zA (wpAny_sequenceKey ty (by decide) ?_)
 refine zA (qJ (name:=Str.ofString "__setitem__") ty slot_dict_setitem (qR slot_dict_setitem ty entry_dict_setitem ?_ (args_dict_setitem _ _ _)));show wpAny _ _ (Builtin.Dict.notOrdered "__setitem__" ⟨[.ref d,key,v],[]⟩ >>=_) _ _ s;refine zA (wpAny_notOrdered_dict ty ?_);show wpAny _ _ (dictSet d key v >>=_) _ _ s;exact zA (a0m hkey hm hsz fun h' hm' hs'=>zB ⟨.none,rfl,zB (hQ h' hm' hs')⟩)
end
section
variable {prog:Program}{w:World}{K:Type} [DecidableEq K] {knd:HeapKind prog w K}{A:Around}{E:Value->Shared->Prop}{s:Shared}
def DictLnH (knd:HeapKind prog w K) (h:Heap) (d:Addr) (xs:List (K×Addr×Value)):Prop:=∃o es,h.get? d=some o/\o.ExactDict/\o.data= .dict es xs.length/\es.toList=xs.map (entryOfKey knd)/\(∀x∈xs,knd.is h x.1 x.2.1)/\(xs.map (·.1)).Nodup
theorem DictLnH.of {h:Heap}{d:Addr}{xs:List (K×Addr×Value)}(x:DictLnH knd h d xs):h.DictOfH knd d xs:=let ⟨o,es,a,b,c,e⟩:=x;⟨o,es,_,a,b,c,e⟩
theorem a1g {d a:Addr}{xs:List (K×Addr×Value)}{k:K}{v:Value}{Q:Unit->Shared->Prop}(hu:knd.room A)(hkey:knd.is s.heap k a)(hm:DictLnH knd s.heap d xs)(hsz:xs.length<=sizeLine)
  (hQ:∀h',DictLnH knd h' d (storedH xs k a v)->Heap.SameBut d s.heap h'->Q () {s with heap:=h',toks:=s.toks+knd.draws k}):wpAny (model prog w) A (dictSet d (.ref a) v) Q E s:=by
 obtain⟨o,es,ho,hc,hd,he,his,hn⟩:=hm;have sz:=size_of_entries he;unfold dictSet
 try with_reducible refine qD ?_
 refine zA (knd.pyHash hu hkey ?_);unfold dictSetHashed
 try with_reducible refine qD ?_
 refine zA (wpAny_dictFind_heap (s:={s with toks:=s.toks+knd.draws k}) hu hkey ho hd he his hn ?_ ?_)
 ·intro hno;have hnot:k∉xs.map (·.1):=not_mem_keys_of_get hno;have en:=storedH_new (atKey_none_of_get hno) a v;refine zA (xY (wpAny_updateDictKeys (hz:=by walk_at "o") (s:={s with toks:=s.toks+knd.draws k}) ho hd (hQ _ ⟨_,_,xA _ ho (Obj.isFreed_of_dict (Obj.data_mapDictKeys hd _)),hc.mapDictKeys _,by rw[en,qB];exact Obj.data_mapDictKeys hd _,?_,?_,?_⟩ (qQ ..))))
  ·rw[en];simp[he,entryOfKey]
  ·rw[en];intro x hx;rcases jA.mp hx with hx|hx
   ·exact knd.keeps (his x hx) ho hd (qQ ..)
   ·rw[zN.mp hx];exact knd.keeps hkey ho hd (qQ ..)
  ·rw[en,jQ,xN];exact⟨hn,by simp,fun x hx y hy e=>by simp only[zH,xT,zN] at hy;subst hy;exact hnot (e▸hx)⟩
 ·intro j p hj;have eo:=storedH_old (atKey_of_get hn hj) a v;refine zA (xY (zA (wpAny_updateDict (s:={s with toks:=s.toks+knd.draws k}) ho hd (wpAny_point (hQ _ ⟨_,_,xA _ ho (Obj.isFreed_of_dict (Obj.data_mapDict hd _)),hc.mapDict _,by rw[eo,zC];exact Obj.data_mapDict hd _,?_,?_,?_⟩ (qQ ..))))))
  ·rw[eo]
   have:=modify_map_putAt (entryOfKey knd) (fun e:DictEntry=>{e with val:=v}) k v (fun _ _=>rfl) hn hj
   rw[<-he] at this;obtain⟨l⟩:=es;simpa using this
  ·rw[eo];intro x hx;obtain⟨y,hy,rfl⟩:=zE.mp hx;unfold putAt
   split<;>exact knd.keeps (his y hy) ho hd (qQ ..)
  ·rw[eo,keys_map_putAt];exact hn
theorem a3B {d a:Addr}{xs:List (K×Addr×Value)}{k:K}{v:Value}{Q:Unit->Shared->Prop}(hu:knd.room A.in1)(hkey:knd.is s.heap k a)(hm:DictLnH knd s.heap d xs)(hsz:xs.length<=sizeLine)
  (hQ:∀h',DictLnH knd h' d (storedH xs k a v)->Heap.SameBut d s.heap h'->Q () {s with heap:=h',toks:=s.toks+knd.draws k}):wpAny (model prog w) A (setItem (.ref d) (.ref a) v) Q E s:=by
 have ty:=hm.of.typeIs;unfold setItem
 try with_reducible refine qD ?_
 refine zA (wpAny_sequenceKey ty (by decide) ?_)
 refine zA (qJ (name:=Str.ofString "__setitem__") ty slot_dict_setitem (qR slot_dict_setitem ty entry_dict_setitem ?_ (args_dict_setitem _ _ _)));show wpAny _ _ (Builtin.Dict.notOrdered "__setitem__" ⟨[.ref d,.ref a,v],[]⟩ >>=_) _ _ s;refine zA (wpAny_notOrdered_dict ty ?_);show wpAny _ _ (dictSet d (.ref a) v >>=_) _ _ s;exact zA (a1g hu hkey hm hsz fun h' hm' hs'=>zB ⟨.none,rfl,zB (hQ h' hm' hs')⟩)
end
section
variable {κ:Type} [DecidableEq κ]
def valV (kvs:List (κ×V)) (k:κ):Option V:=(kvs.find? fun kv=>decide (kv.1=k)).map (·.2)
def putK (kvs:List (κ×V)) (k:κ) (v:V):List (κ×V):=
 if(kvs.any fun kv=>decide (kv.1=k))=true then kvs.map (fun kv=>if kv.1=k then(kv.1,v) else kv) else kvs++[(k,v)]
theorem U7 {p:κ×V}{r:List (κ×V)}{k:κ}(e:p.1=k):valV (p::r) k=some p.2:=by simp[valV,find?_cons,e]
theorem L4 {p:κ×V}{r:List (κ×V)}{k:κ}(e:¬p.1=k):valV (p::r) k=valV r k:=by simp[valV,find?_cons,e]
theorem a3c (k:κ):∀kvs:List (κ×V),(kvs.any fun kv=>decide (kv.1=k))=(valV kvs k).isSome
 | []=>rfl
 | p::r=>by
  rw[any_cons]
  by_cases e:p.1=k
  ·simp only[U7 e,zL e,Bool.true_or,Option.isSome_some]
  ·rw[L4 e,zO e,Bool.false_or];exact a3c k r
theorem K5 (kvs:List (κ×V))(k:κ)(v:V):(putK kvs k v).length<=kvs.length+1:=by
 unfold putK
 split
 ·rw[zC];walk_at "o"
 ·rw[qB,qC,xX];walk_at "o"
theorem RelO.isSome_eq {o:Option V}{u:Option Value}(r:RelO o u):o.isSome=u.isSome:=by
 cases o with
 | none=>cases u with
  | none=>rfl
  | some _=>exact(show False from r).elim
 | some _=>cases u with
  | none=>exact(show False from r).elim
  | some _=>rfl
theorem RelO.getD {o:Option V}{u:Option Value}{d:V}{d':Value}(r:RelO o u)(rd:RelV d d'):RelV (o.getD d) (u.getD d'):=by
 cases o with
 | none=>cases u with
  | none=>exact rd
  | some _=>exact(show False from r).elim
 | some _=>cases u with
  | none=>exact(show False from r).elim
  | some _=>exact r
theorem KV.val {kvs:List (κ×V)}{vs:List (κ×Value)}(r:KV kvs vs)(k:κ):RelO (valV kvs k) (valueAt vs k):=by
 unfold KV at r
 induction r with
 | nil=>exact True.intro
 | @cons p q ps qs h t ih=>
  obtain⟨h1,h2⟩:=h
  by_cases e:p.1=k
  ·have e':q.1=k:=h1.symm.trans e;have b:valueAt (q::qs) k=some q.2:=by simp[valueAt,find?_cons,e']
   rw[U7 e,b];exact h2
  ·have e':¬q.1=k:=fun z=>e (h1.trans z);have b:valueAt (q::qs) k=valueAt qs k:=by simp[valueAt,find?_cons,e']
   rw[L4 e,b];exact ih
theorem KV.any {kvs:List (κ×V)}{vs:List (κ×Value)}(r:KV kvs vs)(k:κ):(kvs.any fun kv=>decide (kv.1=k))=vs.any fun kv=>decide (kv.1=k):=by
 unfold KV at r
 induction r with
 | nil=>rfl
 | cons h t ih=>rw[any_cons,any_cons,ih,h.1]
theorem KV.repl {kvs:List (κ×V)}{vs:List (κ×Value)}(r:KV kvs vs)(k:κ){y:V}{u:Value}(ry:RelV y u):
  KV (kvs.map fun kv=>if kv.1=k then(kv.1,y) else kv) (vs.map fun kv=>if kv.1=k then(kv.1,u) else kv):=by
 unfold KV at r ⊢
 induction r with
 | nil=>exact .nil
 | @cons p q ps qs h t ih=>
  rw[zH,zH];refine .cons ?_ ih;obtain⟨h1,h2⟩:=h
  by_cases e:p.1=k
  ·rw[if_pos e,if_pos (h1.symm.trans e)];exact⟨h1,ry⟩
  ·rw[if_neg e,if_neg (fun z=>e (h1.trans z))];exact⟨h1,h2⟩
theorem KV.put {kvs:List (κ×V)}{vs:List (κ×Value)}(r:KV kvs vs)(k:κ){y:V}{u:Value}(ry:RelV y u):KV (putK kvs k y) (stored vs k u):=by
 unfold putK stored;rw[r.any k]
 by_cases e:(vs.any fun kv=>decide (kv.1=k))=true
 ·rw[if_pos e,if_pos e];exact r.repl k ry
 ·rw[if_neg e,if_neg e];exact Paired.snoc r ⟨rfl,ry⟩
theorem KV.keys {kvs:List (κ×V)}{vs:List (κ×Value)}(r:KV kvs vs):kvs.map (·.1)=vs.map (·.1):=by
 unfold KV at r
 induction r with
 | nil=>rfl
 | cons h t ih=>rw[zH,zH,ih,h.1]
theorem KV.length {kvs:List (κ×V)}{vs:List (κ×Value)}(r:KV kvs vs):kvs.length=vs.length:=xG r
end
theorem a0M {P:Program}{w:World}{k:Key}{u:Value}(r:RelV (kV k) u):(mixKind P w).is k u=true:=by
 cases k with
 | inl i=>obtain⟨t,e⟩:=(show ∃t,u=Value.int i t from r);subst e;exact a28 P w i t
 | inr x=>obtain⟨t,e⟩:=(show ∃t,u=Value.str x t from r);subst e;exact a25 P w x t
theorem W8 {P:Program}{w:World}:∀{ks:List Key} {us:List Value},Vals (ks.map kV) us->ItemsAre (mixKind P w) ks us
 | [],_,r=>by rw[xT] at r;cases r;exact .nil
 | k::ks,_,r=>by
  rw[zH] at r;cases r with
  | cons h t=>exact .cons (a0M h) (W8 t)
abbrev KT (H:Hp):List (List Key×V)->List (List Key×Addr×Value)->Prop:=Paired fun p q=>p.1=q.1/\H q.2.1=some (.tup (p.1.map kV))/\RelV p.2 q.2.2
theorem KT.val {H:Hp}{kvs:List (List Key×V)}{xs:List (List Key×Addr×Value)}(r:KT H kvs xs)(k:List Key):RelO (valV kvs k) ((atKey xs k).map (·.2)):=by
 induction r with
 | nil=>exact True.intro
 | @cons p q ps qs h t ih=>
  obtain⟨h1,_,h2⟩:=h
  by_cases e:p.1=k
  ·have e':q.1=k:=h1.symm.trans e;have b:atKey (q::qs) k=some q.2:=by simp[atKey,find?_cons,e']
   rw[U7 e,b];exact h2
  ·have e':¬q.1=k:=fun z=>e (h1.trans z);have b:atKey (q::qs) k=atKey qs k:=by simp[atKey,find?_cons,e']
   rw[L4 e,b];exact ih
theorem KT.repl {H:Hp}{kvs:List (List Key×V)}{xs:List (List Key×Addr×Value)}(r:KT H kvs xs)(k:List Key){y:V}{u:Value}(ry:RelV y u):
  KT H (kvs.map fun kv=>if kv.1=k then(kv.1,y) else kv) (xs.map (putAt k u)):=by
 induction r with
 | nil=>exact .nil
 | @cons p q ps qs h t ih=>
  rw[zH,zH];refine .cons ?_ ih;obtain⟨h1,h2,h3⟩:=h;unfold putAt
  by_cases e:p.1=k
  ·rw[if_pos e,if_pos (h1.symm.trans e)];exact⟨h1,h2,ry⟩
  ·rw[if_neg e,if_neg (fun z=>e (h1.trans z))];exact⟨h1,h2,h3⟩
theorem KT.put {H:Hp}{kvs:List (List Key×V)}{xs:List (List Key×Addr×Value)}(r:KT H kvs xs)(k:List Key){b:Addr}{y:V}{u:Value}(hb:H b=some (.tup (k.map kV)))(ry:RelV y u):
  KT H (putK kvs k y) (storedH xs k b u):=by
 have e:(kvs.any fun kv=>decide (kv.1=k))=(atKey xs k).isSome:=by
  rw[a3c,(r.val k).isSome_eq,isSome_map]
 unfold putK storedH;rw[e]
 by_cases q:(atKey xs k).isSome=true
 ·rw[if_pos q,if_pos q];exact r.repl k ry
 ·rw[if_neg q,if_neg q];exact Paired.snoc r ⟨rfl,hb,ry⟩
theorem KT.keeps {H H':Hp}{kvs:List (List Key×V)}{xs:List (List Key×Addr×Value)}(r:KT H kvs xs)(ht:∀b ys,H b=some (.tup ys)->H' b=some (.tup ys)):KT H' kvs xs:=
 Paired.mapP r fun _ _ z=>⟨z.1,ht _ _ z.2.1,z.2.2⟩
section
variable {P:Program}{w:World}{H:Hp}{h:Heap}{a:Addr}
theorem a7l {u:HO}(ok:HOk P w H h)(e:Rd H a u):ObjOk P w H h a u:=e.ok ok
theorem dk_rd {kvs:List (Key×V)}(ok:HOk P w H h)(e:Rd H a (.dK kvs)):kvs.length<=sizeLine/\(a==sysModules)=false/\∃vs,KV kvs vs/\h.DictOf (mixKind P w) a vs:=
 let ⟨z,y,vs,r,d⟩:=(show ObjOk P w H h a (.dK kvs) from a7l ok e);⟨z,y,vs,r,d.dictOf⟩
theorem a2U {kvs:List (Key×V)}(ok:HOk P w H h)(e:H a=some (.dK kvs)):kvs.length<=sizeLine/\(a==sysModules)=false/\∃vs,KV kvs vs/\h.DictAt (mixKind P w) a vs kvs.length:=a7l ok (.inl e)
theorem a5g {kvs:List (Key×V)}(ok:HOk P w H h)(e:H a=some (.dK kvs)):kvs.length<=sizeLine/\(a==sysModules)=false/\∃vs,KV kvs vs/\h.DictOf (mixKind P w) a vs:=dk_rd ok (.inl e)
theorem a3H {ks:List Key}(ok:HOk P w H h)(e:H a=some (.tup (ks.map kV))):(tupleKind (mixKind P w)).is h ks a:=by
 obtain⟨_,its,r,o,h1,h2,⟨n,h3⟩,_⟩:=(show ObjOk P w H h a (.tup (ks.map kV)) from ok a _ e);exact⟨o,its.toArray,n,h1,h2,h3,by simpa using W8 r⟩
theorem a38 {kvs:List (List Key×V)}(ok:HOk P w H h)(e:Rd H a (.dT kvs)):kvs.length<=sizeLine/\(a==sysModules)=false/\
  ∃xs,KT H kvs xs/\DictLnH (tupleKind (mixKind P w)) h a xs:=by
 obtain⟨z,y,xs,r,o,es,h1,h2,h3,h4,h5⟩:=(show ObjOk P w H h a (.dT kvs) from a7l ok e);refine⟨z,y,xs,r,o,es,h1,h2,by rw[<-xG r];exact h3,h4,fun x hx=>?_,h5⟩
 have all:∀{l:List (List Key×V)} {m:List (List Key×Addr×Value)},KT H l m->∀x∈m,(tupleKind (mixKind P w)).is h x.1 x.2.1:=by
  intro l m q
  induction q with
  | nil=>intro x hx;exact nomatch hx
  | @cons p q ps qs hq t ih=>
   intro x hx;rcases zK.mp hx with e|hx
   ·subst e;exact a3H ok (by rw[<-hq.1];exact hq.2.1)
   ·exact ih x hx
 exact all r x hx
theorem dt_rd {kvs:List (List Key×V)}(ok:HOk P w H h)(e:Rd H a (.dT kvs)):kvs.length<=sizeLine/\(a==sysModules)=false/\
  ∃xs,KT H kvs xs/\h.DictOfH (tupleKind (mixKind P w)) a xs:=let ⟨z,y,xs,r,d⟩:=a38 ok e;⟨z,y,xs,r,d.of⟩
theorem a5m {kvs:List (List Key×V)}(ok:HOk P w H h)(e:H a=some (.dT kvs)):kvs.length<=sizeLine/\(a==sysModules)=false/\
  ∃xs,KT H kvs xs/\h.DictOfH (tupleKind (mixKind P w)) a xs:=dt_rd ok (.inl e)
end
def DPut (H:Hp) (a:Addr) (y v:V) (H':Hp):Prop:=
 (∃kvs k,H a=some (.dK kvs)/\y=kV k/\kvs.length<sizeLine/\H'=upd H a (.dK (putK kvs k v)))\/
 ∃kvs k b,H a=some (.dT kvs)/\y= .ref b/\H b=some (.tup (k.map kV))/\kvs.length<sizeLine/\H'=upd H a (.dT (putK kvs k v))
theorem DPut.k {H:Hp}{a:Addr}{kvs:List (Key×V)}{k:Key}{v:V}(e:H a=some (.dK kvs))(hl:kvs.length<sizeLine):DPut H a (kV k) v (upd H a (.dK (putK kvs k v))):=.inl ⟨kvs,k,e,rfl,hl,rfl⟩
theorem DPut.t {H:Hp}{a b:Addr}{kvs:List (List Key×V)}{k:List Key}{v:V}(e:H a=some (.dT kvs))(eb:H b=some (.tup (k.map kV)))(hl:kvs.length<sizeLine):
  DPut H a (.ref b) v (upd H a (.dT (putK kvs k v))):=.inr ⟨kvs,k,b,e,rfl,eb,hl,rfl⟩
section
variable {X:Cx}{pins:List (Addr×Obj)}{σ:St}{H:Hp}{s:Shared}{a:Addr}{y v:V}{u r:Value}{o:Option V}{A:Around}{E:Value->Shared->Prop}
theorem Inv.big (I:Inv X pins σ H s):sysModules<s.heap.objs.size:=by
 have h:mainGlobals<s.heap.objs.size:=(I.mod.glob.keeps I.bk).lt;exact Nat.lt_trans (by decide) h
theorem a0c {h':Heap}{t':Nat}{ob:HO}(I:Inv X pins σ H s)(mu:Mut (H a))(hs:Heap.SameBut a s.heap h')(he:∃q,h'.get? a=some q)(new:ObjOk X.prog X.w (upd H a ob) h' a ob):
  Inv X pins σ (upd H a ob) {s with heap:=h',toks:=t'}:=
 I.write (x:=a) (e:=a) mu (.inl rfl) (fun b q hb z=>(hs.2 b hb).trans z) he new
theorem a7v {P:Program}{w:World}{H':Hp}{h':Heap}{kvs:List (Key×V)}{vs:List (Key×Value)}(z:kvs.length<=sizeLine)(hd:(a==sysModules)=false)(rel:KV kvs vs)(dd:h'.DictAt (mixKind P w) a vs vs.length):
  ObjOk P w H' h' a (.dK kvs):=⟨z,hd,vs,rel,by rw[rel.length];exact dd⟩
theorem a5v {H':Hp}{Q:Unit->Shared->Prop}(hu:A.units+1<cLine)(I:Inv X pins σ H s)(g:DPut H a y v H')(ry:RelV y u)(rv:RelV v r)(h:∀s',Inv X pins σ H' s'->Q () s'):
  wpAny (model X.prog X.w) A (setItem (.ref a) u r) Q E s:=by
 rcases g with ⟨kvs,k,e,ey,l,eH⟩|⟨kvs,k,b,e,ey,eb,l,eH⟩
 ·subst ey eH;obtain⟨z,hd,vs,rel,dd⟩:=a2U I.hok e;rw[rel.length] at dd;have hz:vs.length<=sizeLine:=by rw[<-rel.length];exact z
  have hl:(putK kvs k v).length<=sizeLine:=by have:=K5 kvs k v;walk_at "o"
  refine a3v (a0M ry) dd hz fun h' dd' hs=>h _ ?_;have he:∃q,h'.get? a=some q:=let ⟨q,_,hq,_⟩:=dd';⟨q,hq⟩;exact a0c I (by rw[e];exact True.intro) hs he (a7v hl hd (rel.put k rv) dd')
 ·subst ey eH;cases(show u=Value.ref b from ry);obtain⟨z,hd,xs,rel,dd⟩:=a38 I.hok (.inl e);have hz:xs.length<=sizeLine:=by rw[<-xG rel];exact z
  have hl:(putK kvs k v).length<=sizeLine:=by have:=K5 kvs k v;walk_at "o"
  refine a3B (xZ hu) (a3H I.hok eb) dd hz fun h' dd' hs=>h _ ?_;obtain⟨q,es,hq,h2,h3,h4,_,h5⟩:=dd';refine a0c I (by rw[e];exact True.intro) hs ⟨q,hq⟩ ⟨hl,hd,_,(rel.put k eb rv).keeps fun c ys ec=>?_,q,es,hq,h2,by rw[xG (rel.put k eb rv)];exact h3,h4,h5⟩
  rw[c7 (a9O ec e (fun z=>nomatch z))];exact ec
end
def sDPut (td ty tv:TE):TS:=fun D σ H=>tv σ H fun v H1=>td σ H1 fun x H2=>ty σ H2 fun y H3=>∃a H4,x= .ref a/\DPut H3 a y v H4/\D.nx σ H4
section
variable {X:Cx}{o i value:Expr}{pos pos':Pos}{td ty tv:TE}
theorem a9p (hu:X.A.units+1<cLine)(ho:PE X o td)(hi:PE X i ty)(hv:PE X value tv)(hs:swapsWith value (some (.Subscript o i pos')) pos.line X.env=pure false):
  PS X (.Assign [.Subscript o i pos'] value pos) (sDPut td ty tv):=by
 intro pins s σ H D I h;refine wpAny_Assign_Subscript (thn (hv pins s σ H _ I h) fun r s1 ⟨v,H1,I1,rv,q1⟩=>thn (ho pins s1 σ H1 _ I1 q1) fun u s2 ⟨x,H2,I2,rx,q2⟩=>thn (hi pins s2 σ H2 _ I2 q2) fun iv s3 ⟨y,H3,I3,ry,a,H4,ex,g,q3⟩=>?_) hs;subst ex;obtain rfl:u=Value.ref a:=rx;exact a5v hu I3 g ry rv fun s4 I4=>⟨σ,H4,I4,q3⟩
end
theorem a2N {P:Program}{w:World}{H:Hp}(h:Heap)(hb:sysModules<h.objs.size):ObjOk P w H (h.push {cls:=.type "dict",data:=.dict #[]}) h.objs.size (.dK []):=
 ⟨jR _,beq_eq_false_iff_ne.mpr (qX (zY hb)),[],.nil,_, #[],zW _ rfl,⟨rfl,rfl,rfl⟩,rfl,fun _ he=>by simp at he,Pairs.nil,nodup_nil⟩
theorem a7B {P:Program}{w:World}{H:Hp}(h:Heap)(hb:sysModules<h.objs.size):ObjOk P w H (h.push {cls:=.type "dict",data:=.dict #[]}) h.objs.size (.dT []):=
 ⟨jR _,beq_eq_false_iff_ne.mpr (qX (zY hb)),[],.nil,_, #[],zW _ rfl,⟨rfl,rfl,rfl⟩,rfl,rfl,nodup_nil⟩
def tDNewK:TE:=fun _ H Q=>∀p,H p=none->Q (.ref p) (upd H p (.dK []))
section
variable {X:Cx}{pos:Pos}
theorem a7Q:PE X (.Dict [] [] pos) tDNewK:=fun pins s σ H Q I h=>
 wpAny_Dict_empty ⟨.ref s.heap.objs.size,_,I.laid (a:=s.heap.objs.size) (o:=.dK []) (t':=s.toks) (fun _ _ q=>zD _ q) (zF _) (a2N s.heap I.big),rfl,h _ (I.hok.fresh (zF _))⟩
end
end L2
set_option maxHeartbeats 1000000
namespace Z
open PySem PySem.Spec PyProof.Rows L2
theorem obs {α β:Type}{o:Option α}{k:α->Option β}{y:β}(h:o.bind k=some y):∃a,o=some a/\k a=some y:=Option.bind_eq_some_iff.mp h
theorem oms {α β:Type}{o:Option α}{k:α->β}{y:β}(h:o.map k=some y):∃a,o=some a/\k a=y:=Option.map_eq_some_iff.mp h
set_option genInjectivity true in
inductive D where
 | non|bl (b:Bool)|int (i:Int)|str (x:Str)|tup (xs:List D)|lst (xs:List D)|dT (ks:List (List Key)) (xs:List D)|dK (ks:List Key) (xs:List D)|exn (C:Addr)
set_option genInjectivity true in
inductive W where
 | v (d:D)|o (d:D)|l (d:D)|r (i:Nat)
abbrev Ev:=List (Option W)
abbrev Av:=Addr->Prop
def ExcAt (a C:Addr) (h:Heap):Prop:=∃o vs,h.get? a=some o/\o.cls= .ref C/\o.data= .fields vs
def Mu:HO->Prop
 | .lst _=>True
 | .dT _=>True
 | .dK _=>True
 | _=>False
abbrev Emp:Hp:=fun _=>none
mutual
def Den (K:PySem.W.Frag) (A:Av) (H:Hp):D->V->Prop
 | .non,v=>v= .non
 | .bl b,v=>v= .bl b
 | .int i,v=>v= .int i
 | .str x,v=>v= .str x
 | .tup xs,v=>∃a vs,v= .ref a/\SqT K H a vs/\DenL K A H xs vs
 | .lst xs,v=>∃a vs,v= .ref a/\((H a=some (.lst vs)/\¬A a)\/(∃o,H a=some (.frz o (.lst vs)))\/SqL K Emp a vs)/\DenL K A H xs vs
 | .dT ks xs,v=>∃a vs,v= .ref a/\(H a=some (.dT (ks.zip vs))/\¬A a)/\ks.length=xs.length/\DenL K A H xs vs
 | .dK ks xs,v=>∃a vs,v= .ref a/\(H a=some (.dK (ks.zip vs))/\¬A a)/\ks.length=xs.length/\DenL K A H xs vs
 | .exn C,v=>∃a,v= .ref a/\H a=some (.ext (ExcAt a C))
def DenL (K:PySem.W.Frag) (A:Av) (H:Hp):List D->List V->Prop
 | [],vs=>vs=[]
 | d::ds,vs=>∃v r,vs=v::r/\Den K A H d v/\DenL K A H ds r
end
section
variable {K:PySem.W.Frag}{A A' M:Av}{H H':Hp}
structure Go (A A' M:Av) (H H':Hp):Prop where
 k:∀b o,H b=some o->¬M b->H' b=some o
 m:∀b,M b->A b/\∃u,H b=some u/\Mu u
 n:∀b,A' b->A b\/H b=none
theorem Go.not (g:Go A A' M H H'){b:Addr}{u:HO}(e:H b=some u)(n:¬Mu u):H' b=some u:=g.k b u e fun z=>by
 obtain⟨_,u',e',m⟩:=g.m b z;rw[e] at e';cases e';exact n m
theorem Go.lone (g:Go A A' M H H'){b:Addr}{u:HO}(h:H b=some u/\¬A b):H' b=some u/\¬A' b:=
 ⟨g.k b u h.1 fun z=>h.2 (g.m b z).1,fun z=>(g.n b z).elim h.2 fun z=>by rw[h.1] at z;cases z⟩
mutual
theorem l7 (g:Go A A' M H H'):∀(d:D) (v:V),Den K A H d v->Den K A' H' d v
 | .non,v,h=>by rw[Den] at h ⊢;exact h
 | .bl b,v,h=>by rw[Den] at h ⊢;exact h
 | .int i,v,h=>by rw[Den] at h ⊢;exact h
 | .str x,v,h=>by rw[Den] at h ⊢;exact h
 | .tup xs,v,h=>by
  rw[Den] at h ⊢;obtain⟨a,vs,e,q,l⟩:=h;refine⟨a,vs,e,?_,n6 g xs vs l⟩;rcases q with (q|⟨o,q⟩)|q
  ·exact .inl (.inl (g.not q id))
  ·exact .inl (.inr ⟨o,g.not q id⟩)
  ·exact .inr q
 | .lst xs,v,h=>by
  rw[Den] at h ⊢;obtain⟨a,vs,e,q,l⟩:=h;refine⟨a,vs,e,?_,n6 g xs vs l⟩;rcases q with q|⟨o,q⟩|q
  ·exact .inl (g.lone q)
  ·exact .inr (.inl ⟨o,g.not q id⟩)
  ·exact .inr (.inr q)
 | .dT ks xs,v,h=>by
  rw[Den] at h ⊢;obtain⟨a,vs,e,q,hl,l⟩:=h;exact⟨a,vs,e,g.lone q,hl,n6 g xs vs l⟩
 | .dK ks xs,v,h=>by
  rw[Den] at h ⊢;obtain⟨a,vs,e,q,hl,l⟩:=h;exact⟨a,vs,e,g.lone q,hl,n6 g xs vs l⟩
 | .exn C,v,h=>by
  rw[Den] at h ⊢;obtain⟨a,e,q⟩:=h;exact⟨a,e,g.not q id⟩
theorem n6 (g:Go A A' M H H'):∀(ds:List D) (vs:List V),DenL K A H ds vs->DenL K A' H' ds vs
 | [],vs,h=>by rw[DenL] at h ⊢;exact h
 | d::ds,vs,h=>by
  rw[DenL] at h ⊢;obtain⟨v,r,e,q,l⟩:=h;exact⟨v,r,e,l7 g d v q,n6 g ds r l⟩
end
theorem a16 (s:Same H H'):Go A A (fun _=>False) H H':=⟨fun b o e _=>s b o e,fun _ z=>z.elim,fun _ z=>.inl z⟩
theorem p7 (h:∀b,A' b->A b):Go A A' (fun _=>False) H H:=⟨fun _ _ e _=>e,fun _ z=>z.elim,fun b z=>.inl (h b z)⟩
theorem S1 (s:Same H H'){d:D}{v:V}(h:Den K A H d v):Den K A H' d v:=l7 (a16 s) d v h
theorem a5x (s:Same H H'){d:List D}{v:List V}(h:DenL K A H d v):DenL K A H' d v:=n6 (a16 s) d v h
theorem g7 {d:D}{ds:List D}{v:V}{vs:List V}(h:Den K A H d v)(t:DenL K A H ds vs):DenL K A H (d::ds) (v::vs):=by rw[DenL];exact⟨v,vs,rfl,h,t⟩
theorem j3:DenL K A H [] []:=by rw[DenL]
theorem p5:∀{ds es:List D} {vs ws:List V},DenL K A H ds vs->DenL K A H es ws->DenL K A H (ds++es) (vs++ws)
 | [],_,_,_,h,t=>by rw[DenL] at h;subst h;exact t
 | d::ds,_,_,_,h,t=>by
  rw[DenL] at h;obtain⟨v,r,rfl,q,l⟩:=h;exact g7 q (p5 l t)
theorem b8:∀{ds:List D} {vs:List V},DenL K A H ds vs->ds.length=vs.length
 | [],_,h=>by rw[DenL] at h;subst h;rfl
 | d::ds,_,h=>by
  rw[DenL] at h;obtain⟨v,r,rfl,q,l⟩:=h;rw[qC,qC,b8 l]
theorem t8:∀{ds:List D} {vs:List V} {i:Nat} {d:D},DenL K A H ds vs->ds[i]? =some d->∃v,vs[i]? =some v/\Den K A H d v
 | [],_,_,_,_,e=>by simp at e
 | d::ds,_,0,_,h,e=>by
  rw[DenL] at h;obtain⟨v,r,rfl,q,l⟩:=h;simp at e;subst e;exact⟨v,rfl,q⟩
 | d::ds,_,i+1,x,h,e=>by
  rw[DenL] at h;obtain⟨v,r,rfl,q,l⟩:=h;obtain⟨u,h1,h2⟩:=t8 (i:=i) (d:=x) l (by simpa using e)
  exact⟨u,by simpa using h1,h2⟩
theorem a20 {d:D}{v:V}(hd:Den K A H d v):∀{ds:List D} {vs:List V} (i:Nat),DenL K A H ds vs->DenL K A H (ds.set i d) (vs.set i v)
 | [],_,_,h=>by rw[DenL] at h;subst h;exact j3
 | _::_,_,0,h=>by
  rw[DenL] at h;obtain⟨v,r,rfl,q,l⟩:=h;exact g7 hd l
 | _::_,_,i+1,h=>by
  rw[DenL] at h;obtain⟨v,r,rfl,q,l⟩:=h;exact g7 q (a20 hd i l)
theorem a1l:∀{ds:List D} {vs:List V} (n:Nat),DenL K A H ds vs->DenL K A H (ds.take n) (vs.take n)
 | [],_,n,h=>by rw[DenL] at h;subst h;simp;exact j3
 | d::ds,_,0,h=>by simp;exact j3
 | d::ds,_,n+1,h=>by
  rw[DenL] at h;obtain⟨v,r,rfl,q,l⟩:=h;exact g7 q (a1l n l)
theorem a1A:∀{ds:List D} {vs:List V} (n:Nat),DenL K A H ds vs->DenL K A H (ds.drop n) (vs.drop n)
 | [],_,n,h=>by rw[DenL] at h;subst h;simp;exact j3
 | d::ds,_,0,h=>h
 | d::ds,_,n+1,h=>by
  rw[DenL] at h;obtain⟨v,r,rfl,q,l⟩:=h;exact a1A n l
theorem v6 {i:Int}{v:V}:Den K A H (.int i) v↔v= .int i:=by rw[Den]
theorem W6 {i:Bool}{v:V}:Den K A H (.bl i) v↔v= .bl i:=by rw[Den]
theorem a9u {v:V}:Den K A H .non v↔v= .non:=by rw[Den]
theorem Z8 {i:Str}{v:V}:Den K A H (.str i) v↔v= .str i:=by rw[Den]
theorem denL1 {d:D}{vs:List V}(l:DenL K A H [d] vs):∃v,vs=[v]/\Den K A H d v:=by
 rw[DenL] at l;obtain⟨v,r,rfl,h,l⟩:=l;rw[DenL] at l;subst l;exact⟨v,rfl,h⟩
theorem denL2 {d e:D}{vs:List V}(l:DenL K A H [d,e] vs):∃v u,vs=[v,u]/\Den K A H d v/\Den K A H e u:=by
 rw[DenL] at l;obtain⟨v,r,rfl,h,l⟩:=l;obtain⟨u,rfl,h'⟩:=denL1 l;exact⟨v,u,rfl,h,h'⟩
end
mutual
def lf:D->Bool
 | .tup xs=>lfL xs
 | .lst _=>false
 | .dT _ _=>false
 | .dK _ _=>false
 | _=>true
def lfL:List D->Bool
 | []=>true
 | d::ds=>lf d&&lfL ds
end
section
variable {K:PySem.W.Frag}{A A':Av}{H H':Hp}
mutual
theorem a3T (g:∀b o,H b=some o->¬Mu o->H' b=some o):∀(d:D) (v:V),lf d=true->Den K A H d v->Den K A' H' d v
 | .non,v,_,h=>by rw[Den] at h ⊢;exact h
 | .bl b,v,_,h=>by rw[Den] at h ⊢;exact h
 | .int i,v,_,h=>by rw[Den] at h ⊢;exact h
 | .str x,v,_,h=>by rw[Den] at h ⊢;exact h
 | .tup xs,v,f,h=>by
  rw[Den] at h ⊢;obtain⟨a,vs,e,q,l⟩:=h;refine⟨a,vs,e,?_,S0 g xs vs (by rw[lf] at f;exact f) l⟩
  rcases q with (q|⟨o,q⟩)|q
  ·exact .inl (.inl (g _ _ q id))
  ·exact .inl (.inr ⟨o,g _ _ q id⟩)
  ·exact .inr q
 | .lst xs,v,f,h=>by rw[lf] at f;cases f
 | .dT _ xs,v,f,h=>by rw[lf] at f;cases f
 | .dK _ xs,v,f,h=>by rw[lf] at f;cases f
 | .exn _,v,_,h=>by rw[Den] at h ⊢;obtain⟨a,e,q⟩:=h;exact⟨a,e,g _ _ q id⟩
theorem S0 (g:∀b o,H b=some o->¬Mu o->H' b=some o):∀(d:List D) (v:List V),lfL d=true->DenL K A H d v->DenL K A' H' d v
 | [],v,_,h=>by rw[DenL] at h ⊢;exact h
 | d::ds,v,f,h=>by
  rw[lfL,qF] at f;rw[DenL] at h ⊢;obtain⟨u,r,e,q,l⟩:=h;exact⟨u,r,e,a3T g d u f.1 q,S0 g ds r f.2 l⟩
end
end
def Obj (K:PySem.W.Frag) (A:Av) (H:Hp) (a:Addr):D->Prop
 | .lst xs=>∃vs,H a=some (.lst vs)/\DenL K A H xs vs
 | .dT ks xs=>∃vs,H a=some (.dT (ks.zip vs))/\ks.length=xs.length/\DenL K A H xs vs
 | .dK ks xs=>∃vs,H a=some (.dK (ks.zip vs))/\ks.length=xs.length/\DenL K A H xs vs
 | _=>False
def DenR (K:PySem.W.Frag) (A:Av) (H:Hp):D->V->Prop
 | .lst xs,v=>∃a vs,v= .ref a/\SqL K H a vs/\DenL K A H xs vs
 | .dT ks xs,v=>∃a vs,v= .ref a/\H a=some (.dT (ks.zip vs))/\ks.length=xs.length/\DenL K A H xs vs
 | .dK ks xs,v=>∃a vs,v= .ref a/\H a=some (.dK (ks.zip vs))/\ks.length=xs.length/\DenL K A H xs vs
 | d,v=>Den K A H d v
section
variable {K:PySem.W.Frag}{A A' M:Av}{H H':Hp}{d:D}{v:V}{a:Addr}
theorem t3 (g:Go A A' M H H')(hk:H' a=H a)(h:Obj K A H a d):Obj K A' H' a d:=by
 cases d with
 | lst xs=>obtain⟨vs,e,l⟩:=h;exact⟨vs,hk.trans e,n6 g _ _ l⟩
 | dT ks xs=>obtain⟨vs,e,hl,l⟩:=h;exact⟨vs,hk.trans e,hl,n6 g _ _ l⟩
 | dK ks xs=>obtain⟨vs,e,hl,l⟩:=h;exact⟨vs,hk.trans e,hl,n6 g _ _ l⟩
 | _=>exact h
theorem C1 (h:Obj K A H a d):∃u,H a=some u/\Mu u:=by
 cases d with
 | lst xs=>obtain⟨vs,e,l⟩:=h;exact⟨_,e,trivial⟩
 | dT ks xs=>obtain⟨vs,e,hl,l⟩:=h;exact⟨_,e,trivial⟩
 | dK ks xs=>obtain⟨vs,e,hl,l⟩:=h;exact⟨_,e,trivial⟩
 | _=>exact h.elim
theorem T2 (h:Obj K A H a d)(n:¬A a):Den K A H d (.ref a):=by
 cases d with
 | lst xs=>obtain⟨vs,e,l⟩:=h;rw[Den];exact⟨a,vs,rfl,.inl ⟨e,n⟩,l⟩
 | dT ks xs=>obtain⟨vs,e,hl,l⟩:=h;rw[Den];exact⟨a,vs,rfl,⟨e,n⟩,hl,l⟩
 | dK ks xs=>obtain⟨vs,e,hl,l⟩:=h;rw[Den];exact⟨a,vs,rfl,⟨e,n⟩,hl,l⟩
 | _=>exact h.elim
theorem obj_r (h:Obj K A H a d):DenR K A H d (.ref a):=by
 cases d with
 | lst xs=>obtain⟨vs,e,l⟩:=h;exact⟨a,vs,rfl,.inl (.inl e),l⟩
 | dT ks xs=>obtain⟨vs,e,hl,l⟩:=h;exact⟨a,vs,rfl,e,hl,l⟩
 | dK ks xs=>obtain⟨vs,e,hl,l⟩:=h;exact⟨a,vs,rfl,e,hl,l⟩
 | _=>exact h.elim
theorem B3 (h:Den K A H d v):DenR K A H d v:=by
 cases d with
 | lst xs=>
  rw[Den] at h;obtain⟨a,vs,e,q,l⟩:=h;refine⟨a,vs,e,?_,l⟩;rcases q with q|⟨o,q⟩|(q|⟨o,q⟩)|q
  ·exact .inl (.inl q.1)
  ·exact .inl (.inr ⟨o,q⟩)
  ·cases q
  ·cases q
  ·exact .inr q
 | dT ks xs=>rw[Den] at h;obtain⟨a,vs,e,q,l⟩:=h;exact⟨a,vs,e,q.1,l⟩
 | dK ks xs=>rw[Den] at h;obtain⟨a,vs,e,q,l⟩:=h;exact⟨a,vs,e,q.1,l⟩
 | _=>exact h
end
def W.own:W->Option D
 | .o d=>some d
 | .l d=>some d
 | _=>none
def Ow (ρ:Ev) (σ:L2.St):Av:=fun b=>∃(i:Nat) (w:W) (d:D),ρ[i]? =some (some w)/\w.own=some d/\σ[i]? =some (some (V.ref b))
abbrev AvO (O:Av) (ρ:Ev) (σ:L2.St):Av:=fun b=>O b\/Ow ρ σ b
def SlotOk (K:PySem.W.Frag) (A:Av) (H:Hp):W->V->Prop
 | .v d,v=>Den K A H d v
 | .o d,v=>∃a,v= .ref a/\Obj K A H a d
 | .l d,v=>∃a,v= .ref a/\Obj K A H a d
 | .r _,_=>False
def hz (X:Cx) (L:List (Option Nat×Addr)):Hp:=fun b=>if(none,b)∈L then none else X.H₀ b
structure Rep (X:Cx) (P:List (D×V)) (O:Av) (L:List (Option Nat×Addr)) (ρ:Ev) (σ:L2.St) (H:Hp):Prop where
 same:∀b o,X.H₀ b=some o->(∀i,(i,b)∉L)->H b=some o
 amb:∀b,O b->(∃o,X.H₀ b=some o)/\∀i,(i,b)∉L
 len:ρ.length=σ.length
 slot:∀(i:Nat) (w:W),ρ[i]? =some (some w)->∃v,σ[i]? =some (some v)/\SlotOk X.K (AvO O ρ σ) H w v
 inj:∀(i j:Nat) (w w':W) (d d':D) (b:Addr),ρ[i]? =some (some w)->w.own=some d->σ[i]? =some (some (.ref b))->ρ[j]? =some (some w')->w'.own=some d'->σ[j]? =some (some (.ref b))->i=j
 new:∀(i:Nat) (d:D) (b:Addr),ρ[i]? =some (some (.o d))->σ[i]? =some (some (.ref b))->hz X L b=none
 lnt:∀(i:Nat) (d:D),ρ[i]? =some (some (.l d))->∃b,σ[i]? =some (some (.ref b))/\(some i,b)∈L
 lnd:∀(i:Nat) (b:Addr),(some i,b)∈L->∃d,ρ[i]? =some (some (.l d))/\σ[i]? =some (some (.ref b))
 prot:∀p∈P,Den X.K (AvO O ρ σ) H p.1 p.2
 gvl:∀b,(none,b)∈L->∃(i:Nat) (a:Addr),(some i,a)∈L
section
variable {X:Cx}{P:List (D×V)}{O:Av}{L:List (Option Nat×Addr)}{ρ:Ev}{σ:L2.St}{H H':Hp}
theorem a3A {K:PySem.W.Frag}{A:Av}{H:Hp}{w:W}{d:D}{v:V}(h:SlotOk K A H w v)(e:w.own=some d):∃a,v= .ref a/\Obj K A H a d:=by
 cases w<;>simp only[W.own] at e<;>first|(cases e;exact h)|cases e
theorem Rep.obj (r:Rep X P O L ρ σ H){i:Nat}{w:W}{d:D}(e:ρ[i]? =some (some w))(ew:w.own=some d):∃a,σ[i]? =some (some (.ref a))/\Obj X.K (AvO O ρ σ) H a d:=by
 obtain⟨v,h1,h2⟩:=r.slot i w e;obtain⟨a,rfl,h3⟩:=a3A h2 ew;exact⟨a,h1,h3⟩
theorem Rep.owMu (r:Rep X P O L ρ σ H){b:Addr}(z:Ow ρ σ b):∃u,H b=some u/\Mu u:=by
 obtain⟨i,w,d,e1,e2,e3⟩:=z;obtain⟨a,h1,h2⟩:=r.obj e1 e2;rw[e3] at h1;cases h1;exact C1 h2
theorem Rep.ambN (r:Rep X P O L ρ σ H){b:Addr}(z:O b):¬Ow ρ σ b:=fun⟨i,w,d,e1,e2,e3⟩=>by
 obtain⟨⟨o,h0⟩,hl⟩:=r.amb b z;cases w with
 | o d'=>have:=r.new i d' b e1 e3;unfold hz at this;rw[if_neg (hl none),h0] at this;cases this
 | l d'=>obtain⟨c,h1,h2⟩:=r.lnt i d' e1;rw[e3] at h1;cases h1;exact hl (some i) h2
 | _=>cases e2
theorem Rep.there (r:Rep X P O L ρ σ H){b:Addr}(z:AvO O ρ σ b):∃o,H b=some o:=by
 rcases z with z|z
 ·obtain⟨⟨o,h0⟩,hl⟩:=r.amb b z;exact⟨o,r.same b o h0 hl⟩
 ·obtain⟨u,e,_⟩:=r.owMu z;exact⟨u,e⟩
theorem Rep.fresh (r:Rep X P O L ρ σ H){b:Addr}(n:H b=none):¬AvO O ρ σ b:=fun z=>by obtain⟨o,e⟩:=r.there z;rw[n] at e;cases e
theorem Rep.fresh0 (r:Rep X P O L ρ σ H){b:Addr}(n:H b=none):hz X L b=none:=by
 unfold hz
 split
 ·rfl
 ·rename_i hg;cases q:X.H₀ b with
  | none=>rfl
  | some o=>
   have:H b=some o:=r.same b o q fun i e=>by
    cases i with
    | none=>exact hg e
    | some i=>
     obtain⟨d,h1,h2⟩:=r.lnd i b e;obtain⟨a,h3,h4⟩:=r.obj h1 rfl;rw[h2] at h3;cases h3;obtain⟨u,e,_⟩:=C1 h4;rw[n] at e;cases e
   rw[n] at this;cases this
theorem F2 {K:PySem.W.Frag}{A A' M:Av}{H H':Hp}(g:Go A A' M H H'){w:W}{v:V}(hk:∀a d,w.own=some d->v= .ref a->H' a=H a)(h:SlotOk K A H w v):SlotOk K A' H' w v:=by
 cases w with
 | v d=>exact l7 g _ _ h
 | o d=>obtain⟨a,e,q⟩:=h;exact⟨a,e,t3 g (hk a d rfl e) q⟩
 | l d=>obtain⟨a,e,q⟩:=h;exact⟨a,e,t3 g (hk a d rfl e) q⟩
 | r i=>exact h
theorem Rep.grow (r:Rep X P O L ρ σ H)(s:Same H H'):Rep X P O L ρ σ H' where
 same:=fun b o e hl=>s b o (r.same b o e hl)
 amb:=r.amb
 len:=r.len
 slot:=fun i w e=>by
  obtain⟨v,h1,h2⟩:=r.slot i w e;refine⟨v,h1,F2 (a16 s) (fun a d ew ev=>?_) h2⟩;subst ev;obtain⟨b,h3,h4⟩:=r.obj e ew;rw[h1] at h3;cases h3;obtain⟨u,eu,_⟩:=C1 h4;rw[eu,s _ _ eu]
 inj:=r.inj
 new:=r.new
 lnt:=r.lnt
 lnd:=r.lnd
 prot:=fun p hp=>S1 s (r.prot p hp)
 gvl:=r.gvl
theorem Rep.more {p:D×V}(r:Rep X P O L ρ σ H)(h:Den X.K (AvO O ρ σ) H p.1 p.2):Rep X (p::P) O L ρ σ H:=
 ⟨r.same,r.amb,r.len,r.slot,r.inj,r.new,r.lnt,r.lnd,fun q hq=>(zK.mp hq).elim (fun e=>by rw[e];exact h) (r.prot q),r.gvl⟩
theorem Rep.less {p:D×V}(r:Rep X (p::P) O L ρ σ H):Rep X P O L ρ σ H:=
 ⟨r.same,r.amb,r.len,r.slot,r.inj,r.new,r.lnt,r.lnd,fun q hq=>r.prot q (zJ _ hq),r.gvl⟩
theorem Rep.head {p:D×V}(r:Rep X (p::P) O L ρ σ H):Den X.K (AvO O ρ σ) H p.1 p.2:=r.prot p zG
theorem m3 {α:Type}{l:List α}{i j:Nat}{x y:α}(e:(l.set i x)[j]? =some y):(j=i/\y=x/\i<l.length)\/(j≠i/\l[j]? =some y):=by
 by_cases q:i=j
 ·subst q;rw[getElem?_set,if_pos rfl] at e;split at e
  ·cases e;rename_i h;exact .inl ⟨rfl,rfl,h⟩
  ·cases e
 ·rw[zU q] at e;exact .inr ⟨qX q,e⟩
theorem z5 {α:Type}{l:List α}{i:Nat}{x:α}(h:i<l.length):(l.set i x)[i]? =some x:=by rw[getElem?_set,if_pos rfl,if_pos h]
def freeSlot (ρ:Ev) (i:Nat):Bool:=match ρ[i]? with
 | some (some (.l _))=>false
 | _=>true
theorem Rep.put (r:Rep X P O L ρ σ H){i:Nat}{d:D}{v:V}(hf:freeSlot ρ i=true)(h:Den X.K (AvO O ρ σ) H d v):Rep X P O L (ρ.set i (some (.v d))) (σ.set i (some v)) H:=by
 have sub:∀b,AvO O (ρ.set i (some (.v d))) (σ.set i (some v)) b->AvO O ρ σ b:=fun b z=>by
  rcases z with z|⟨j,w,c,e1,e2,e3⟩
  ·exact .inl z
  ·rcases m3 e1 with ⟨rfl,z,_⟩|⟨n,e1⟩
   ·cases z;cases e2
   ·rw[zU (qX n)] at e3;exact .inr ⟨j,w,c,e1,e2,e3⟩
 have g:=p7 (H:=H) sub;have st:∀{j:Nat} {w:W} {c:D},(ρ.set i (some (.v d)))[j]? =some (some w)->w.own=some c->j≠i/\ρ[j]? =some (some w):=fun{j w c} e1 e2=>by
  rcases m3 e1 with ⟨rfl,z,_⟩|z
  ·cases z;cases e2
  ·exact z
 refine⟨r.same,r.amb,by rw[qK,qK];exact r.len,fun j w e=>?_,fun j k w w' c c' b e1 e2 e3 e4 e5 e6=>?_,fun j c b e1 e2=>?_,fun j c e=>?_,fun j b e=>?_,fun p hp=>l7 g _ _ (r.prot p hp),r.gvl⟩
 ·rcases m3 e with ⟨rfl,z,hl⟩|⟨n,e⟩
  ·cases z;exact⟨v,z5 (by rw[<-r.len];exact hl),l7 g _ _ h⟩
  ·obtain⟨u,h1,h2⟩:=r.slot j w e;exact⟨u,by rw[zU (qX n)];exact h1,F2 g (fun _ _ _ _=>rfl) h2⟩
 ·obtain⟨n1,e1⟩:=st e1 e2;obtain⟨n2,e4⟩:=st e4 e5;rw[zU (qX n1)] at e3;rw[zU (qX n2)] at e6;exact r.inj j k w w' c c' b e1 e2 e3 e4 e5 e6
 ·obtain⟨n1,e1⟩:=st (c:=c) e1 rfl;rw[zU (qX n1)] at e2;exact r.new j c b e1 e2
 ·obtain⟨n1,e1⟩:=st (c:=c) e rfl;rw[zU (qX n1)];exact r.lnt j c e1
 ·obtain⟨c,h1,h2⟩:=r.lnd j b e;have n:i≠j:=fun z=>by subst z;unfold freeSlot at hf;rw[h1] at hf;cases hf
  exact⟨c,by rw[zU n];exact h1,by rw[zU n];exact h2⟩
theorem Rep.putO (r:Rep X P O L ρ σ H)(s:Same H H'){i:Nat}{d:D}{a:Addr}(hf:freeSlot ρ i=true)(hn:H a=none)(h:Obj X.K (fun b=>AvO O ρ σ b\/b=a) H' a d):Rep X P O L (ρ.set i (some (.o d))) (σ.set i (some (.ref a))) H':=by
 have nA:=r.fresh hn;have sub:∀b,AvO O (ρ.set i (some (.o d))) (σ.set i (some (.ref a))) b->AvO O ρ σ b\/b=a:=fun b z=>by
  rcases z with z|⟨j,w,c,e1,e2,e3⟩
  ·exact .inl (.inl z)
  ·rcases m3 e1 with ⟨rfl,z,hl⟩|⟨n,e1⟩
   ·rw[z5 (by rw[<-r.len];exact hl)] at e3;cases e3;exact .inr rfl
   ·rw[zU (qX n)] at e3;exact .inl (.inr ⟨j,w,c,e1,e2,e3⟩)
 have g:Go (AvO O ρ σ) (AvO O (ρ.set i (some (.o d))) (σ.set i (some (.ref a)))) (fun _=>False) H H':=⟨fun b o e _=>s b o e,fun _ z=>z.elim,fun b z=>(sub b z).imp id fun z=>by rw[z];exact hn⟩
 have old:∀{j:Nat} {w:W} {b:Addr},ρ[j]? =some (some w)->σ[j]? =some (some (.ref b))->w.own≠none->b≠a:=fun{j w b} e1 e2 e3 z=>by
  cases q:w.own with
  | none=>exact e3 q
  | some c=>exact nA (.inr ⟨j,w,c,e1,q,by rw[<-z];exact e2⟩)
 refine⟨fun b o e hl=>s b o (r.same b o e hl),r.amb,by rw[qK,qK];exact r.len,fun j w e=>?_,fun j k w w' c c' b e1 e2 e3 e4 e5 e6=>?_,fun j c b e1 e2=>?_,fun j c e=>?_,fun j b e=>?_,fun p hp=>l7 g _ _ (r.prot p hp),r.gvl⟩
 ·rcases m3 e with ⟨rfl,z,hl⟩|⟨n,e⟩
  ·cases z;exact⟨.ref a,z5 (by rw[<-r.len];exact hl),a,rfl,t3 (p7 sub) rfl h⟩
  ·obtain⟨u,h1,h2⟩:=r.slot j w e;refine⟨u,by rw[zU (qX n)];exact h1,F2 g (fun b c ec eb=>?_) h2⟩
   subst eb;obtain⟨o,eo,_⟩:=r.owMu ⟨j,w,c,e,ec,h1⟩;rw[eo,s _ _ eo]
 ·rcases m3 e1 with ⟨rfl,z,hl⟩|⟨n1,e1⟩
  ·rw[z5 (by rw[<-r.len];exact hl)] at e3;cases e3
   rcases m3 e4 with ⟨rfl,_,_⟩|⟨n2,e4⟩
   ·rfl
   ·rw[zU (qX n2)] at e6;exact absurd rfl (old e4 e6 (by rw[e5];exact nofun))
  ·rw[zU (qX n1)] at e3;have f1:=old e1 e3 (by rw[e2];exact nofun)
   rcases m3 e4 with ⟨rfl,_,hl⟩|⟨n2,e4⟩
   ·rw[z5 (by rw[<-r.len];exact hl)] at e6;cases e6
    exact absurd rfl f1
   ·rw[zU (qX n2)] at e6;exact r.inj j k w w' c c' b e1 e2 e3 e4 e5 e6
 ·rcases m3 e1 with ⟨rfl,z,hl⟩|⟨n1,e1⟩
  ·rw[z5 (by rw[<-r.len];exact hl)] at e2;cases e2;exact r.fresh0 hn
  ·rw[zU (qX n1)] at e2;exact r.new j c b e1 e2
 ·rcases m3 e with ⟨rfl,z,hl⟩|⟨n1,e⟩
  ·cases z
  ·rw[zU (qX n1)];exact r.lnt j c e
 ·obtain⟨c,h1,h2⟩:=r.lnd j b e;have n:i≠j:=fun z=>by subst z;unfold freeSlot at hf;rw[h1] at hf;cases hf
  exact⟨c,by rw[zU n];exact h1,by rw[zU n];exact h2⟩
def setOwn (ρ:Ev) (i:Nat) (d:D):Ev:=match ρ[i]? with
 | some (some (.l _))=>ρ.set i (some (.l d))
 | _=>ρ.set i (some (.o d))
def ownAt (ρ:Ev) (i:Nat):Option D:=match ρ[i]? with
 | some (some w)=>w.own
 | _=>none
theorem m9 {ρ:Ev}{i:Nat}{c:D}(e:ownAt ρ i=some c):∃w,ρ[i]? =some (some w)/\w.own=some c:=by
 unfold ownAt at e;split at e
 ·rename_i w q;exact⟨w,q,e⟩
 ·cases e
theorem P2 {ρ:Ev}{i:Nat}{c d:D}(e:ownAt ρ i=some c):∃w,w.own=some d/\setOwn ρ i d=ρ.set i (some w)/\((∃x,w= .l x)↔∃x,ρ[i]? =some (some (.l x))):=by
 obtain⟨w,q,e⟩:=m9 e;unfold setOwn;cases w with
 | v d=>cases e
 | r d=>cases e
 | o x=>rw[q];exact⟨.o d,rfl,rfl,by simp⟩
 | l x=>rw[q];exact⟨.l d,rfl,rfl,by simp⟩
theorem N7 {ρ:Ev}{σ:L2.St}{i:Nat}{c d:D}(e:ownAt ρ i=some c)(b:Addr):Ow (setOwn ρ i d) σ b↔Ow ρ σ b:=by
 obtain⟨w,h1,h2,_⟩:=P2 (d:=d) e;obtain⟨w0,q,e0⟩:=m9 e;rw[h2];constructor
 ·rintro⟨j,w',c',e1,e2,e3⟩;rcases m3 e1 with ⟨rfl,z,_⟩|⟨n,e1⟩
  ·exact⟨j,w0,c,q,e0,e3⟩
  ·exact⟨j,w',c',e1,e2,e3⟩
 ·rintro⟨j,w',c',e1,e2,e3⟩
  by_cases n:j=i
  ·subst n;exact⟨j,w,d,z5 (zQ.mp q).1,h1,e3⟩
  ·exact⟨j,w',c',by rw[zU (qX n)];exact e1,e2,e3⟩
theorem Rep.mut (r:Rep X P O L ρ σ H){i:Nat}{a:Addr}{c d:D}(e:ownAt ρ i=some c)(ea:σ[i]? =some (some (.ref a)))(hk:∀b o,H b=some o->b≠a->H' b=some o)(h:Obj X.K (AvO O ρ σ) H' a d):
  Rep X P O L (setOwn ρ i d) σ H':=by
 obtain⟨w,h1,h2,h3⟩:=P2 (d:=d) e;obtain⟨w0,q,e0⟩:=m9 e;have av:AvO O (setOwn ρ i d) σ=AvO O ρ σ:=funext fun b=>propext (or_congr Iff.rfl (N7 e b));have ma:Ow ρ σ a:=⟨i,w0,c,q,e0,ea⟩;have g:Go (AvO O ρ σ) (AvO O ρ σ) (fun b=>b=a) H H':=⟨hk,fun b z=>by rw[z];exact⟨.inr ma,r.owMu ma⟩,fun b z=>.inl z⟩
 have st:∀{j:Nat} {w':W} {c':D},(setOwn ρ i d)[j]? =some (some w')->w'.own=some c'->∃w'' c'',ρ[j]? =some (some w'')/\w''.own=some c'':=fun{j w' c'} e1 e2=>by
  rw[h2] at e1;rcases m3 e1 with ⟨rfl,_,_⟩|⟨_,e1⟩
  ·exact⟨w0,c,q,e0⟩
  ·exact⟨w',c',e1,e2⟩
 refine⟨fun b o eb hl=>hk b o (r.same b o eb hl) fun z=>?_,r.amb,by rw[h2,qK];exact r.len,fun j w' e'=>?_,fun j k w1 w2 c1 c2 b e1 e2 e3 e4 e5 e6=>?_,fun j c' b e1 e2=>?_,fun j c' e'=>?_,fun j b e'=>?_,fun p hp=>by rw[av];exact l7 g _ _ (r.prot p hp),r.gvl⟩
 ·subst z;cases w0 with
  | o x=>have:=r.new i x b q ea;unfold hz at this;rw[if_neg (hl none),eb] at this;cases this
  | l x=>obtain⟨c',q1,q2⟩:=r.lnt i x q;rw[ea] at q1;cases q1;exact hl (some i) q2
  | _=>cases e0
 ·rw[av];rw[h2] at e';rcases m3 e' with ⟨rfl,z,_⟩|⟨n,e'⟩
  ·cases z;refine⟨.ref a,ea,?_⟩;cases w with
   | o x=>cases h1;exact⟨a,rfl,h⟩
   | l x=>cases h1;exact⟨a,rfl,h⟩
   | _=>cases h1
  ·obtain⟨u,q1,q2⟩:=r.slot j w' e';refine⟨u,q1,F2 g (fun b c' ec eb=>?_) q2⟩;subst eb;have nb:b≠a:=fun z=>n (r.inj j i w' w0 c' c a e' ec (by rw[<-z];exact q1) q e0 ea)
   obtain⟨o,eo,_⟩:=r.owMu ⟨j,w',c',e',ec,q1⟩;rw[eo,hk _ _ eo nb]
 ·obtain⟨u1,v1,q1,q2⟩:=st e1 e2;obtain⟨u2,v2,q3,q4⟩:=st e4 e5;exact r.inj j k u1 u2 v1 v2 b q1 q2 e3 q3 q4 e6
 ·rw[h2] at e1;rcases m3 e1 with ⟨rfl,z,_⟩|⟨n,e1⟩
  ·cases z;cases w0 with
   | o x=>exact r.new j x b q e2
   | l x=>exact absurd (h3.mpr ⟨x,q⟩) (by simp)
   | _=>cases e0
  ·exact r.new j c' b e1 e2
 ·rw[h2] at e';rcases m3 e' with ⟨rfl,z,_⟩|⟨n,e'⟩
  ·cases z;obtain⟨x,qx⟩:=h3.mp ⟨_,rfl⟩;exact r.lnt j x qx
  ·exact r.lnt j c' e'
 ·obtain⟨c',q1,q2⟩:=r.lnd j b e'
  by_cases n:j=i
  ·subst n;obtain⟨x,rfl⟩:=h3.mpr ⟨c',q1⟩;exact⟨x,by rw[h2];exact z5 (zQ.mp q).1,q2⟩
  ·exact⟨c',by rw[h2,zU (qX n)];exact q1,q2⟩
def frzAt (ρ:Ev) (i:Nat):Option Ev:=match ρ[i]? with
 | some (some (.o d))=>some (ρ.set i (some (.v d)))
 | some (some (.v _))=>some ρ
 | _=>none
theorem Rep.frz (r:Rep X P O L ρ σ H){i:Nat}{ρ':Ev}(e:frzAt ρ i=some ρ'):Rep X P O L ρ' σ H/\∀(j:Nat) (w:W) (d:D),ρ'[j]? =some (some w)->w.own=some d->ρ[j]? =some (some w)/\j≠i:=by
 unfold frzAt at e;split at e
 ·rename_i d q;cases e;obtain⟨a,h1,h2⟩:=r.obj q rfl;have hl:i<σ.length:=by rw[<-r.len];exact(zQ.mp q).1
  have es:σ.set i (some (.ref a))=σ:=by
   apply ext_getElem?;intro j
   by_cases z:i=j
   ·subst z;rw[z5 hl,h1]
   ·rw[zU z]
  have hw:¬AvO O (ρ.set i (some (.v d))) σ a:=fun z=>by
   rcases z with z|⟨j,w,c,e1,e2,e3⟩
   ·exact r.ambN z ⟨i,_,d,q,rfl,h1⟩
   ·rcases m3 e1 with ⟨rfl,z,_⟩|⟨n,e1⟩
    ·cases z;cases e2
    ·exact n (r.inj j i w (.o d) c d a e1 e2 e3 q rfl h1)
  have sub:∀b,AvO O (ρ.set i (some (.v d))) σ b->AvO O ρ σ b:=fun b z=>by
   rcases z with z|⟨j,w,c,e1,e2,e3⟩
   ·exact .inl z
   ·rcases m3 e1 with ⟨rfl,z,_⟩|⟨n,e1⟩
    ·cases z;cases e2
    ·exact .inr ⟨j,w,c,e1,e2,e3⟩
  have g:=p7 (H:=H) sub;refine⟨⟨r.same,r.amb,by rw[qK];exact r.len,fun j w e=>?_,fun j k w w' c c' b e1 e2 e3 e4 e5 e6=>?_,fun j c b e1 e2=>?_,fun j c e=>?_,fun j b e=>?_,fun p hp=>l7 g _ _ (r.prot p hp),r.gvl⟩,fun j w c e1 e2=>?_⟩
  ·rcases m3 e with ⟨rfl,z,_⟩|⟨n,e⟩
   ·cases z;exact⟨.ref a,h1,T2 (t3 g rfl h2) hw⟩
   ·obtain⟨u,q1,q2⟩:=r.slot j w e;exact⟨u,q1,F2 g (fun _ _ _ _=>rfl) q2⟩
  ·rcases m3 e1 with ⟨rfl,z,_⟩|⟨n1,e1⟩
   ·cases z;cases e2
   ·rcases m3 e4 with ⟨rfl,z,_⟩|⟨n2,e4⟩
    ·cases z;cases e5
    ·exact r.inj j k w w' c c' b e1 e2 e3 e4 e5 e6
  ·rcases m3 e1 with ⟨rfl,z,_⟩|⟨n1,e1⟩
   ·cases z
   ·exact r.new j c b e1 e2
  ·rcases m3 e with ⟨rfl,z,_⟩|⟨n1,e⟩
   ·cases z
   ·exact r.lnt j c e
  ·obtain⟨c,q1,q2⟩:=r.lnd j b e;have n:i≠j:=fun z=>by subst z;rw[q] at q1;cases q1
   exact⟨c,by rw[zU n];exact q1,q2⟩
  ·rcases m3 e1 with ⟨rfl,z,_⟩|⟨n,e1⟩
   ·cases z;cases e2
   ·exact⟨e1,n⟩
 ·rename_i d q;cases e;exact⟨r,fun j w c e1 e2=>⟨e1,fun z=>by subst z;rw[q] at e1;cases e1;cases e2⟩⟩
 ·cases e
end
abbrev FX:=Ev->Option (W×Ev)
abbrev FT:=Ev->Option (Bool×Ev)
abbrev FA:=Ev->Option (List W×Ev)
def DenW (K:PySem.W.Frag) (A:Av) (σ:L2.St) (H1 H':Hp):W->V->Prop
 | .v d,v=>Den K A H' d v
 | .o d,v=>∃a,v= .ref a/\H1 a=none/\Obj K (fun b=>A b\/b=a) H' a d
 | .r i,v=>σ[i]? =some (some v)
 | .l _,_=>False
def DenP (K:PySem.W.Frag) (A:Av) (σ:L2.St) (H:Hp):W->V->Prop
 | .v d,v=>Den K A H d v
 | .r i,v=>σ[i]? =some (some v)
 | _,_=>False
def DenA (K:PySem.W.Frag) (A:Av) (σ:L2.St) (H:Hp):List W->List V->Prop
 | [],vs=>vs=[]
 | w::ws,vs=>∃v r,vs=v::r/\DenP K A σ H w v/\DenA K A σ H ws r
def W.fz:W->W
 | .o d=>.v d
 | w=>w
def tX (X:Cx) (f:FX):TE:=fun σ H Q=>∃P O L ρ w ρ',Rep X P O L ρ σ H/\f ρ=some (w,ρ')/\∀v H1 H',Rep X P O L ρ' σ H1->Same H1 H'->DenW X.K (AvO O ρ' σ) σ H1 H' w v->Q v H'
def tT (X:Cx) (f:FT):TT:=fun σ H Q=>∃P O L ρ b ρ',Rep X P O L ρ σ H/\f ρ=some (b,ρ')/\∀H',Rep X P O L ρ' σ H'->Q b H'
def tA (X:Cx) (f:FA):TA:=fun σ H Q=>∃P O L ρ ws ρ',Rep X P O L ρ σ H/\f ρ=some (ws,ρ')/\∀vs H',Rep X P O L ρ' σ H'->DenA X.K (AvO O ρ' σ) σ H' ws vs->Q vs H'
theorem tXe {X:Cx}{f:FX}{σ:L2.St}{H:Hp}{Q:VK}{C:Prop}(h:tX X f σ H Q)(k:∀P O L ρ w ρ',Rep X P O L ρ σ H->f ρ=some (w,ρ')->(∀v H1 H',Rep X P O L ρ' σ H1->Same H1 H'->DenW X.K (AvO O ρ' σ) σ H1 H' w v->Q v H')->C):C:=by
 obtain⟨P,O,L,ρ,w,ρ',r,e,q⟩:=h;exact k P O L ρ w ρ' r e q
theorem tTe {X:Cx}{f:FT}{σ:L2.St}{H:Hp}{Q:Bool->Hp->Prop}{C:Prop}(h:tT X f σ H Q)(k:∀P O L ρ b ρ',Rep X P O L ρ σ H->f ρ=some (b,ρ')->(∀H',Rep X P O L ρ' σ H'->Q b H')->C):C:=by
 obtain⟨P,O,L,ρ,w,ρ',r,e,q⟩:=h;exact k P O L ρ w ρ' r e q
theorem tAe {X:Cx}{f:FA}{σ:L2.St}{H:Hp}{Q:List V->Hp->Prop}{C:Prop}(h:tA X f σ H Q)(k:∀P O L ρ ws ρ',Rep X P O L ρ σ H->f ρ=some (ws,ρ')->(∀vs H',Rep X P O L ρ' σ H'->DenA X.K (AvO O ρ' σ) σ H' ws vs->Q vs H')->C):C:=by
 obtain⟨P,O,L,ρ,w,ρ',r,e,q⟩:=h;exact k P O L ρ w ρ' r e q
structure QX (X:Cx) (e:Expr) (f:FX):Prop where
 to:PE X e (tX X f)
structure QT (X:Cx) (e:Expr) (f:FT):Prop where
 to:PT X e (tT X f)
structure QW (X:Cx) (e:Expr) (f:FT):Prop where
 to:PW X e (tT X f)
structure QA (X:Cx) (e:List Expr) (f:FA):Prop where
 to:PA X e (tA X f)
theorem PE.weak {X:Cx}{e:Expr}{t u:TE}(h:PE X e t)(w:∀σ H Q,u σ H Q->t σ H Q):PE X e u:=fun pins s σ H Q I q=>h pins s σ H Q I (w σ H Q q)
theorem PT.weak {X:Cx}{e:Expr}{t u:TT}(h:PT X e t)(w:∀σ H Q,u σ H Q->t σ H Q):PT X e u:=fun pins s σ H Q I q=>h pins s σ H Q I (w σ H Q q)
theorem PW.weak {X:Cx}{e:Expr}{t u:TT}(h:PW X e t)(w:∀σ H Q,u σ H Q->t σ H Q):PW X e u:=fun wh pins s σ H Q I q=>h wh pins s σ H Q I (w σ H Q q)
theorem PA.weak {X:Cx}{e:List Expr}{t u:TA}(h:PA X e t)(w:∀σ H Q,u σ H Q->t σ H Q):PA X e u:=fun pos pins s σ H Q I q=>h pos pins s σ H Q I (w σ H Q q)
def dr (ρ:Ev):W->Option D
 | .v d=>some d
 | .r i=>match ρ[i]? with
  | some (some (.v d))=>some d
  | some (some w)=>w.own
  | _=>none
 | _=>none
def drs (ρ:Ev):List W->Option (List D)
 | []=>some []
 | w::ws=>(dr ρ w).bind fun d=>(drs ρ ws).map fun ds=>d::ds
section
variable {X:Cx}{P:List (D×V)}{O:Av}{L:List (Option Nat×Addr)}{ρ:Ev}{σ:L2.St}{H H1 H':Hp}{w:W}{d:D}{v:V}
theorem DenW.fz (r:Rep X P O L ρ σ H1)(s:Same H1 H')(h:DenW X.K (AvO O ρ σ) σ H1 H' w v):DenP X.K (AvO O ρ σ) σ H' w.fz v:=by
 cases w with
 | v d=>exact h
 | o d=>
  obtain⟨a,rfl,n,ob⟩:=h;exact T2 (t3 (p7 fun b z=>.inl z) rfl ob) (r.fresh n)
 | r i=>exact h
 | l d=>exact h.elim
theorem DenP.same (s:Same H H'){A:Av}(h:DenP X.K A σ H w v):DenP X.K A σ H' w v:=by
 cases w with
 | v d=>exact S1 s h
 | r i=>exact h
 | _=>exact h.elim
theorem hold (r:Rep X P O L ρ σ H)(h:DenP X.K (AvO O ρ σ) σ H w v):∃P',Rep X P' O L ρ σ H/\∀ρ2 H2,Rep X P' O L ρ2 σ H2->Rep X P O L ρ2 σ H2/\DenP X.K (AvO O ρ2 σ) σ H2 w v:=by
 cases w with
 | v d=>exact⟨(d,v)::P,r.more h,fun ρ2 H2 r2=>⟨r2.less,r2.head⟩⟩
 | r i=>exact⟨P,r,fun ρ2 H2 r2=>⟨r2,h⟩⟩
 | _=>exact h.elim
theorem w9 (r:Rep X P O L ρ σ H)(e:dr ρ w=some d)(h:DenP X.K (AvO O ρ σ) σ H w v):DenR X.K (AvO O ρ σ) H d v:=by
 cases w with
 | v c=>cases e;exact B3 h
 | r i=>
  rw[dr] at e;have h:σ[i]? =some (some v):=h;cases q:ρ[i]? with
  | none=>rw[q] at e;cases e
  | some o=>
   rw[q] at e;cases o with
   | none=>cases e
   | some w'=>
    cases w' with
    | v c=>
     cases e;obtain⟨u,h1,h2⟩:=r.slot i _ q;rw[h1] at h;cases h;exact B3 h2
    | _=>
     obtain⟨a,h1,h2⟩:=r.obj q e;rw[h1] at h;cases h;exact obj_r h2
 | _=>cases e
def DenRL (K:PySem.W.Frag) (A:Av) (H:Hp):List D->List V->Prop
 | [],vs=>vs=[]
 | d::ds,vs=>∃v r,vs=v::r/\DenR K A H d v/\DenRL K A H ds r
theorem a43 (r:Rep X P O L ρ σ H):∀{ws:List W} {ds:List D} {vs:List V},drs ρ ws=some ds->DenA X.K (AvO O ρ σ) σ H ws vs->DenRL X.K (AvO O ρ σ) H ds vs
 | [],ds,vs,e,h=>by cases e;exact h
 | w::ws,ds,vs,e,h=>by
  obtain⟨v,rs,rfl,h1,h2⟩:=h;rw[drs] at e;cases e1:dr ρ w with
  | none=>rw[e1] at e;cases e
  | some d=>
   cases e2:drs ρ ws with
   | none=>rw[e1,e2] at e;cases e
   | some dd=>
    rw[e1,e2] at e;cases e;exact⟨v,rs,rfl,w9 r e1 h1,a43 r e2 h2⟩
end
section
variable {K:PySem.W.Frag}{A:Av}{σ:L2.St}{H H':Hp}
theorem u9 {i:Int}:DenW K A σ H H' (.v (.int i)) (.int i):=by show Den _ _ _ _ _;rw[Den]
theorem v4 {i:Bool}:DenW K A σ H H' (.v (.bl i)) (.bl i):=by show Den _ _ _ _ _;rw[Den]
theorem a66 {i:Str}:DenW K A σ H H' (.v (.str i)) (.str i):=by show Den _ _ _ _ _;rw[Den]
theorem U4:DenW K A σ H H' (.v .non) .non:=by show Den _ _ _ _ _;rw[Den]
end
def fVar (i:Nat):FX:=fun ρ=>match ρ[i]? with
 | some (some (.v d))=>some (.v d,ρ)
 | some (some (.r _))=>none
 | some (some _)=>some (.r i,ρ)
 | _=>none
def fC (d:D):FX:=fun ρ=>some (.v d,ρ)
section
variable {X:Cx}{a b e:Expr}{pos:Pos}{f g h:FX}{t u:FT}
theorem a7 (i:Nat){x:Str}(hN:X.N[i]? =some x:=by rfl)(hv:Vis X.env.scope x:=by first|exact Or.inl rfl|exact Or.inr (Or.inl rfl)|exact Or.inr (Or.inr rfl))(hd:(x==("__debug__":Str))=false:=by decide)(hcd:(x==("__classdict__":Str))=false:=by decide):QX X (.Name x pos) (fVar i):=by
 refine⟨PE.weak (a4c hN hv hd hcd) fun σ H Q h0=>tXe h0 fun P O L ρ w ρ' r e q=>?_⟩;unfold fVar at e;split at e
 ·rename_i d0 e0;cases e;obtain⟨v,h1,h2⟩:=r.slot i _ e0;exact⟨v,h1,q v H H r (Same.refl H) h2⟩
 ·cases e
 ·rename_i w' _ _ e0;cases e;obtain⟨v,h1,h2⟩:=r.slot i _ e0;exact⟨v,h1,q v H H r (Same.refl H) h1⟩
 ·cases e
theorem b0I {d:D}{v:V}(hd:∀A H,Den X.K A H d v):∀σ H Q,tX X (fC d) σ H Q->tC v σ H Q:=fun σ H Q h0=>tXe h0 fun P O L ρ w ρ' r e q=>by cases e;exact q v H H r (Same.refl H) (hd _ H)
theorem a9 {i:Int}{j:Nat}:QX X (.Constant (.int i) j pos) (fC (.int i)):=⟨PE.weak a32 (b0I fun A H=>v6.mpr rfl)⟩
theorem a2Y {i:Bool}{j:Nat}:QX X (.Constant (.bool i) j pos) (fC (.bl i)):=⟨PE.weak pe_bl (b0I fun A H=>W6.mpr rfl)⟩
def fBin (op:D->D->Option W) (f g:FX):FX:=fun ρ=>(f ρ).bind fun p=>(g p.2).bind fun q=>(dr q.2 p.1.fz).bind fun x=>(dr q.2 q.1.fz).bind fun y=>(op x y).map fun w=>(w,q.2)
def Pr2 (X:Cx) (op:D->D->Option W) (r:R2):Prop:=∀(A:Av) (x y:D) (w:W) (v u:V) (H:Hp) (Q:VK),(∀b,A b->∃o,H b=some o)->op x y=some w->DenR X.K A H x v->DenR X.K A H y u->(∀z H',Same H H'->DenW X.K A [] H H' w z->Q z H')->r v u H Q
theorem DenW.st {K:PySem.W.Frag}{A:Av}{σ:L2.St}{H1 H':Hp}{w:W}{v:V}(h:DenW K A [] H1 H' w v):DenW K A σ H1 H' w v:=by
 cases w with
 | r i=>exact absurd h (by simp[DenW])
 | _=>exact h
theorem S8 {r:R2}{op:D->D->Option W}(k:Pr2 X op r):∀σ H Q,tX X (fBin op f g) σ H Q->tOp r (tX X f) (tX X g) σ H Q:=fun σ H Q h0=>tXe h0 fun P O L ρ w ρ' r e q=>by
 unfold fBin at e;obtain⟨⟨w1,ρ1⟩,e1,e⟩:=obs e;dsimp only at e;refine⟨P,O,L,ρ,w1,ρ1,r,e1,fun v H1 H1' r1 s1 d1=>?_⟩;obtain⟨P',r1',k1⟩:=hold (r1.grow s1) (d1.fz r1 s1);obtain⟨⟨w2,ρ2⟩,e2,e⟩:=obs e;dsimp only at e;refine⟨P',O,L,ρ1,w2,ρ2,r1',e2,fun u H2 H2' r2 s2 d2=>?_⟩;have d2':=d2.fz r2 s2;obtain⟨r3,d1'⟩:=k1 ρ2 H2' (r2.grow s2);cases e3:dr ρ2 w1.fz with
 | none=>rw[e3] at e;cases e
 | some x=>
  cases e4:dr ρ2 w2.fz with
  | none=>rw[e3,e4] at e;cases e
  | some y=>
   rw[e3,e4] at e;simp only[bind_some] at e;cases e5:op x y with
   | none=>rw[e5] at e;cases e
   | some w'=>
    rw[e5] at e;cases e;exact k _ x y w v u H2' Q (fun b z=>r3.there z) e5 (w9 r3 e3 d1') (w9 r3 e4 d2') fun z H' s d=>q z H2' H' r3 s d.st
theorem C4 {op:Operator}{r:R2}{o:D->D->Option W}(ho:OpR X (binaryOp op) r)(k:Pr2 X o r)(ha:QX X a f)(hb:QX X b g):QX X (.BinOp a op b pos) (fBin o f g):=⟨PE.weak (pe_op ho ha.to hb.to) (S8 k)⟩
theorem a2v {op:CmpOp}{r:R2}{o:D->D->Option W}(ho:OpR X (compareOp op) r)(k:Pr2 X o r)(ha:QX X a f)(hb:QX X b g)(hm:behindInMarks op b=false:=by first|exact nomark _|rfl):QX X (.Compare a [op] [b] pos) (fBin o f g):=⟨PE.weak (a8M ho ha.to hb.to hm) (S8 k)⟩
def fTest (f:FX):FT:=fun ρ=>(f ρ).bind fun p=>match p.1 with|.v (.bl k)=>some (k,p.2)|_=>none
theorem Q5 {f:FX}{ρ ρ':Ev}{k:Bool}(e:fTest f ρ=some (k,ρ')):f ρ=some (.v (.bl k),ρ'):=by
 unfold fTest at e;cases q:f ρ with
 | none=>rw[q] at e;cases e
 | some p=>
  rw[q] at e;obtain⟨w,ρ1⟩:=p;simp only[bind_some] at e;split at e
  ·cases e;rfl
  ·cases e
theorem P5 {op:CmpOp}{r:R2}{o:D->D->Option W}(ho:OpR X (compareOp op) r)(k:Pr2 X o r)(ha:QX X a f)(hb:QX X b g)(hm:behindInMarks op b=false:=by first|exact nomark _|rfl):QT X (.Compare a [op] [b] pos) (fTest (fBin o f g)):=by
 refine⟨PT.weak (a9d ho ha.to hb.to hm) fun σ H Q h0=>tTe h0 fun P O L ρ t ρ' r e q=>?_⟩;refine S8 k σ H _ ⟨P,O,L,ρ,_,ρ',r,Q5 e,fun v H1 H' r1 s1 d1=>⟨t,?_,q H' (r1.grow s1)⟩⟩;have d1':Den X.K (AvO O ρ' σ) H' (.bl t) v:=d1;exact W6.mp d1'
def big:Nat:=2^8000
def mOk (i j:Int):Prop:=i.natAbs<2^64\/j.natAbs<2^64\/(i.natAbs<big/\j.natAbs<big)
instance (i j:Int):Decidable (mOk i j):=by unfold mOk;infer_instance
theorem mOk.ok {i j:Int}(m:mOk i j):IntMulOk i j:=by
 rcases m with m|m|⟨m,n⟩
 ·exact .of_left (KE_bits m)
 ·exact .of_right (KE_bits m)
 ·exact .of_bits (zP (KE_bits m) (by decide)) (zP (KE_bits n) (by decide))
where KE_bits {x:Int} {m:Nat} (h:x.natAbs<2^m):Builtin.Int.intBits x<=m:=intBits_le_iff.mpr h
theorem a85:OpR X (binaryOp .Mult) (rI mOk fun i j=>.int (i*j)):=opI fun _ _ _ _ _ _ _ hc q=>mul_int q hc.ok
def dOk (j:Int):Prop:=0<j/\j.natAbs<big
instance (j:Int):Decidable (dOk j):=by unfold dOk;infer_instance
theorem a9A:OpR X (binaryOp .FloorDiv) (rI (fun _ j=>dOk j) fun i j=>.int (i/j)):=opI fun i j _ _ _ _ _ hc q=>by
 have e:i.fdiv j=i/j:=Int.fdiv_eq_ediv_of_nonneg i (Int.le_of_lt hc.1);refine floordiv_int (Int.ne_of_gt hc.1) (by rw[e];exact q) (.inl (PyProof.noPylong_of_log2 ?_))
 by_cases z:j.natAbs=0
 ·rw[z];decide
 ·exact zI ((Nat.log2_lt z).mpr (show j.natAbs<2^8000 from hc.2)) (by decide)
def oI (C:Int->Int->Prop) [∀i j,Decidable (C i j)] (g:Int->Int->D):D->D->Option W
 | .int i,.int j=>if C i j then some (.v (g i j)) else none
 | _,_=>none
def oI0 (g:Int->Int->D):D->D->Option W
 | .int i,.int j=>some (.v (g i j))
 | _,_=>none
theorem g8 {K:PySem.W.Frag}{A:Av}{H:Hp}{i:Int}{v:V}(h:DenR K A H (.int i) v):v= .int i:=by
 have h:Den K A H (.int i) v:=h;exact v6.mp h
theorem kI {C:Int->Int->Prop} [∀i j,Decidable (C i j)] {g:Int->Int->Int}:Pr2 X (oI C fun i j=>.int (g i j)) (rI C fun i j=>.int (g i j)):=by
 intro A x y w v u H Q _ e hx hy q;cases x<;>cases y<;>simp only[oI] at e<;>try cases e
 rename_i i j;split at e
 ·rename_i hc;cases e;exact⟨i,j,g8 hx,g8 hy,hc,q _ H (Same.refl H) u9⟩
 ·cases e
theorem kI0 {g:Int->Int->Int}:Pr2 X (oI0 fun i j=>.int (g i j)) (rI0 fun i j=>.int (g i j)):=by
 intro A x y w v u H Q _ e hx hy q;cases x<;>cases y<;>simp only[oI0] at e<;>cases e
 rename_i i j;exact⟨i,j,g8 hx,g8 hy,q _ H (Same.refl H) u9⟩
theorem kB0 {g:Int->Int->Bool}:Pr2 X (oI0 fun i j=>.bl (g i j)) (rI0 fun i j=>.bl (g i j)):=by
 intro A x y w v u H Q _ e hx hy q;cases x<;>cases y<;>simp only[oI0] at e<;>cases e
 rename_i i j;exact⟨i,j,g8 hx,g8 hy,q _ H (Same.refl H) v4⟩
abbrev fSub:=fBin (oI0 fun i j=>.int (i-j))
abbrev fMul:=fBin (oI mOk fun i j=>.int (i*j))
abbrev fDiv:=fBin (oI (fun _ j=>dOk j) fun i j=>.int (i/j))
abbrev fMod:=fBin (oI (fun _ j=>0<j) fun i j=>.int (i%j))
instance (i j:Int):Decidable (CPow i j):=by unfold CPow;infer_instance
abbrev fPow:=fBin (oI CPow fun i j=>.int (i^j.toNat))
theorem w5 (ha:QX X a f)(hb:QX X b g):QX X (.BinOp a .Sub b pos) (fSub f g):=C4 b1n kI0 ha hb
theorem a0N (ha:QX X a f)(hb:QX X b g):QX X (.BinOp a .Mult b pos) (fMul f g):=C4 a85 kI ha hb
theorem b06 (ha:QX X a f)(hb:QX X b g):QX X (.BinOp a .FloorDiv b pos) (fDiv f g):=C4 a9A kI ha hb
theorem a0F (ha:QX X a f)(hb:QX X b g):QX X (.BinOp a .Mod b pos) (fMod f g):=C4 b0Z kI ha hb
theorem W7 (ha:QX X a f)(hb:QX X b g):QX X (.BinOp a .Pow b pos) (fPow f g):=C4 b00 kI ha hb
abbrev oLt:=oI0 fun i j=>.bl (decide (i<j))
abbrev oLe:=oI0 fun i j=>.bl (decide (i<=j))
abbrev oGt:=oI0 fun i j=>.bl (decide (j<i))
abbrev oGe:=oI0 fun i j=>.bl (decide (j<=i))
theorem a95 (ha:QX X a f)(hb:QX X b g):QT X (.Compare a [.Gt] [b] pos) (fTest (fBin oGt f g)):=P5 op_gt kB0 ha hb
theorem qt_ge (ha:QX X a f)(hb:QX X b g):QT X (.Compare a [.GtE] [b] pos) (fTest (fBin oGe f g)):=P5 op_ge kB0 ha hb
def lim:Nat:=1000000
theorem t6:lim<=sizeLine:=by unfold lim;rw[jO];decide
theorem j4 {H:Hp}{p:Addr}(h:H p=none)(o:HO):Same H (upd H p o):=fun b u q=>by rw[c7 (l0 q h)];exact q
theorem F6 {K:PySem.W.Frag}{A:Av}{σ:L2.St}{H:Hp}{p:Addr}{xs:List D}{vs:List V}(hp:H p=none)(l:DenL K A H xs vs):DenW K A σ H (upd H p (.lst vs)) (.o (.lst xs)) (.ref p):=
 ⟨p,rfl,hp,vs,j9,n6 (M:=fun _=>False) ⟨fun b o q _=>j4 hp _ b o q,fun _ z=>z.elim,fun b z=>z.imp id fun z=>by rw[z];exact hp⟩ _ _ l⟩
theorem F0 {K:PySem.W.Frag}{A:Av}{σ:L2.St}{H H0:Hp}{p:Addr}{xs:List D}{vs:List V}(hp:H p=none)(l:DenL K A H xs vs):DenW K A σ H0 (upd H p (.tup vs)) (.v (.tup xs)) (.ref p):=by
 show Den _ _ _ _ _;rw[Den];exact⟨p,vs,rfl,.inl (.inl j9),a5x (j4 hp _) l⟩
theorem a8P:OpR X (binaryOp .Add) (fun x y H Q=>∃l b xs zs,x= .ref l/\y= .ref b/\SqL X.K H l xs/\SqL X.K H b zs/\xs.length+zs.length<=sizeLine/\∀p,H p=none->Q (.ref p) (upd H p (.lst (xs++zs)))):=by
 intro pins s σ H x y v u Q I rx ry h;obtain⟨l,b,xs,zs,rfl,rfl,hH,hB,hz,q⟩:=h;cases rx;cases ry;obtain⟨its,r,⟨⟨c1,d1,e1,s1⟩,n1,g1,k1,_,w1⟩,_⟩:=I.list hH;obtain⟨its2,r2,⟨⟨c2,d2,e2,s2⟩,n2,g2,k2,_,w2⟩,_⟩:=I.list hB;simp only at k1 w1 k2 w2;subst k1 w1 k2 w2;have l1:=r.length;have l2:=r2.length;refine concat_meets ⟨_,g1,rfl⟩ ⟨_,g2,rfl⟩ noFill_list_add seq_list_add PySem.F.slot_list_add PySem.F.entry_list_add (PySem.F.args_list_add_2 _ _) (list_addW l b its.toArray its2.toArray n1 n2 d1 d2 s1 s2 (by rw[zV,zV];walk_at "o")) ⟨g1,g2,?_⟩
 have ea:its.toArray++its2.toArray=(its++its2).toArray:=by simp
 rw[ea];exact⟨.ref _,_,I.lnew (t':=s.toks) (r.append r2) (by rw[qB];walk_at "o"),rfl,q _ I.fresh⟩
def oCat (xs ys:List D):Option W:=if xs.length+ys.length<=lim then some (.o (.lst (xs++ys))) else none
def oAdd:D->D->Option W
 | .int i,.int j=>some (.v (.int (i+j)))
 | .lst xs,.lst ys=>oCat xs ys
 | .tup xs,.tup ys=>if xs≠[]/\xs.length+ys.length<=lim then some (.v (.tup (xs++ys))) else none
 | _,_=>none
theorem q9 (ha:QX X a f)(hb:QX X b g):QX X (.BinOp a .Add b pos) (fBin oAdd f g):=C4 (b1K.or (a8P.or a4o)) (by
 intro A x y w v u H Q _ e hx hy q;cases x<;>cases y<;>simp only[oAdd] at e<;>try cases e
 ·rename_i i j;exact .inl ⟨i,j,g8 hx,g8 hy,q _ H (Same.refl H) u9⟩
 ·rename_i xs ys;split at e
  ·rename_i hl;cases e;have hx:Den X.K A H (.tup xs) v:=hx;have hy:Den X.K A H (.tup ys) u:=hy;rw[Den] at hx hy;obtain⟨a,vs,ev,ha,la⟩:=hx;obtain⟨b,us,eu,hb,lb⟩:=hy;refine .inr (.inr ⟨a,b,vs,us,ev,eu,ha,hb,fun z=>?_,?_,fun z=>?_,fun _ p hp=>q _ _ (j4 hp _) (F0 hp (p5 la lb))⟩)
   rotate_left 2
   ·subst z;have z:ys=[]:=yA.mp (b8 lb);subst z;refine q _ H (Same.refl H) ?_;show Den _ _ _ _ _;rw[jP,Den];exact⟨a,vs,rfl,ha,la⟩
   ·subst z;exact hl.1 (yA.mp (b8 la))
   ·rw[<-b8 la,<-b8 lb];exact zP hl.2 t6
  ·cases e
 ·rename_i xs ys;unfold oCat at e;split at e
  ·rename_i hl;cases e;obtain⟨a,vs,ev,ha,la⟩:=hx;obtain⟨b,us,eu,hb,lb⟩:=hy;refine .inr (.inl ⟨a,b,vs,us,ev,eu,ha,hb,?_,fun p hp=>q _ _ (j4 hp _) (F6 hp (p5 la lb))⟩);rw[<-b8 la,<-b8 lb];exact zP hl t6
  ·cases e) ha hb
def fUn (op:D->Option W) (f:FX):FX:=fun ρ=>(f ρ).bind fun p=>(dr p.2 p.1.fz).bind fun x=>(op x).map fun w=>(w,p.2)
def Pr1 (X:Cx) (op:D->Option W) (r:V->Hp->VK->Prop):Prop:=∀(A:Av) (x:D) (w:W) (v:V) (H:Hp) (Q:VK),(∀b,A b->∃o,H b=some o)->op x=some w->DenR X.K A H x v->(∀z H',Same H H'->DenW X.K A [] H H' w z->Q z H')->r v H Q
theorem a2w {r:V->Hp->VK->Prop}{op:D->Option W}(k:Pr1 X op r):∀σ H Q,tX X (fUn op f) σ H Q->tUn r (tX X f) σ H Q:=fun σ H Q h0=>tXe h0 fun P O L ρ w ρ' r e q=>by
 unfold fUn at e;obtain⟨⟨w1,ρ1⟩,e1,e⟩:=obs e;dsimp only at e;refine⟨P,O,L,ρ,w1,ρ1,r,e1,fun v H1 H1' r1 s1 d1=>?_⟩;have r3:=r1.grow s1;cases e3:dr ρ1 w1.fz with
 | none=>rw[e3] at e;cases e
 | some x=>
  rw[e3] at e;simp only[bind_some] at e;cases e5:op x with
  | none=>rw[e5] at e;cases e
  | some w'=>
   rw[e5] at e;cases e;exact k _ x w v H1' Q (fun b z=>r3.there z) e5 (w9 r3 e3 (d1.fz r1 s1)) fun z H' s d=>q z H1' H' r3 s d.st
def oNeg:D->Option W
 | .int i=>some (.v (.int (-i)))
 | _=>none
theorem a78 (ha:QX X a f):QX X (.UnaryOp .USub a pos) (fUn oNeg f):=⟨PE.weak (pe_un b1z ha.to) (a2w fun A x w v H Q _ e hx q=>by
 cases x<;>simp only[oNeg] at e<;>cases e
 rename_i i
 exact⟨i,g8 hx,q _ H (Same.refl H) u9⟩)⟩
end
section
variable {X:Cx}{a b c e:Expr}{pos:Pos}{f g h:FX}{t u:FT}{fa:FA}{es rest:List Expr}
def truth:D->Option Bool
 | .non=>some false
 | .bl b=>some b
 | .int i=>some (!decide (i=0))
 | .tup xs=>some (!xs.isEmpty)
 | .lst xs=>some (!xs.isEmpty)
 | .dK ks _=>some (!ks.isEmpty)
 | _=>none
def fTru (f:FX):FT:=fun ρ=>(f ρ).bind fun p=>(dr p.2 p.1.fz).bind fun d=>(truth d).map fun k=>(k,p.2)
theorem a0C {K:PySem.W.Frag}{A:Av}{H:Hp}{xs:List D}{vs:List V}(l:DenL K A H xs vs):(!xs.isEmpty)= !vs.isEmpty:=by
 have:=b8 l
 cases xs<;>cases vs<;>simp_all
theorem a41 {K:PySem.W.Frag}{A:Av}{H:Hp}{d:D}{v:V}{k:Bool}(e:truth d=some k)(h:DenR K A H d v):TruV K v H k:=by
 cases d with
 | non=>cases e;have h:Den K A H .non v:=h;rw[Den] at h;subst h;rfl
 | bl b=>cases e;have h:Den K A H (.bl k) v:=h;rw[Den] at h;subst h;rfl
 | int i=>cases e;have h:Den K A H (.int i) v:=h;rw[Den] at h;subst h;rfl
 | tup xs=>cases e;have h:Den K A H (.tup xs) v:=h;rw[Den] at h;obtain⟨a,vs,rfl,hq,l⟩:=h;exact .inr (.inl ⟨vs,hq,a0C l⟩)
 | lst xs=>cases e;obtain⟨a,vs,rfl,hq,l⟩:=h;exact .inl ⟨vs,hq,a0C l⟩
 | dK ks xs=>
  cases e;obtain⟨a,vs,rfl,hq,hl,l⟩:=h;refine .inr (.inr ⟨_,hq,?_⟩)
  have:=b8 l
  cases ks<;>cases vs<;>cases xs<;>simp_all
 | _=>cases e
theorem a0E (ha:QX X a f)(he:∀whole,isTrue a X.env whole=(do let v <-whole;standAt a.pos;holding [v] (truthy v)):=by intro _;rfl):QT X a (fTru f):=⟨PT.weak (a6J ha.to he) fun σ H Q h0=>tTe h0 fun P O L ρ k ρ' r e q=>by
 unfold fTru at e;obtain⟨⟨w,ρ1⟩,e1,e⟩:=obs e;dsimp only at e;cases e2:dr ρ1 w.fz with
 | none=>rw[e2] at e;cases e
 | some d=>
  rw[e2] at e;simp only[bind_some] at e;cases e3:truth d with
  | none=>rw[e3] at e;cases e
  | some k'=>
   rw[e3] at e;cases e
   exact⟨P,O,L,ρ,w,_,r,e1,fun v H1 H' r1 s1 d1=>⟨k,a41 e3 (w9 (r1.grow s1) e2 (d1.fz r1 s1)),q H' (r1.grow s1)⟩⟩⟩
def fNot (t:FT):FT:=fun ρ=>(t ρ).map fun p=>(!p.1,p.2)
theorem a2B (ha:QT X a t):QT X (.UnaryOp .Not a pos) (fNot t):=⟨PT.weak (L2.b1f ha.to) fun σ H Q h0=>tTe h0 fun P O L ρ k ρ' r e q=>by
 unfold fNot at e;cases e1:t ρ with
 | none=>rw[e1] at e;cases e
 | some p=>rw[e1] at e;obtain⟨k1,ρ1⟩:=p;cases e;exact⟨P,O,L,ρ,k1,_,r,e1,q⟩⟩
def fAnd (t u:FT):FT:=fun ρ=>(t ρ).bind fun p=>if p.1=true then u p.2 else some (false,p.2)
def fOr (t u:FT):FT:=fun ρ=>(t ρ).bind fun p=>if p.1=true then some (true,p.2) else u p.2
theorem S2 (ha:QT X a t):QW X (.BoolOp .And [a] pos) t:=⟨pw_and1 ha.to⟩
theorem b1G (ha:QT X a t):QW X (.BoolOp .Or [a] pos) t:=⟨pw_or1 ha.to⟩
theorem a0q (ha:QT X a t)(hb:QW X (.BoolOp .And (b::rest) pos) u):QW X (.BoolOp .And (a::b::rest) pos) (fAnd t u):=⟨PW.weak (pw_and ha.to hb.to) fun σ H Q h0=>tTe h0 fun P O L ρ k ρ' r e q=>by
 unfold fAnd at e;obtain⟨⟨k1,ρ1⟩,e1,e⟩:=obs e;dsimp only at e;refine⟨P,O,L,ρ,k1,ρ1,r,e1,fun H' r'=>?_⟩;cases k1 with
 | true=>rw[if_pos rfl] at e ⊢;exact⟨P,O,L,ρ1,k,ρ',r',e,q⟩
 | false=>rw[if_neg zT] at e ⊢;cases e;exact q H' r'⟩
theorem b0s (ha:QT X a t)(hb:QW X (.BoolOp .Or (b::rest) pos) u):QW X (.BoolOp .Or (a::b::rest) pos) (fOr t u):=⟨PW.weak (pw_or ha.to hb.to) fun σ H Q h0=>tTe h0 fun P O L ρ k ρ' r e q=>by
 unfold fOr at e;obtain⟨⟨k1,ρ1⟩,e1,e⟩:=obs e;dsimp only at e;refine⟨P,O,L,ρ,k1,ρ1,r,e1,fun H' r'=>?_⟩;cases k1 with
 | true=>rw[if_pos rfl] at e ⊢;cases e;exact q H' r'
 | false=>rw[if_neg zT] at e ⊢;exact⟨P,O,L,ρ1,k,ρ',r',e,q⟩⟩
theorem a1L (ha:QW X a t):QT X a t:=⟨PW.pt ha.to⟩
theorem a3S {op}(ha:QX X a f):QX X (.BoolOp op [a] pos) f:=⟨b1m ha.to⟩
def fAndV (f g:FX):FX:=fun ρ=>(fTest f ρ).bind fun p=>if p.1=true then g p.2 else some (.v (.bl false),p.2)
def fOrV (f g:FX):FX:=fun ρ=>(fTest f ρ).bind fun p=>if p.1=true then some (.v (.bl true),p.2) else g p.2
def fNotV (f:FX):FX:=fun ρ=>(fTest f ρ).map fun p=>(.v (.bl (!p.1)),p.2)
theorem P3 {K:PySem.W.Frag}{A:Av}{σ:L2.St}{H H':Hp}{k:Bool}{v:V}(h:DenW K A σ H H' (.v (.bl k)) v):v= .bl k:=by
 have h:Den K A H' (.bl k) v:=h;exact W6.mp h
theorem a3E (ha:QX X a f)(hb:QX X (.BoolOp .And (b::rest) pos) g):QX X (.BoolOp .And (a::b::rest) pos) (fAndV f g):=⟨PE.weak (b1H ha.to hb.to) fun σ H Q h0=>tXe h0 fun P O L ρ w ρ' r e q=>by
 unfold fAndV at e;obtain⟨⟨k,ρ1⟩,e1,e⟩:=obs e;dsimp only at e;refine⟨P,O,L,ρ,_,ρ1,r,Q5 e1,fun v H1 H' r1 s1 d1=>⟨k,P3 d1,?_⟩⟩;cases k with
 | true=>rw[if_pos rfl] at e ⊢;exact⟨P,O,L,ρ1,w,ρ',r1.grow s1,e,q⟩
 | false=>rw[if_neg zT] at e ⊢;cases e;exact q _ H' H' (r1.grow s1) (Same.refl _) v4⟩
def fIf (t:FT) (f g:FX):FX:=fun ρ=>(t ρ).bind fun p=>if p.1=true then f p.2 else g p.2
def fNil:FA:=fun ρ=>some ([],ρ)
def fCons (f:FX) (fa:FA):FA:=fun ρ=>(f ρ).bind fun p=>(fa p.2).map fun q=>(p.1.fz::q.1,q.2)
theorem b9:QA X [] fNil:=⟨PA.weak a6V fun σ H Q h0=>tAe h0 fun P O L ρ ws ρ' r e q=>by cases e;exact q [] H r rfl⟩
theorem a8 (ha:QX X e f)(hr:QA X es fa)(hs:starEach (e::es) X.env=(false,eval e X.env)::starEach es X.env:=by rfl):QA X (e::es) (fCons f fa):=⟨PA.weak (a2r ha.to hr.to hs) fun σ H Q h0=>tAe h0 fun P O L ρ ws ρ' r e q=>by
 unfold fCons at e;obtain⟨⟨w,ρ1⟩,e1,e⟩:=obs e;dsimp only at e;obtain⟨⟨ws2,ρ2⟩,e2,e⟩:=oms e;cases e;refine⟨P,O,L,ρ,w,ρ1,r,e1,fun v H1 H' r1 s1 d1=>?_⟩;obtain⟨P',r1',k1⟩:=hold (r1.grow s1) (d1.fz r1 s1);refine⟨P',O,L,ρ1,ws2,_,r1',e2,fun vs H2 r2 l2=>?_⟩;obtain⟨r3,d3⟩:=k1 _ H2 r2
 exact q _ H2 r3 ⟨v,vs,rfl,d3,l2⟩⟩
def takeAll:Ev->List W->Option (List D×Ev)
 | ρ,[]=>some ([],ρ)
 | ρ,.v d::ws=>(takeAll ρ ws).map fun p=>(d::p.1,p.2)
 | ρ,.r i::ws=>(frzAt ρ i).bind fun ρ1=>match ρ1[i]? with
  | some (some (.v d))=>(takeAll ρ1 ws).map fun p=>(d::p.1,p.2)
  | _=>none
 | _,_=>none
theorem a3U {ρ ρ':Ev}{σ:L2.St}{O:Av}(h:∀(j:Nat) (w:W) (d:D),ρ'[j]? =some (some w)->w.own=some d->ρ[j]? =some (some w)):∀b,AvO O ρ' σ b->AvO O ρ σ b:=fun b z=>z.imp id fun⟨j,w,d,e1,e2,e3⟩=>⟨j,w,d,h j w d e1 e2,e2,e3⟩
theorem k8 {P:List (D×V)}{O:Av}{L:List (Option Nat×Addr)}{σ:L2.St}{H:Hp}:∀{ws:List W} {ds:List D} {vs:List V} {ρ ρ':Ev},Rep X P O L ρ σ H->takeAll ρ ws=some (ds,ρ')->DenA X.K (AvO O ρ σ) σ H ws vs->
  Rep X P O L ρ' σ H/\DenL X.K (AvO O ρ' σ) H ds vs/\∀(j:Nat) (w:W) (d:D),ρ'[j]? =some (some w)->w.own=some d->ρ[j]? =some (some w)
 | [],ds,vs,ρ,ρ',r,e,h=>by cases e;have h:vs=[]:=h;subst h;exact⟨r,j3,fun j w d e _=>e⟩
 | .v d::ws,ds,vs,ρ,ρ',r,e,h=>by
  obtain⟨v,rs,rfl,h1,h2⟩:=h;rw[takeAll] at e;obtain⟨⟨ds1,ρ1⟩,e1,e⟩:=oms e;cases e;obtain⟨r1,l1,k1⟩:=k8 r e1 h2;exact⟨r1,g7 (l7 (p7 (a3U k1)) _ _ h1) l1,k1⟩
 | .r i::ws,ds,vs,ρ,ρ',r,e,h=>by
  obtain⟨v,rs,rfl,h1,h2⟩:=h;have h1:σ[i]? =some (some v):=h1;rw[takeAll] at e;cases e0:frzAt ρ i with
  | none=>rw[e0] at e;cases e
  | some ρ1=>
   rw[e0] at e;simp only[bind_some] at e;obtain⟨r1,k1⟩:=r.frz e0;split at e
   ·rename_i d q;obtain⟨⟨ds1,ρ2⟩,e1,e⟩:=oms e;cases e;have go1:∀{ws:List W} {vs:List V},DenA X.K (AvO O ρ σ) σ H ws vs->DenA X.K (AvO O ρ1 σ) σ H ws vs:=fun{ws}=>by
     induction ws with
     | nil=>exact fun h=>h
     | cons w ws ih=>
      intro vs h;obtain⟨v,rs,rfl,h1,h2⟩:=h;refine⟨v,rs,rfl,?_,ih h2⟩;cases w with
      | v d=>exact l7 (p7 (a3U fun j w d e1 e2=>(k1 j w d e1 e2).1)) _ _ h1
      | _=>exact h1
    obtain⟨r2,l2,k2⟩:=k8 r1 e1 (go1 h2);obtain⟨u,q1,q2⟩:=r1.slot i _ q;rw[h1] at q1;cases q1;have q2:Den X.K (AvO O ρ1 σ) H d v:=q2;exact⟨r2,g7 (l7 (p7 (a3U k2)) _ _ q2) l2,fun j w d e1 e2=>(k1 j w d (k2 j w d e1 e2) e2).1⟩
   ·cases e
 | .o _::ws,ds,vs,ρ,ρ',r,e,h=>by rw[takeAll] at e<;>first|cases e|(intros;nofun)
 | .l _::ws,ds,vs,ρ,ρ',r,e,h=>by rw[takeAll] at e<;>first|cases e|(intros;nofun)
def fTup (fa:FA):FX:=fun ρ=>(fa ρ).bind fun p=>(takeAll p.2 p.1).bind fun q=>if q.1.length<=lim then some (.v (.tup q.1),q.2) else none
def fLst (fa:FA):FX:=fun ρ=>(fa ρ).bind fun p=>(takeAll p.2 p.1).bind fun q=>if q.1.length<=lim then some (.o (.lst q.1),q.2) else none
theorem a1j {mk:List D->W}{σ:L2.St}{H:Hp}{Q:VK}{R:List V->Hp->Prop}(hq:∀(A:Av) (ds:List D) (vs:List V) (H:Hp),(∀v H',Same H H'->DenW X.K A σ H H' (mk ds) v->Q v H')->vs.length<=sizeLine->DenL X.K A H ds vs->R vs H)
  (h:tX X (fun ρ=>(fa ρ).bind fun p=>(takeAll p.2 p.1).bind fun q=>if q.1.length<=lim then some (mk q.1,q.2) else none) σ H Q):tA X fa σ H R:=by
 obtain⟨P,O,L,ρ,w,ρ',r,e,q⟩:=h;dsimp only at e;obtain⟨⟨ws,ρ1⟩,e1,e⟩:=obs e;dsimp only at e;obtain⟨⟨ds,ρ2⟩,e2,e⟩:=obs e;dsimp only at e;split at e
 ·rename_i hl;cases e;refine⟨P,O,L,ρ,ws,ρ1,r,e1,fun vs H1 r1 l1=>?_⟩;obtain⟨r2,l2,_⟩:=k8 r1 e2 l1;exact hq _ ds vs H1 (fun v H' s d=>q v H1 H' r2 s d) (by rw[<-b8 l2];exact zP hl t6) l2
 ·cases e
theorem u7 {k:Nat}(ha:QA X es fa):QX X (.Tuple es k pos) (fTup fa):=⟨PE.weak (a6B ha.to) fun σ H Q h=>a1j (mk:=fun ds=>.v (.tup ds)) (fun A ds vs H q hl l=>⟨hl,fun p hp=>q _ _ (j4 hp _) (F0 hp l)⟩) h⟩
theorem w4 (ha:QA X es fa):QX X (.List es pos) (fLst fa):=⟨PE.weak (b1E ha.to) fun σ H Q h=>a1j (mk:=fun ds=>.o (.lst ds)) (fun A ds vs H q hl l=>⟨hl,fun p hp=>q _ _ (j4 hp _) (F6 hp l)⟩) h⟩
def items:D->Option (List D)
 | .tup xs=>some xs
 | .lst xs=>some xs
 | _=>none
theorem B6 {K:PySem.W.Frag}{A:Av}{H:Hp}{d:D}{xs:List D}{v:V}(e:items d=some xs)(h:DenR K A H d v):∃a vs,v= .ref a/\(SqL K H a vs\/SqT K H a vs)/\DenL K A H xs vs:=by
 cases d<;>simp only[items] at e<;>cases e
 ·have h:Den K A H (.tup xs) v:=h;rw[Den] at h;obtain⟨a,vs,e,hq,l⟩:=h;exact⟨a,vs,e,.inr hq,l⟩
 ·obtain⟨a,vs,e,hq,l⟩:=h;exact⟨a,vs,e,.inl hq,l⟩
def strAt (x:Str) (i:Int):Option W:=if x.length<=lim then(atI x.cps.toList i).map fun c=>.v (.str ⟨#[c]⟩) else none
def oIx (x y:D):Option W:=match x,y with
 | .str x,.int i=>strAt x i
 | x,.int i=>(items x).bind fun xs=>(atI xs i).map .v
 | _,_=>none
theorem a8J {K:PySem.W.Frag}{A:Av}{H:Hp}{xs:List D}{vs:List V}{i:Int}{d:D}(l:DenL K A H xs vs)(e:atI xs i=some d):∃v,atI vs i=some v/\Den K A H d v:=by
 unfold atI at e ⊢;rw[<-b8 l];cases q:ixN xs.length i with
 | none=>rw[q] at e;cases e
 | some j=>rw[q] at e;exact t8 l e
theorem k_ix:Pr2 X oIx (rIx X.K):=by
 intro A x y w v u H Q _ e hx hy q;unfold oIx at e;split at e
 ·rename_i z i;unfold strAt at e;split at e
  ·rename_i hl;obtain⟨ch,e1,e⟩:=oms e;cases e;have hx:Den X.K A H (.str z) v:=hx;exact .inr (.inr ⟨z,i,ch,Z8.mp hx,g8 hy,zP hl t6,e1,q _ H (Same.refl H) a66⟩)
  ·cases e
 ·rename_i i _;cases e1:items x with
  | none=>rw[e1] at e;cases e
  | some xs=>
   rw[e1] at e;simp only[bind_some] at e;obtain⟨d,e2,e⟩:=oms e;cases e;obtain⟨a,vs,rfl,hq,l⟩:=B6 e1 hx;obtain⟨v',h1,h2⟩:=a8J l e2;rcases hq with hq|hq
   ·exact .inl ⟨a,vs,i,v',rfl,g8 hy,hq,h1,q _ H (Same.refl H) h2⟩
   ·exact .inr (.inl ⟨a,vs,i,v',rfl,g8 hy,hq,h1,q _ H (Same.refl H) h2⟩)
 ·cases e
def fCall (k:List D->Option W) (fa:FA):FX:=fun ρ=>(fa ρ).bind fun p=>(drs p.2 p.1).bind fun ds=>(k ds).map fun w=>(w,p.2)
def PrA (X:Cx) (k:List D->Option W) (r:List V->Hp->VK->Prop):Prop:=∀(A:Av) (ds:List D) (w:W) (vs:List V) (H:Hp) (Q:VK),(∀b,A b->∃o,H b=some o)->k ds=some w->DenRL X.K A H ds vs->(∀z H',Same H H'->DenW X.K A [] H H' w z->Q z H')->r vs H Q
theorem a1f {r:List V->Hp->VK->Prop}{k:List D->Option W}(hk:PrA X k r):∀σ H Q,tX X (fCall k fa) σ H Q->tCB r (tA X fa) σ H Q:=fun σ H Q h0=>tXe h0 fun P O L ρ w ρ' r e q=>by
 unfold fCall at e;obtain⟨⟨ws,ρ1⟩,e1,e⟩:=obs e;dsimp only at e;cases e2:drs ρ1 ws with
 | none=>rw[e2] at e;cases e
 | some ds=>
  rw[e2] at e;simp only[bind_some] at e;cases e3:k ds with
  | none=>rw[e3] at e;cases e
  | some w'=>
   rw[e3] at e;cases e;exact⟨P,O,L,ρ,ws,ρ',r,e1,fun vs H1 r1 l1=>hk _ ds w vs H1 Q (fun b z=>r1.there z) e3 (a43 r1 e2 l1) fun z H2 s2 d2=>q z H1 H2 r1 s2 d2.st⟩
theorem a0r {x:Str}{p:Pos}{id:String}{r:List V->Hp->VK->Prop}{k:List D->Option W}(hc:CallR X (.builtin id) r)(hk:PrA X k r)(hv:bootBuiltins x=some (.builtin id))(hm:X.mg x=none)(ha:QA X (e::es) fa)(hg:Gl X x)(hn:x≠"__name__")(hdb:(x==("__debug__":Str))=false)
  (he:starEach (e::es) X.env=(false,eval e X.env)::starEach es X.env) (hpl:(backTo pos (starEach es X.env)).any (·.1)=false):QX X (.Call (.Name x p) (e::es) [] pos) (fCall k fa):=⟨PE.weak (a2Z hc hg hm hv ha.to hn hdb he hpl) (a1f hk)⟩
theorem a6E {x:Str}{p:Pos}{T:String}{r:List V->Hp->VK->Prop}{k:List D->Option W}(hc:CallR X (.type T) r)(hk:PrA X k r)(hv:bootBuiltins x=some (.type T))(hm:X.mg x=none)(ha:QA X (e::es) fa)(hg:Gl X x)(hn:x≠"__name__")(hdb:(x==("__debug__":Str))=false)
  (he:starEach (e::es) X.env=(false,eval e X.env)::starEach es X.env) (hpl:(backTo pos (starEach es X.env)).any (·.1)=false):QX X (.Call (.Name x p) (e::es) [] pos) (fCall k fa):=⟨PE.weak (a6a hc hg hm hv ha.to hn hdb he hpl) (a1f hk)⟩
theorem denRL1 {K:PySem.W.Frag}{A:Av}{H:Hp}{d:D}{vs:List V}(l:DenRL K A H [d] vs):∃v,vs=[v]/\DenR K A H d v:=by
 obtain⟨v,r,rfl,h,l⟩:=l;have l:r=[]:=l;subst l;exact⟨v,rfl,h⟩
theorem denRL2 {K:PySem.W.Frag}{A:Av}{H:Hp}{d d':D}{vs:List V}(l:DenRL K A H [d,d'] vs):∃v v',vs=[v,v']/\DenR K A H d v/\DenR K A H d' v':=by
 obtain⟨v,r,rfl,h,l⟩:=l;obtain⟨v',rfl,h'⟩:=denRL1 l;exact⟨v,v',rfl,h,h'⟩
end
inductive R where
 | nx (ρ:Ev)|bk (ρ:Ev)|ct (ρ:Ev)|rt (w:W) (ρ:Ev)
abbrev FS:=Ev->Option R
abbrev A0 (O:Av) (L:List (Option Nat×Addr)):Av:=fun b=>O b\/∃i:Nat,(some i,b)∈L
def EndsOk (X:Cx) (P:List (D×V)) (O:Av) (L:List (Option Nat×Addr)) (E:Ends):R->Prop
 | .nx ρ=>∀σ H,Rep X P O L ρ σ H->E.nx σ H
 | .bk ρ=>∀σ H,Rep X P O L ρ σ H->E.bk σ H
 | .ct ρ=>∀σ H,Rep X P O L ρ σ H->E.ct σ H
 | .rt w ρ=>∀v H,(∀b o,X.H₀ b=some o->(∀i,(i,b)∉L)->H b=some o)->(∀(i:Nat) b,(some i,b)∈L->∃c,ownAt ρ i=some c/\Obj X.K (A0 O L) H b c)->DenW X.K (A0 O L) [] (hz X L) H w v->E.rt v H
def tS (X:Cx) (F:FS):TS:=fun E σ H=>∃P O L ρ r,Rep X P O L ρ σ H/\F ρ=some r/\EndsOk X P O L E r
theorem tSe {X:Cx}{F:FS}{E:Ends}{σ:L2.St}{H:Hp}{C:Prop}(h:tS X F E σ H)(k:∀P O L ρ r,Rep X P O L ρ σ H->F ρ=some r->EndsOk X P O L E r->C):C:=by
 obtain⟨P,O,L,ρ,r,rp,e,q⟩:=h;exact k P O L ρ r rp e q
structure QS (X:Cx) (st:Stmt) (F:FS):Prop where
 to:PS X st (tS X F)
structure QSs (X:Cx) (st:List Stmt) (F:FS):Prop where
 to:PSs X st (tS X F)
theorem PS.weak {X:Cx}{e:Stmt}{t u:TS}(h:PS X e t)(w:∀E σ H,u E σ H->t E σ H):PS X e u:=fun pins s σ H E I q=>h pins s σ H E I (w E σ H q)
theorem PSs.weak {X:Cx}{e:List Stmt}{t u:TS}(h:PSs X e t)(w:∀E σ H,u E σ H->t E σ H):PSs X e u:=fun pins s σ H E I q=>h pins s σ H E I (w E σ H q)
def fThen (F G:FS):FS:=fun ρ=>(F ρ).bind fun r=>match r with
 | .nx ρ'=>G ρ'
 | r=>some r
section
variable {X:Cx}{P:List (D×V)}{O:Av}{L:List (Option Nat×Addr)}{ρ ρ':Ev}{σ:L2.St}{H H1 H':Hp}{w:W}{d:D}{v:V}
theorem Rep.a0 (r:Rep X P O L ρ σ H){b:Addr}(z:A0 O L b):AvO O ρ σ b:=z.imp id fun⟨i,z⟩=>by
 obtain⟨d,h1,h2⟩:=r.lnd i b z;exact⟨i,_,d,h1,rfl,h2⟩
theorem Rep.lents (r:Rep X P O L ρ σ H):∀(i:Nat) b,(some i,b)∈L->∃c,ownAt ρ i=some c/\Obj X.K (A0 O L) H b c:=fun i b z=>by
 obtain⟨d,h1,h2⟩:=r.lnd i b z;obtain⟨a,h3,h4⟩:=r.obj h1 rfl;rw[h2] at h3;cases h3;exact⟨d,by unfold ownAt;rw[h1];rfl,t3 (p7 fun b z=>r.a0 z) rfl h4⟩
def bindW (ρ:Ev) (i:Nat):W->Option Ev
 | .v d=>if freeSlot ρ i=true then some (ρ.set i (some (.v d))) else none
 | .o d=>if freeSlot ρ i=true then some (ρ.set i (some (.o d))) else none
 | .r j=>(frzAt ρ j).bind fun ρ1=>match ρ1[j]? with
  | some (some (.v d))=>if freeSlot ρ1 i=true then some (ρ1.set i (some (.v d))) else none
  | _=>none
 | .l _=>none
theorem a4x {i:Nat}(r:Rep X P O L ρ σ H1)(s:Same H1 H')(h:DenW X.K (AvO O ρ σ) σ H1 H' w v)(e:bindW ρ i w=some ρ'):Rep X P O L ρ' (σ.set i (some v)) H':=by
 cases w with
 | v d=>
  rw[bindW] at e;split at e
  ·rename_i hf;cases e;exact(r.grow s).put hf h
  ·cases e
 | o d=>
  rw[bindW] at e;split at e
  ·rename_i hf;cases e;obtain⟨a,rfl,hn,ob⟩:=h;exact r.putO s hf hn ob
  ·cases e
 | r j=>
  rw[bindW] at e;cases e1:frzAt ρ j with
  | none=>rw[e1] at e;cases e
  | some ρ1=>
   rw[e1] at e;simp only[bind_some] at e;obtain⟨r1,_⟩:=(r.grow s).frz e1;split at e
   ·rename_i d q;split at e
    ·rename_i hf;cases e;obtain⟨u,q1,q2⟩:=r1.slot j _ q;have h:σ[j]? =some (some v):=h;rw[h] at q1;cases q1;exact r1.put hf q2
    ·cases e
   ·cases e
 | l d=>cases e
def retW (ρ:Ev):W->Option R
 | .v d=>some (.rt (.v d) ρ)
 | .o d=>some (.rt (.o d) ρ)
 | .r i=>match ρ[i]? with
  | some (some (.o d))=>some (.rt (.o d) ρ)
  | some (some (.v d))=>some (.rt (.v d) ρ)
  | _=>none
 | .l _=>none
theorem b0U {E:Ends}{q:R}(r:Rep X P O L ρ σ H1)(s:Same H1 H')(h:DenW X.K (AvO O ρ σ) σ H1 H' w v)(e:retW ρ w=some q)(hq:EndsOk X P O L E q):E.rt v H':=by
 have r':=r.grow s;cases w with
 | v d=>cases e;exact hq v H' r'.same r'.lents (l7 (p7 fun b z=>r.a0 z) _ _ h)
 | o d=>
  cases e;obtain⟨a,rfl,hn,ob⟩:=h;exact hq _ H' r'.same r'.lents ⟨a,rfl,r.fresh0 hn,t3 (p7 fun b z=>z.imp (fun z=>r.a0 z) id) rfl ob⟩
 | r i=>
  rw[retW] at e;have h:σ[i]? =some (some v):=h;split at e
  ·rename_i d q;cases e;obtain⟨a,h1,h2⟩:=r'.obj q rfl;rw[h] at h1;cases h1;refine hq _ H' r'.same r'.lents ⟨a,rfl,r'.new i d a q h,t3 (p7 fun b z=>?_) rfl h2⟩;rcases z with z|z
   ·exact r.a0 z
   ·rw[z];exact .inr ⟨i,_,d,q,rfl,h⟩
  ·rename_i d q;cases e;obtain⟨u,q1,q2⟩:=r'.slot i _ q;rw[h] at q1;cases q1;exact hq v H' r'.same r'.lents (l7 (p7 fun b z=>r.a0 z) _ _ q2)
  ·cases e
 | l d=>cases e
end
section
variable {X:Cx}{a b c e:Expr}{st:Stmt}{rest bd els:List Stmt}{pos:Pos}{f g:FX}{t:FT}{fa:FA}{F G:FS}
theorem v5:QSs X [] (fun ρ=>some (.nx ρ)):=⟨PSs.weak a8K fun E σ H h0=>tSe h0 fun P O L ρ r rp e q=>by cases e;exact q σ H rp⟩
theorem c5 (h1:QS X st F)(h2:QSs X rest G):QSs X (st::rest) (fThen F G):=⟨PSs.weak (a7e h1.to h2.to) fun E σ H h0=>tSe h0 fun P O L ρ r rp e q=>by
 unfold fThen at e;obtain⟨r1,e1,e⟩:=obs e;refine⟨P,O,L,ρ,r1,rp,e1,?_⟩;cases r1 with
 | nx ρ'=>exact fun σ' H' rp'=>⟨P,O,L,ρ',r,rp',e,q⟩
 | bk ρ'=>cases e;exact q
 | ct ρ'=>cases e;exact q
 | rt d ρ'=>cases e;exact q⟩
theorem c6 (h1:QS X st F):QSs X [st] F:=⟨a8F h1.to⟩
theorem a9e:QS X (.Continue pos) (fun ρ=>some (.ct ρ)):=⟨PS.weak a3l fun E σ H h0=>tSe h0 fun P O L ρ r rp e q=>by cases e;exact q σ H rp⟩
theorem a3k:QS X st (fun _=>none):=⟨PS.weak a72 fun E σ H h0=>tSe h0 fun P O L ρ r rp e q=>by cases e⟩
def fRet (f:FX):FS:=fun ρ=>(f ρ).bind fun p=>retW p.2 p.1
theorem j8 (ha:QX X e f):QS X (.Return (some e) pos) (fRet f):=⟨PS.weak (b1Q ha.to) fun E σ H h0=>tSe h0 fun P O L ρ r rp e q=>by
 unfold fRet at e;obtain⟨⟨w,ρ1⟩,e1,e⟩:=obs e
 exact⟨P,O,L,ρ,w,ρ1,rp,e1,fun v H1 H' r1 s1 d1=>b0U r1 s1 d1 e q⟩⟩
def fIfS (t:FT) (F G:FS):FS:=fun ρ=>(t ρ).bind fun p=>if p.1=true then F p.2 else G p.2
theorem K4 (hc:QT X c t)(ha:QSs X bd F)(hb:QSs X els G):QS X (.If c bd els pos) (fIfS t F G):=⟨PS.weak (ps_if hc.to ha.to hb.to) fun E σ H h0=>tSe h0 fun P O L ρ r rp e q=>by
 unfold fIfS at e;obtain⟨⟨k,ρ1⟩,e1,e⟩:=obs e;dsimp only at e;refine⟨P,O,L,ρ,k,ρ1,rp,e1,fun H1 r1=>?_⟩;cases k with
 | true=>rw[if_pos rfl] at e ⊢;exact⟨P,O,L,ρ1,r,r1,e,q⟩
 | false=>rw[if_neg zT] at e ⊢;exact⟨P,O,L,ρ1,r,r1,e,q⟩⟩
def fAsg (i:Nat) (f:FX):FS:=fun ρ=>(f ρ).bind fun p=>(bindW p.2 i p.1).map .nx
theorem j6 (i:Nat){x:Str}{pos':Pos}(hN:X.N.Nodup)(ha:QX X e f)(hi:X.N[i]? =some x:=by rfl)(hx:Loc X.env.scope x:=by first|exact Or.inl rfl|exact Or.inr rfl)(hs:swapsWith e (some (.Name x pos')) pos.line X.env=pure false:=by rfl)(hf:X.fn x=true\/X.env.scope.names.lookup x=some .local:=by first|exact .inl rfl|exact .inr rfl):
  QS X (.Assign [.Name x pos'] e pos) (fAsg i f):=⟨PS.weak (b1s hN hi hx ha.to hs hf) fun E σ H h0=>tSe h0 fun P O L ρ r rp e q=>by
 unfold fAsg at e;obtain⟨⟨w,ρ1⟩,e1,e⟩:=obs e;dsimp only at e;obtain⟨ρ2,e2,e⟩:=oms e;cases e
 exact⟨P,O,L,ρ,w,ρ1,rp,e1,fun v H1 H' r1 s1 d1=>q _ H' (a4x r1 s1 d1 e2)⟩⟩
abbrev FG:=D->Ev->Option Ev
def GOk (X:Cx) (g:TG) (gf:FG):Prop:=∀(P:List (D×V)) (O:Av) (L:List (Option Nat×Addr)) (d:D) (v:V) (ρ ρ':Ev) (σ:L2.St) (H:Hp) (Q:L2.St->Hp->Prop),Rep X P O L ρ σ H->Den X.K (AvO O ρ σ) H d v->gf d ρ=some ρ'->(∀σ' H',Rep X P O L ρ' σ' H'->Q σ' H')->g v σ H Q
structure QG (X:Cx) (tg:Expr) (gf:FG):Prop where
 to:∃g,PG X tg g/\GOk X g gf
abbrev FGs:=List D->Ev->Option Ev
structure QGs (X:Cx) (tgs:List Expr) (n:Nat) (gf:FGs):Prop where
 to:∃g,PGs X tgs g/\∀(P:List (D×V)) (O:Av) (L:List (Option Nat×Addr)) (ds:List D) (vs:List V) (ρ ρ':Ev) (σ:L2.St) (H:Hp) (Q:L2.St->Hp->Prop),Rep X P O L ρ σ H->DenL X.K (AvO O ρ σ) H ds vs->gf ds ρ=some ρ'->(∀σ' H',Rep X P O L ρ' σ' H'->Q σ' H')->g vs σ H Q
 len:∀ds ρ ρ',gf ds ρ=some ρ'->ds.length=n
def gfName (i:Nat):FG:=fun d ρ=>if freeSlot ρ i=true then some (ρ.set i (some (.v d))) else none
theorem c8 (i:Nat){x:Str}(hN:X.N.Nodup)(hi:X.N[i]? =some x:=by rfl)(hx:Loc X.env.scope x:=by first|exact Or.inl rfl|exact Or.inr rfl)(hf:X.fn x=true\/X.env.scope.names.lookup x=some .local:=by first|exact .inl rfl|exact .inr rfl):QG X (.Name x pos) (gfName i):=
 ⟨gName i,a4w hN hi hx hf,fun P O L d v ρ ρ' σ H Q r h e q=>by
  unfold gfName at e;split at e
  ·rename_i hf;cases e;exact q _ H (r.put hf h)
  ·cases e⟩
def gfNil:FGs:=fun ds ρ=>match ds with
 | []=>some ρ
 | _=>none
def gfCons (gf:FG) (gs:FGs):FGs:=fun ds ρ=>match ds with
 | d::ds=>(gf d ρ).bind (gs ds)
 | _=>none
def gfTup (gs:FGs):FG:=fun d ρ=>match d with
 | .tup ds=>gs ds ρ
 | _=>none
theorem N2:QGs X [] 0 gfNil:=⟨⟨gNil,a8N,fun P O L ds vs ρ ρ' σ H Q r l e q=>by
 cases ds with
 | nil=>cases e;rw[DenL] at l;exact⟨l,q σ H r⟩
 | cons d ds=>cases e⟩,fun ds ρ ρ' e=>by cases ds with|nil=>rfl|cons d ds=>cases e⟩
theorem holdL {P:List (D×V)}{O:Av}{L:List (Option Nat×Addr)}{σ:L2.St}:∀{ds:List D} {vs:List V} {ρ:Ev} {H:Hp},Rep X P O L ρ σ H->DenL X.K (AvO O ρ σ) H ds vs->∃P',Rep X P' O L ρ σ H/\∀ρ2 σ2 H2,Rep X P' O L ρ2 σ2 H2->Rep X P O L ρ2 σ2 H2/\DenL X.K (AvO O ρ2 σ2) H2 ds vs
 | [],vs,ρ,H,r,l=>⟨P,r,fun ρ2 σ2 H2 r2=>⟨r2,by rw[DenL] at l ⊢;exact l⟩⟩
 | d::ds,vs,ρ,H,r,l=>by
  rw[DenL] at l;obtain⟨v,rs,rfl,h,l⟩:=l;obtain⟨P',r1,k1⟩:=holdL r l
  exact⟨(d,v)::P',r1.more h,fun ρ2 σ2 H2 r2=>by
   obtain⟨r3,l3⟩:=k1 ρ2 σ2 H2 r2.less
   exact⟨r3,g7 r2.head l3⟩⟩
theorem m7 {n:Nat}{tgs:List Expr}{tg:Expr}{gf:FG}{gs:FGs}(h:QG X tg gf)(t:QGs X tgs n gs)(hs:(assignEach (tg::tgs) X.env).map (·.2)=assign tg X.env::(assignEach tgs X.env).map (·.2):=by rfl):QGs X (tg::tgs) (n+1) (gfCons gf gs):=by
 obtain⟨g,p,k⟩:=h.to;obtain⟨gg,pp,kk⟩:=t.to;refine⟨⟨gCons g gg,a7t p pp hs,fun P O L ds vs ρ ρ' σ H Q r l e q=>?_⟩,fun ds ρ ρ' e=>?_⟩
 ·cases ds with
  | nil=>cases e
  | cons d ds=>
   rw[DenL] at l;obtain⟨v,rs,rfl,hd,l⟩:=l;simp only[gfCons] at e;obtain⟨ρ1,e1,e⟩:=obs e;obtain⟨P',r1,k1⟩:=holdL r l;refine⟨v,rs,rfl,k P' O L d v ρ ρ1 σ H _ r1 hd e1 fun σ' H' r2=>?_⟩;obtain⟨r3,l3⟩:=k1 _ _ _ r2;exact kk P O L ds rs ρ1 ρ' σ' H' Q r3 l3 e q
 ·cases ds with
  | nil=>cases e
  | cons d ds=>
   simp only[gfCons] at e;cases e1:gf d ρ with
   | none=>rw[e1] at e;cases e
   | some ρ1=>rw[e1] at e;rw[qC,t.len ds ρ1 ρ' e]
theorem W3 {tgs:List Expr}{n k:Nat}{gs:FGs}(hc:X.calm=true)(h:QGs X tgs n gs)(hn:(assignEach tgs X.env).length=n:=by rfl)(hst:(assignEach tgs X.env).findIdx? (·.1)=none:=by rfl):QG X (.Tuple tgs k pos) (gfTup gs):=by
 obtain⟨gg,pp,kk⟩:=h.to;refine⟨gTup X.K n gg,b1I hc pp hn hst,fun P O L d v ρ ρ' σ H Q r hd e q=>?_⟩;cases d with
 | tup ds=>
  rw[Den] at hd;obtain⟨a,vs,ev,hq,l⟩:=hd;exact⟨a,vs,ev,hq,by rw[<-b8 l];exact h.len ds ρ ρ' e,kk P O L ds vs ρ ρ' σ H Q r l e q⟩
 | _=>cases e
def gfSub (f g:FX):FG:=fun d ρ=>(f ρ).bind fun p=>match p.1 with
 | .r j=>(g p.2).bind fun q=>(dr q.2 q.1.fz).bind fun k=>match k,ownAt q.2 j with
  | .int k,some (.lst xs)=>(ixN xs.length k).map fun n=>setOwn q.2 j (.lst (xs.set n d))
  | _,_=>none
 | _=>none
theorem b1N (ha:QX X a f)(hb:QX X b g)(hs:∀v,assign (.Subscript a b pos) X.env v=(do
   let ov <-holding [v] (eval a X.env)
   let iv <-holding [v,ov] (eval b X.env)
   standAt pos
   holding [v,ov,iv] (setItem ov iv v)
   release [v,ov,iv] []):=by intro _;rfl):QG X (.Subscript a b pos) (gfSub f g):=by
 refine⟨_,b1r ha.to hb.to a7Y hs,fun P O L d v ρ ρ' σ H Q r hd e q=>?_⟩;unfold gfSub at e;obtain⟨⟨w1,ρ1⟩,e1,e⟩:=obs e;dsimp only at e;split at e
 ·rename_i w1 j;obtain⟨⟨w2,ρ2⟩,e2,e⟩:=obs e;dsimp only at e;cases e3:dr ρ2 w2.fz with
  | none=>rw[e3] at e;cases e
  | some k=>
   rw[e3] at e;simp only[bind_some] at e;split at e
   ·rename_i _ _ i xs e4;obtain⟨n,e5,e⟩:=oms e;cases e;have r0:Rep X ((d,v)::P) O L ρ σ H:=r.more hd;refine⟨(d,v)::P,O,L,ρ,_,ρ1,r0,e1,fun o H1 H1' r1 s1 d1=>?_⟩;have d1:σ[j]? =some (some o):=d1;refine⟨(d,v)::P,O,L,ρ1,w2,ρ2,r1.grow s1,e2,fun u H2 H2' r2 s2 d2=>?_⟩;have r3:=r2.grow s2;have ki:=g8 (w9 r3 e3 (d2.fz r2 s2));obtain⟨w0,q0,ow⟩:=m9 e4;obtain⟨pa,h1,vs,h2,l⟩:=r3.obj q0 ow;rw[d1] at h1;cases h1;have av:∀b,AvO O (setOwn ρ2 j (.lst (xs.set n d))) σ b->AvO O ρ2 σ b:=fun b z=>z.imp id fun z=>(N7 e4 b).mp z;refine⟨pa,vs,i,n,rfl,ki,h2,by rw[<-b8 l];exact e5,q σ _ ((r3.less).mut e4 d1 (fun b o eb nb=>by rw[c7 nb];exact eb) ⟨_,j9,?_⟩)⟩
    have g0:Go (AvO O ρ2 σ) (AvO O ρ2 σ) (fun b=>b=pa) H2' (upd H2' pa (.lst (vs.set n v))):=⟨fun b o eb nb=>by rw[c7 nb];exact eb,fun b z=>by rw[z];exact⟨.inr ⟨j,w0,_,q0,ow,d1⟩,_,h2,trivial⟩,fun b z=>.inl z⟩
    exact n6 g0 _ _ (a20 r3.head n l)
   ·cases e
 ·cases e
def fAsgG (f:FX) (gf:FG):FS:=fun ρ=>(f ρ).bind fun p=>(takeAll p.2 [p.1.fz]).bind fun q=>match q.1 with
 | [d]=>(gf d q.2).map .nx
 | _=>none
theorem a6H {tg:Expr}{gf:FG}(ha:QX X e f)(hg:QG X tg gf)(hs:swapsWithSole [tg] e pos.line X.env=pure false:=by rfl)(hw:swappedStores [tg] e X.env=pure none:=by rfl)(h1:(assignEach [tg] X.env).map (·.2)=[assign tg X.env]:=by rfl):QS X (.Assign [tg] e pos) (fAsgG f gf):=by
 obtain⟨g,p,k⟩:=hg.to;refine⟨PS.weak (b0S ha.to p hs hw h1) fun E σ H h0=>tSe h0 fun P O L ρ r rp e q=>?_⟩;unfold fAsgG at e;obtain⟨⟨w,ρ1⟩,e1,e⟩:=obs e;dsimp only at e;obtain⟨⟨ds,ρ2⟩,e2,e⟩:=obs e;dsimp only at e;split at e
 ·rename_i d;obtain⟨ρ3,e3,e⟩:=oms e;cases e;refine⟨P,O,L,ρ,w,ρ1,rp,e1,fun v H1 H' r1 s1 d1=>?_⟩;obtain⟨r2,l2,_⟩:=k8 (vs:=[v]) (r1.grow s1) e2 ⟨v,[],rfl,d1.fz r1 s1,rfl⟩;obtain⟨v',ev,h'⟩:=denL1 l2;cases ev;exact k P O L d v ρ2 ρ3 σ H' _ r2 h' e3 fun σ' H' r'=>q σ' H' r'
 ·cases e
def fDrop (f:FX):FS:=fun ρ=>(f ρ).map fun p=>.nx p.2
theorem J4 (ha:QX X e f)(hs:swapsWith e none pos.line X.env=pure false:=by rfl):QS X (.Expr e pos) (fDrop f):=⟨PS.weak (a9g ha.to hs) fun E σ H h0=>tSe h0 fun P O L ρ r rp e q=>by
 unfold fDrop at e;obtain⟨p,e1,e⟩:=oms e;cases e
 exact⟨P,O,L,ρ,p.1,p.2,rp,e1,fun v H1 H' r1 s1 d1=>q σ H' (r1.grow s1)⟩⟩
def fPar (i j:Nat) (fa:FA):FS:=fun ρ=>(fa ρ).bind fun p=>(takeAll p.2 p.1).bind fun q=>match q.1 with
 | [d,d']=>if freeSlot q.2 i=true/\freeSlot (q.2.set i (some (.v d))) j=true then some (.nx ((q.2.set i (some (.v d))).set j (some (.v d')))) else none
 | _=>none
end
open Classical in
section
variable {X:Cx}{a b e:Expr}{body:List Stmt}{pos:Pos}{f g:FX}{t:FT}{fa:FA}{F:FS}
abbrev FI:=Ev->Option (List D×Ev)
def Wks (K:PySem.W.Frag) (P:List (D×V)) (xs:List D) (J:It):Prop:=∀(Y:Cx) (O:Av) (L:List (Option Nat×Addr)) (ρ:Ev) (σ:L2.St) (H:Hp),Y.K=K->Rep Y P O L ρ σ H->
 (∀(i:Nat) (x:D),xs[i]? =some x->J.go i H/\∀v H',J.yld i H v H'->Same H H'/\Den K (AvO O ρ σ) H' x v)/\J.stop xs.length H
def Holds (P P':List (D×V)):Prop:=∀p∈P',p∈P
theorem Rep.holds {P P':List (D×V)}{O:Av}{L:List (Option Nat×Addr)}{ρ:Ev}{σ:L2.St}{H:Hp}(r:Rep X P O L ρ σ H)(h:Holds P P'):Rep X P' O L ρ σ H:=⟨r.same,r.amb,r.len,r.slot,r.inj,r.new,r.lnt,r.lnd,fun p hp=>r.prot p (h p hp),r.gvl⟩
def tI (X:Cx) (fi:FI):TI:=fun σ H R=>∃P O L ρ xs ρ',Rep X P O L ρ σ H/\fi ρ=some (xs,ρ')/\∀J H1 P',Rep X P' O L ρ' σ H1->Holds P' P->Wks X.K P' xs J->R J H1
theorem tIe {X:Cx}{fi:FI}{σ:L2.St}{H:Hp}{R:It->Hp->Prop}{C:Prop}(h:tI X fi σ H R)(k:∀P O L ρ xs ρ',Rep X P O L ρ σ H->fi ρ=some (xs,ρ')->(∀J H1 P',Rep X P' O L ρ' σ H1->Holds P' P->Wks X.K P' xs J->R J H1)->C):C:=by
 obtain⟨P,O,L,ρ,w,ρ',r,e,q⟩:=h;exact k P O L ρ w ρ' r e q
structure QI (X:Cx) (tg iter:Expr) (fi:FI):Prop where
 to:PI X tg iter (tI X fi)
theorem PI.weak {tg e:Expr}{t u:TI}(h:PI X tg e t)(w:∀σ H Q,u σ H Q->t σ H Q):PI X tg e u:=fun pins s σ H Q I q=>h pins s σ H Q I (w σ H Q q)
def iSeq (K:PySem.W.Frag) (tl:TE):TI:=fun σ H R=>tl σ H fun x H1=>(∃a,x= .ref a/\(∃xs,SqL K H1 a xs)/\R (Itl K a) H1)\/∃a,x= .ref a/\(∃xs,SqT K H1 a xs)/\R (Itt K a) H1
theorem a8C {tg l:Expr}{tl:TE}(hl:PE X l tl):PI X tg l (iSeq X.K tl):=by
 intro pins s σ H R I h;refine thn (hl pins s σ H _ I h) fun v s1 ⟨x,H1,I1,r1,q1⟩=>?_;rcases q1 with ⟨a,e,⟨xs,hq⟩,q⟩|⟨a,e,⟨xs,hq⟩,q⟩
 ·subst e;cases r1;obtain⟨its,rv,p,hz⟩:=I1.list hq;refine wpAny_pyIter_list p.isList ?_;refine⟨s1.heap.objs.size,[s1.heap.objs.size],_,_,H1,rfl,I1.kept (t':=s1.toks) fun b o e=>zD _ e,a5u a _,⟨_,zW _ rfl,rfl,rfl⟩,fun b hb=>?_,q⟩;have e:b=s1.heap.objs.size:=by simpa using hb
  subst e;exact I1.fpOk (zF _) (I1.hok.fresh (zF _))
 ·subst e;cases r1;obtain⟨its,rv,p,hz⟩:=I1.tuple hq;refine wpAny_pyIter_tuple (show s1.heap.IsTuple a its.toArray from p) ?_;refine⟨s1.heap.objs.size,[s1.heap.objs.size],_,_,H1,rfl,I1.kept (t':=s1.toks) fun b o e=>zD _ e,a30 a _,⟨_,zW _ rfl,rfl,rfl⟩,fun b hb=>?_,q⟩;have e:b=s1.heap.objs.size:=by simpa using hb
  subst e;exact I1.fpOk (zF _) (I1.hok.fresh (zF _))
def fiSeq (f:FX):FI:=fun ρ=>(f ρ).bind fun p=>(takeAll p.2 [p.1.fz]).bind fun q=>match q.1 with
 | [d]=>(items d).map fun xs=>(xs,q.2)
 | _=>none
theorem C2 {tg l:Expr}(hl:QX X l f):QI X tg l (fiSeq f):=⟨PI.weak (a8C hl.to) fun σ H R h0=>tIe h0 fun P O L ρ xs ρ' r e q=>by
 unfold fiSeq at e;obtain⟨⟨w,ρ1⟩,e1,e⟩:=obs e;dsimp only at e;obtain⟨⟨ds,ρ2⟩,e2,e⟩:=obs e;dsimp only at e;split at e
 ·rename_i d;obtain⟨ys,e3,e⟩:=oms e;cases e;refine⟨P,O,L,ρ,w,ρ1,r,e1,fun v H1 H' r1 s1 d1=>?_⟩;obtain⟨r2,l2,_⟩:=k8 (vs:=[v]) (r1.grow s1) e2 ⟨v,[],rfl,d1.fz r1 s1,rfl⟩;obtain⟨v',ev,h'⟩:=denL1 l2;cases ev;have r3:=r2.more (p:=(d,v)) h';have hh:Holds ((d,v)::P) P:=fun p hp=>zJ _ hp;cases d with
  | tup zs=>
   cases e3;have z:=h';rw[Den] at z;obtain⟨a,vs,rfl,hq,l⟩:=z;refine .inr ⟨a,rfl,⟨vs,hq⟩,q _ H' _ r3 hh fun Y O' L' ρ' σ' Hh hY rr=>?_⟩;have z:=rr.head;rw[hY] at z;rw[Den] at z;obtain⟨a',vs,ea,hq,l⟩:=z;cases ea;refine⟨fun i x ex=>?_,vs,hq,by rw[<-b8 l];exact zF _⟩
   obtain⟨v0,hv,dv⟩:=t8 l ex;exact⟨⟨vs,v0,hq,hv⟩,fun w H' ⟨y1,y2⟩=>by subst y1;have:=y2 vs hq;rw[hv] at this;cases this;exact⟨Same.refl _,dv⟩⟩
  | lst zs=>
   cases e3;obtain⟨a,vs,rfl,hq,l⟩:=B3 h';refine .inl ⟨a,rfl,⟨vs,hq⟩,q _ H' _ r3 hh fun Y O' L' ρ' σ' Hh hY rr=>?_⟩;have z:=rr.head;rw[hY] at z;obtain⟨a',vs,ea,hq,l⟩:=B3 z;cases ea;refine⟨fun i x ex=>?_,vs,hq,by rw[<-b8 l];exact zF _⟩
   obtain⟨v0,hv,dv⟩:=t8 l ex;exact⟨⟨vs,v0,hq,hv⟩,fun w H' ⟨y1,y2⟩=>by subst y1;have:=y2 vs hq;rw[hv] at this;cases this;exact⟨Same.refl _,dv⟩⟩
  | _=>cases e3
 ·cases e⟩
def rngD (lo:Int) (n:Nat):List D:=(List.range n).map fun(i:Nat)=>D.int (lo+i)
theorem a1y {K:PySem.W.Frag}{P:List (D×V)}(lo:Int)(n:Nat):Wks K P (rngD lo n) (Itr lo n):=fun Y O L ρ σ H _ _=>by
 unfold rngD;refine⟨fun i x ex=>?_,by show(List.length _)≥n;simp⟩
 rw[qH] at ex
 by_cases hi:i<n
 ·rw[getElem?_range hi] at ex;cases ex;exact⟨hi,fun v H' ⟨y1,y2⟩=>by subst y1;exact⟨Same.refl _,v6.mpr y2⟩⟩
 ·rw[jI (by simpa using hi)] at ex;cases ex
def fiR1 (fa:FA):FI:=fun ρ=>(fa ρ).bind fun p=>match p.1 with
 | [.v (.int n)]=>if -(2^62)<=n/\n<2^62 then some (rngD 0 n.toNat,p.2) else none
 | _=>none
theorem a3m {tg:Expr}{p:Pos}(hm:X.mg "range"=none)(ha:QA X [a] fa)(hg:Gl X "range":=by rfl)(hs:starEach [a] X.env=[(false,eval a X.env)]:=by rfl):QI X tg (.Call (.Name "range" p) [a] [] pos) (fiR1 fa):=⟨PI.weak (a5E hg hm ha.to hs) fun σ H R h0=>tIe h0 fun P O L ρ xs ρ' r e q=>by
 unfold fiR1 at e;obtain⟨⟨ws,ρ1⟩,e1,e⟩:=obs e;dsimp only at e;split at e
 ·rename_i n;split at e
  ·rename_i hn;cases e;refine⟨P,O,L,ρ,_,_,r,e1,fun vs H1 r1 l1=>?_⟩;obtain⟨v,rs,rfl,h1,l1⟩:=l1;have l1:rs=[]:=l1;have h1:Den X.K (AvO O ρ' σ) H1 (.int n) v:=h1;subst l1;exact⟨n,by rw[v6.mp h1],hn.1,hn.2,q _ H1 P r1 (fun p hp=>hp) (a1y 0 _)⟩
  ·cases e
 ·cases e⟩
def fiR2 (fa:FA):FI:=fun ρ=>(fa ρ).bind fun p=>match p.1 with
 | [.v (.int m),.v (.int n)]=>if(-(2^62)<=m/\m<2^62)/\-(2^62)<=n/\n<2^62 then some (rngD m (n-m).toNat,p.2) else none
 | _=>none
theorem a9M {tg:Expr}{p:Pos}(hm:X.mg "range"=none)(ha:QA X [a,b] fa)(hg:Gl X "range":=by rfl)(hs:starEach [a,b] X.env=[(false,eval a X.env),(false,eval b X.env)]:=by rfl)(hs2:starEach [b] X.env=[(false,eval b X.env)]:=by rfl):QI X tg (.Call (.Name "range" p) [a,b] [] pos) (fiR2 fa):=⟨PI.weak (a6i hg hm ha.to hs hs2) fun σ H R h0=>tIe h0 fun P O L ρ xs ρ' r e q=>by
 unfold fiR2 at e;obtain⟨⟨ws,ρ1⟩,e1,e⟩:=obs e;dsimp only at e;split at e
 ·rename_i m n;split at e
  ·rename_i hn;cases e;refine⟨P,O,L,ρ,_,_,r,e1,fun vs H1 r1 l1=>?_⟩;obtain⟨v,rs,rfl,h1,u,rs',rfl,h2,l1⟩:=l1;have l1:rs'=[]:=l1;have h1:Den X.K (AvO O ρ' σ) H1 (.int m) v:=h1;have h2:Den X.K (AvO O ρ' σ) H1 (.int n) u:=h2;subst l1;exact⟨m,n,by rw[v6.mp h1,v6.mp h2],⟨hn.1.1,hn.1.2,hn.2.1,hn.2.2⟩,q _ H1 P r1 (fun p hp=>hp) (a1y m _)⟩
  ·cases e
 ·cases e⟩
def loopF (b:D->FS):List D->Ev->Option R
 | [],ρ=>some (.nx ρ)
 | x::xs,ρ=>(b x ρ).bind fun r=>match r with
  | .nx ρ'=>loopF b xs ρ'
  | .ct ρ'=>loopF b xs ρ'
  | .bk ρ'=>some (.nx ρ')
  | .rt d ρ'=>some (.rt d ρ')
def turnF (gf:FG) (b:FS):D->FS:=fun x ρ=>(gf x ρ).bind b
def fFor (fi:FI) (gf:FG) (b:FS):FS:=fun ρ=>(fi ρ).bind fun p=>loopF (turnF gf b) p.1 p.2
theorem E1 {tg iter:Expr}{fi:FI}{gf:FG}(hp:PassesOwn (model X.prog X.w) X.A X.env X.xe)(hc:X.calm=true)(hi:QI X tg iter fi)(hg:QG X tg gf)(hb:QSs X body F)(hs:∀x,foldedSetIterable iter X.env x=pure x:=by intro _;rfl):
  QS X (.For tg iter body [] pos) (fFor fi gf F):=by
 obtain⟨g,pg,kg⟩:=hg.to;refine⟨PS.weak (b1S hp hc hi.to pg hb.to hs) fun E σ H h0=>tSe h0 fun P O L ρ r rp e q=>?_⟩;unfold fFor at e;obtain⟨⟨xs,ρ1⟩,e1,e⟩:=obs e;dsimp only at e;refine⟨P,O,L,ρ,xs,ρ1,rp,e1,fun J H1 P' r1 hh wk=>?_⟩;refine⟨fun i m σ H=>m=xs.length-i/\i<=xs.length/\∃ρ,Rep X P' O L ρ σ H/\loopF (turnF gf F) (xs.drop i) ρ=some r,⟨xs.length,by simp,jR _,ρ1,r1,by simpa using e⟩,?_⟩
 rintro i m σ H ⟨rfl,hi,ρ,rp,e⟩;obtain⟨wi,ws⟩:=wk X O L ρ σ H rfl rp
 by_cases hlt:i<xs.length
 ·obtain⟨go,yl⟩:=wi i xs[i] (by simp[hlt])
  refine .inr ⟨go,fun σ' H'=>∃ρ,Rep X P' O L ρ σ' H'/\loopF (turnF gf F) (xs.drop (i+1)) ρ=some r,fun σ' H' h=>⟨xs.length-(i+1),by omega,rfl,hlt,h⟩,fun v H' y=>?_⟩
  obtain⟨sm,dv⟩:=yl v H' y;rw[List.drop_eq_getElem_cons hlt,loopF] at e;cases e1:turnF gf F xs[i] ρ with
  | none=>rw[e1] at e;cases e
  | some r1=>
   rw[e1] at e;simp only[bind_some] at e;unfold turnF at e1;obtain⟨ρ1,e2,e1⟩:=obs e1;refine kg P' O L xs[i] v ρ ρ1 σ _ _ (rp.grow sm) dv e2 fun σ' H2 rp'=>⟨P',O,L,ρ1,r1,rp',e1,?_⟩;cases r1 with
   | nx ρ2=>exact fun σ2 H2 rp2=>⟨ρ2,rp2,e⟩
   | ct ρ2=>exact fun σ2 H2 rp2=>⟨ρ2,rp2,e⟩
   | bk ρ2=>cases e;exact fun σ2 H2 rp2=>q σ2 H2 (rp2.holds hh)
   | rt d ρ2=>cases e;exact q
 ·have ei:i=xs.length:=by omega
  subst ei;rw[List.drop_length,loopF] at e;cases e;exact .inl ⟨ws,q σ H (rp.holds hh)⟩
end
def spF (K:PySem.W.Frag) (g:List D->Option W):Sp:=fun vs H Q _=>∃(A:Av) (ds:List D) (w:W),(∀b,A b->∃o,H b=some o)/\DenL K A H ds vs/\g ds=some w/\∀v H',Same H H'->DenW K A [] H H' w v->Q v H'
def spL (K:PySem.W.Frag) (g:D->List D->Option (W×D)):Sp:=fun vs H Q _=>∃(A:Av) (a:Addr) (c:D) (ds:List D) (us:List V) (w:W) (c':D),vs= .ref a::us/\(∀b,A b->∃o,H b=some o)/\¬A a/\Obj K (fun b=>A b\/b=a) H a c/\DenL K (fun b=>A b\/b=a) H ds us/\g c ds=some (w,c')/\
 ∀v H',(∀b o,H b=some o->b≠a->H' b=some o)->Obj K (fun b=>A b\/b=a) H' a c'->DenW K (fun b=>A b\/b=a) [] H H' w v->Q v H'
structure FnS (P:Program) (w:World) (K:PySem.W.Frag) (mg:Str->Option Value) (base:Heap) (x:Str) (k:Nat) (sp:Sp):Prop where
 ex:∃(f:Addr) (fd:FuncData) (ps:List Str),FnOk P w K mg base CX0 k f fd ps sp/\Binds K fd ps []/\PySem.W.keepIn K (.ref f)=true/\mg x=some (.ref f)
abbrev Fn (P:Program) (w:World) (K:PySem.W.Frag) (mg:Str->Option Value) (base:Heap) (x:Str) (k:Nat) (g:List D->Option W):Prop:=FnS P w K mg base x k (spF K g)
abbrev FnL (P:Program) (w:World) (K:PySem.W.Frag) (mg:Str->Option Value) (base:Heap) (x:Str) (k:Nat) (g:D->List D->Option (W×D)):Prop:=FnS P w K mg base x k (spL K g)
section
variable {P:Program}{w:World}{K:PySem.W.Frag}{mg:Str->Option Value}{base:Heap}{x:Str}{j k:Nat}
theorem FnS.mono {sp:Sp}(F:FnS P w K mg base x j sp)(h:j<=k):FnS P w K mg base x k sp:=by
 obtain⟨f,fd,ps,a,b,c,d⟩:=F.ex;exact⟨f,fd,ps,a.mono h,b,c,d⟩
end
def lfC:D->Bool
 | .lst xs=>lfL xs
 | .dT _ xs=>lfL xs
 | .dK _ xs=>lfL xs
 | _=>false
def lfW:W->Bool
 | .v d=>lf d
 | .o d=>lfC d
 | _=>false
def frzL:List W->Ev->Option Ev
 | [],ρ=>some ρ
 | .r i::ws,ρ=>(frzAt ρ i).bind (frzL ws)
 | _::ws,ρ=>frzL ws ρ
def fDef (g:List D->Option W) (fa:FA):FX:=fun ρ=>(fa ρ).bind fun p=>(drs p.2 p.1).bind fun ds=>(g ds).bind fun w=>if lfW w=true then some (w,p.2) else(frzL p.1 p.2).map fun ρ2=>(w,ρ2)
def noR (i:Nat):List W->Bool
 | []=>true
 | .r j::ws=>i != j&&noR i ws
 | _::ws=>noR i ws
def fDefL (g:D->List D->Option (W×D)) (fa:FA):FX:=fun ρ=>(fa ρ).bind fun p=>match p.1 with
 | .r i::ws=>(ownAt p.2 i).bind fun c=>(drs p.2 ws).bind fun ds=>(g c ds).bind fun z=>if noR i ws=true/\lfC z.2=true then(if lfW z.1=true then some (z.1,setOwn p.2 i z.2) else(frzL ws (setOwn p.2 i z.2)).map fun ρ2=>(z.1,ρ2)) else none
 | _=>none
section
variable {K:PySem.W.Frag}{A A':Av}{H H':Hp}
theorem Q7 (g:∀b o,H b=some o->¬Mu o->H' b=some o){a:Addr}{d:D}(f:lfC d=true)(hk:H' a=H a)(h:Obj K A H a d):Obj K A' H' a d:=by
 cases d with
 | lst xs=>obtain⟨vs,e,l⟩:=h;exact⟨vs,hk.trans e,S0 g _ _ f l⟩
 | dT ks xs=>obtain⟨vs,e,hl,l⟩:=h;exact⟨vs,hk.trans e,hl,S0 g _ _ f l⟩
 | dK ks xs=>obtain⟨vs,e,hl,l⟩:=h;exact⟨vs,hk.trans e,hl,S0 g _ _ f l⟩
 | _=>exact h.elim
end
section
variable {X:Cx}{P:List (D×V)}{O:Av}{L:List (Option Nat×Addr)}{ρ ρ':Ev}{σ:L2.St}{H:Hp}
theorem I0:∀{ws:List W} {ρ ρ':Ev},Rep X P O L ρ σ H->frzL ws ρ=some ρ'->Rep X P O L ρ' σ H/\∀(j:Nat) (w:W) (d:D),ρ'[j]? =some (some w)->w.own=some d->ρ[j]? =some (some w)/\W.r j∉ws
 | [],ρ,ρ',r,e=>by cases e;exact⟨r,fun j w d e1 _=>⟨e1,by simp⟩⟩
 | .r i::ws,ρ,ρ',r,e=>by
  rw[frzL] at e;obtain⟨ρ1,e1,e⟩:=obs e;obtain⟨r1,k1⟩:=r.frz e1;obtain⟨r2,k2⟩:=I0 r1 e;refine⟨r2,fun j w d e1 e2=>?_⟩;obtain⟨a1,a2⟩:=k2 j w d e1 e2;obtain⟨b1,b2⟩:=k1 j w d a1 e2;exact⟨b1,fun z=>(zK.mp z).elim (fun z=>by cases z;exact b2 rfl) a2⟩
 | .v _::ws,ρ,ρ',r,e=>by
  obtain⟨r2,k2⟩:=I0 (ws:=ws) r e;exact⟨r2,fun j w d e1 e2=>⟨(k2 j w d e1 e2).1,fun z=>(zK.mp z).elim (fun z=>by cases z) (k2 j w d e1 e2).2⟩⟩
 | .o _::ws,ρ,ρ',r,e=>by
  obtain⟨r2,k2⟩:=I0 (ws:=ws) r e;exact⟨r2,fun j w d e1 e2=>⟨(k2 j w d e1 e2).1,fun z=>(zK.mp z).elim (fun z=>by cases z) (k2 j w d e1 e2).2⟩⟩
 | .l _::ws,ρ,ρ',r,e=>by
  obtain⟨r2,k2⟩:=I0 (ws:=ws) r e;exact⟨r2,fun j w d e1 e2=>⟨(k2 j w d e1 e2).1,fun z=>(zK.mp z).elim (fun z=>by cases z) (k2 j w d e1 e2).2⟩⟩
def Handed (ρ:Ev) (σ:L2.St) (ws:List W) (b:Addr):Prop:=∃(i:Nat) (w:W) (d:D),W.r i∈ws/\ρ[i]? =some (some w)/\w.own=some d/\σ[i]? =some (some (V.ref b))
theorem W1 {B:Av}(r:Rep X P O L ρ σ H)(hB:∀b,B b->AvO O ρ σ b):∀{ws:List W} {ds:List D} {vs:List V},(∀b,B b->¬Handed ρ σ ws b)->drs ρ ws=some ds->DenA X.K (AvO O ρ σ) σ H ws vs->DenL X.K B H ds vs
 | [],ds,vs,n,e,h=>by cases e;have h:vs=[]:=h;subst h;exact j3
 | w::ws,ds,vs,n,e,h=>by
  obtain⟨v,rs,rfl,h1,h2⟩:=h;rw[drs] at e;cases e1:dr ρ w with
  | none=>rw[e1] at e;cases e
  | some d=>
   cases e2:drs ρ ws with
   | none=>rw[e1,e2] at e;cases e
   | some dd=>
    rw[e1,e2] at e;cases e;refine g7 ?_ (W1 r hB (fun b z y=>n b z (let ⟨i,w,d,m,q⟩:=y;⟨i,w,d,zJ _ m,q⟩)) e2 h2);cases w with
    | v c=>cases e1;exact l7 (p7 hB) _ _ h1
    | r i=>
     have h1:σ[i]? =some (some v):=h1;rw[dr] at e1;cases q:ρ[i]? with
     | none=>rw[q] at e1;cases e1
     | some o=>
      rw[q] at e1;cases o with
      | none=>cases e1
      | some w'=>
       cases w' with
       | v c=>
        cases e1;obtain⟨u,q1,q2⟩:=r.slot i _ q;rw[h1] at q1;cases q1;exact l7 (p7 hB) _ _ q2
       | _=>
        obtain⟨a,q1,q2⟩:=r.obj q e1;rw[h1] at q1;cases q1;exact T2 (t3 (p7 hB) rfl q2) fun z=>n a z ⟨i,_,d,zG,q,e1,h1⟩
    | _=>cases e1
theorem P8 {ws:List W}(r:Rep X P O L ρ σ H)(k:∀(j:Nat) (w:W) (d:D),ρ'[j]? =some (some w)->w.own=some d->ρ[j]? =some (some w)/\W.r j∉ws){b:Addr}(z:AvO O ρ' σ b):AvO O ρ σ b/\¬Handed ρ σ ws b:=by
 refine⟨z.imp id fun⟨j,w,d,e1,e2,e3⟩=>⟨j,w,d,(k j w d e1 e2).1,e2,e3⟩,fun⟨i,w,d,m,q1,q2,q3⟩=>?_⟩;rcases z with z|⟨j,w',d',e1,e2,e3⟩
 ·exact r.ambN z ⟨i,w,d,q1,q2,q3⟩
 ·obtain⟨a1,a2⟩:=k j w' d' e1 e2
  have:=r.inj i j w w' d d' b q1 q2 q3 a1 e2 e3
  subst this;exact a2 m
end
section
variable {X:Cx}{e:Expr}{es:List Expr}{pos p:Pos}{fa:FA}{x:Str}{k:Nat}
theorem k5 {g:List D->Option W}(F:Fn X.prog X.w X.K X.mg X.base x k g)(hr:Room k X.A)(ha:QA X (e::es) fa)(hg:Gl X x:=by rfl)(hdb:(x==("__debug__":Str))=false:=by decide)
  (he:starEach (e::es) X.env=(false,eval e X.env)::starEach es X.env:=by rfl) (hpl:(backTo pos (starEach es X.env)).any (·.1)=false:=by rfl):QX X (.Call (.Name x p) (e::es) [] pos) (fDef g fa):=by
 obtain⟨f,fd,ps,F,b,kp,hm⟩:=F.ex;refine⟨PE.weak (a4E F hr hg hm kp b .nil pass0 ha.to hdb he hpl) fun σ H Q h0=>tXe h0 fun P O L ρ w ρ' r e q=>?_⟩;unfold fDef at e;obtain⟨⟨ws,ρ1⟩,e1,e⟩:=obs e;dsimp only at e;cases e2:drs ρ1 ws with
 | none=>rw[e2] at e;cases e
 | some ds=>
  rw[e2] at e;simp only[bind_some] at e;cases e3:g ds with
  | none=>rw[e3] at e;cases e
  | some w1=>
   rw[e3] at e;simp only[bind_some] at e;refine⟨P,O,L,ρ,ws,ρ1,r,e1,fun vs H1 r1 l1=>?_⟩;refine⟨fun b=>AvO O ρ1 σ b/\¬Handed ρ1 σ ws b,ds,w1,fun b z=>r1.there z.1,by rw[jP];exact W1 r1 (fun b z=>z.1) (fun b z=>z.2) e2 l1,e3,fun v H2 s2 d2=>?_⟩
   split at e
   ·rename_i hl;cases e;refine q v H1 H2 r1 s2 ?_;cases w with
    | v d=>exact a3T (fun _ _ e _=>e) _ _ hl d2
    | o d=>obtain⟨a,ev,hn,ob⟩:=d2;exact⟨a,ev,hn,Q7 (fun _ _ e _=>e) hl rfl ob⟩
    | _=>cases hl
   ·obtain⟨ρ2,e4,e⟩:=oms e;cases e;obtain⟨r2,k2⟩:=I0 r1 e4;refine q v H1 H2 r2 s2 ?_;have sub:=fun b (z:AvO O ρ' σ b)=>P8 r1 k2 z;cases w with
    | v d=>exact l7 (p7 sub) _ _ d2
    | o d=>obtain⟨a,ev,hn,ob⟩:=d2;exact⟨a,ev,hn,t3 (p7 fun b z=>z.imp (sub b) id) rfl ob⟩
    | r i=>exact absurd d2 (by simp[DenW])
    | l d=>exact d2.elim
theorem N9 {i:Nat}:∀{ws:List W},noR i ws=true->W.r i∉ws
 | [],_=>by simp
 | .r j::ws,h=>by
  rw[noR,qF] at h;exact fun z=>(zK.mp z).elim (fun z=>by cases z;simp at h) (N9 h.2)
 | .v _::ws,h=>fun z=>(zK.mp z).elim (fun z=>by cases z) (N9 (ws:=ws) h)
 | .o _::ws,h=>fun z=>(zK.mp z).elim (fun z=>by cases z) (N9 (ws:=ws) h)
 | .l _::ws,h=>fun z=>(zK.mp z).elim (fun z=>by cases z) (N9 (ws:=ws) h)
theorem z3 {g:D->List D->Option (W×D)}(F:FnL X.prog X.w X.K X.mg X.base x k g)(hr:Room k X.A)(ha:QA X (e::es) fa)(hg:Gl X x:=by rfl)(hdb:(x==("__debug__":Str))=false:=by decide)
  (he:starEach (e::es) X.env=(false,eval e X.env)::starEach es X.env:=by rfl) (hpl:(backTo pos (starEach es X.env)).any (·.1)=false:=by rfl):QX X (.Call (.Name x p) (e::es) [] pos) (fDefL g fa):=by
 obtain⟨f,fd,ps,F,b,kp,hm⟩:=F.ex;refine⟨PE.weak (a4E F hr hg hm kp b .nil pass0 ha.to hdb he hpl) fun σ H Q h0=>tXe h0 fun P O L ρ w ρ' r e q=>?_⟩;unfold fDefL at e;obtain⟨⟨ws0,ρ1⟩,e1,e⟩:=obs e;dsimp only at e;split at e
 ·rename_i i ws;cases e0:ownAt ρ1 i with
  | none=>rw[e0] at e;cases e
  | some c=>
   rw[e0] at e;simp only[bind_some] at e;cases e2:drs ρ1 ws with
   | none=>rw[e2] at e;cases e
   | some ds=>
    rw[e2] at e;simp only[bind_some] at e;obtain⟨⟨w1,c'⟩,e3,e⟩:=obs e;dsimp only at e;split at e
    ·rename_i hc;refine⟨P,O,L,ρ,_,ρ1,r,e1,fun vs H1 r1 l1=>?_⟩;obtain⟨v0,us,rfl,h0,l1⟩:=l1;have h0:σ[i]? =some (some v0):=h0;obtain⟨w0,q0,ow⟩:=m9 e0;obtain⟨a,h1,ob⟩:=r1.obj q0 ow;rw[h0] at h1;cases h1;have ia:Ow ρ1 σ a:=⟨i,w0,c,q0,ow,h0⟩;have nh:¬Handed ρ1 σ ws a:=fun⟨j,w',d',m,q1,q2,q3⟩=>by
      have:=r1.inj i j w0 w' c d' a q0 ow h0 q1 q2 q3
      subst this;exact N9 hc.1 m
     have sub:∀b,((AvO O ρ1 σ b/\b≠a/\¬Handed ρ1 σ ws b)\/b=a)->AvO O ρ1 σ b:=fun b z=>z.elim (·.1) fun z=>by rw[z];exact .inr ia
     refine⟨fun b=>AvO O ρ1 σ b/\b≠a/\¬Handed ρ1 σ ws b,a,c,ds,us,w1,c',by rw[jP],fun b z=>r1.there z.1,fun z=>z.2.1 rfl,t3 (p7 sub) rfl ob,
      W1 r1 sub (fun b z=>z.elim (·.2.2) fun z=>by rw[z];exact nh) e2 l1,e3,fun v H2 k2 o2 d2=>?_⟩
     have main:∃Hx,Same Hx H2/\Rep X P O L (setOwn ρ1 i c') σ Hx/\∀A':Av,((∀b,A' b->((AvO O ρ1 σ b/\b≠a/\¬Handed ρ1 σ ws b)\/b=a))\/lfW w1=true)->DenW X.K A' σ Hx H2 w1 v:=by
      cases w1 with
      | v d=>
       refine⟨H2,Same.refl _,r1.mut e0 h0 k2 (Q7 (fun _ _ e _=>e) hc.2 rfl o2),fun A' h=>?_⟩;rcases h with h|h
       ·exact l7 (p7 h) _ _ d2
       ·exact a3T (fun _ _ e _=>e) _ _ h d2
      | o d=>
       obtain⟨ar,ev,hn,obr⟩:=d2;obtain⟨u0,eu0,_⟩:=C1 ob;obtain⟨ur,eur,mur⟩:=C1 obr;have na:a≠ar:=fun z=>by rw[z,hn] at eu0;cases eu0
       refine⟨fun b=>if b=ar then none else H2 b,fun b o eb=>?_,r1.mut e0 h0 (fun b o eb nb=>?_) (Q7 (fun b o eb nm=>?_) hc.2 (if_neg na) o2),fun A' h=>⟨ar,ev,if_pos rfl,?_⟩⟩
       ·dsimp only at eb;split at eb
        ·cases eb
        ·exact eb
       ·have:b≠ar:=fun z=>by rw[z,hn] at eb;cases eb
        show(if b=ar then none else H2 b)=some o;rw[if_neg this];exact k2 b o eb nb
       ·have:b≠ar:=fun z=>by rw[z,eur] at eb;cases eb;exact nm mur
        show(if b=ar then none else H2 b)=some o;rw[if_neg this];exact eb
       ·rcases h with h|h
        ·exact t3 (p7 fun b z=>z.imp (h b) id) rfl obr
        ·exact Q7 (fun _ _ e _=>e) h rfl obr
      | r i=>exact absurd d2 (by simp[DenW])
      | l d=>exact d2.elim
     obtain⟨Hx,sx,rx,dx⟩:=main;split at e
     ·rename_i hl;cases e;exact q v Hx H2 rx sx (dx _ (.inr hl))
     ·obtain⟨ρ2,e4,e⟩:=oms e;cases e;obtain⟨r2,k3⟩:=I0 rx e4;refine q v Hx H2 r2 sx (dx _ (.inl fun b z=>?_));obtain⟨z1,z2⟩:=P8 rx k3 z
      by_cases hb:b=a
      ·exact .inr hb
      ·refine .inl ⟨z1.imp id fun z=>(N7 e0 b).mp z,hb,fun⟨j,w',d',m,q1,q2,q3⟩=>z2 ?_⟩;have hj:i≠j:=fun z=>by subst z;exact N9 hc.1 m
       obtain⟨w2,_,es,_⟩:=P2 (d:=c') e0;exact⟨j,w',d',m,by rw[es,zU hj];exact q1,q2,q3⟩
    ·cases e
 ·cases e
end
def start0 (n:Nat) (ds:List D):Ev:=ds.map (fun d=>some (.v d))++List.replicate (n-ds.length) none
def runD (np n:Nat) (G:FS):List D->Option W:=fun ds=>if ds.length=np then match G (start0 n ds) with
 | some (.rt w _)=>some w
 | some (.nx _)=>some (.v .non)
 | _=>none else none
def runL (np n:Nat) (G:FS):D->List D->Option (W×D):=fun c ds=>if ds.length+1=np then match G (some (.l c)::start0 (n-1) ds) with
 | some (.rt w ρ)=>(ownAt ρ 0).map fun c'=>(w,c')
 | some (.nx ρ)=>(ownAt ρ 0).map fun c'=>(.v .non,c')
 | _=>none else none
section
variable {P:Program}{w:World}{K:PySem.W.Frag}{mg:Str->Option Value}{base:Heap}
theorem t5 {n i:Nat}{ds:List D}{w:W}(e:(start0 n ds)[i]? =some (some w)):∃d,ds[i]? =some d/\w= .v d:=by
 unfold start0 at e
 by_cases hi:i<ds.length
 ·rw[qA (by simpa using hi),qH] at e
  cases q:ds[i]? with
  | none=>rw[q] at e;cases e
  | some d0=>rw[q] at e;cases e;exact⟨d0,rfl,rfl⟩
 ·rw[qG (by simpa using hi),List.getElem?_replicate] at e
  split at e<;>cases e
theorem a1D {X:Cx}{ds:List D}{vs:List V}{n:Nat}{N:List Str}{H:Hp}{A:Av}(hH:X.H₀=H)(hN:N.length=n)(hA:∀b,A b->∃o,H b=some o)(l:DenL X.K A H ds vs):Rep X [] A [] (start0 n ds) (start N vs) H where
 same:=fun b o e _=>by rw[<-hH];exact e
 amb:=fun b z=>by rw[hH];exact⟨hA b z,fun i=>by simp⟩
 len:=by unfold start0 L2.start;simp[b8 l,hN]
 slot:=fun i w e=>by
  obtain⟨d,q,rfl⟩:=t5 e;obtain⟨v,h1,h2⟩:=t8 l q;refine⟨v,?_,l7 (p7 fun b z=>?_) _ _ h2⟩
  ·unfold L2.start;rw[qA (by have:=(zQ.mp h1).1;simpa using this),qH,h1];rfl
  ·rcases z with z|⟨j,w,c,e1,e2,e3⟩
   ·exact z
   ·obtain⟨d',q',rfl⟩:=t5 e1;cases e2
 inj:=fun i j w w' d d' b e1 e2=>by obtain⟨_,_,rfl⟩:=t5 e1;cases e2
 new:=fun i d b e=>by obtain⟨_,_,z⟩:=t5 e;cases z
 lnt:=fun i d e=>by obtain⟨_,_,z⟩:=t5 e;cases z
 lnd:=fun i b e=>by simp at e
 prot:=fun p hp=>by cases hp
 gvl:=fun b e=>by simp at e
theorem a37 {X:Cx}{c:D}{a:Addr}{ds:List D}{vs:List V}{n:Nat}{N:List Str}{H:Hp}{A:Av}(hH:X.H₀=H)(hN:N.length=n+1)(hA:∀b,A b->∃o,H b=some o)(hn:¬A a)(ob:Obj X.K (fun b=>A b\/b=a) H a c)(l:DenL X.K (fun b=>A b\/b=a) H ds vs):
  Rep X [] A [(some 0,a)] (some (.l c)::start0 n ds) (start N (.ref a::vs)) H:=by
 have es:start N (.ref a::vs)=some (.ref a)::(vs.map some++List.replicate (n-vs.length) none):=by unfold L2.start;simp[hN]
 have own:∀{i:Nat} {w:W} {d:D},(some (.l c)::start0 n ds)[i]? =some (some w)->w.own=some d->i=0:=fun{i w d} e1 e2=>by
  cases i with
  | zero=>rfl
  | succ i=>rw[qY] at e1;obtain⟨_,_,rfl⟩:=t5 e1;cases e2
 have av:∀b,AvO A (some (.l c)::start0 n ds) (start N (.ref a::vs)) b->A b\/b=a:=fun b z=>z.imp id fun⟨i,w,d,e1,e2,e3⟩=>by
  have:=own e1 e2
  subst this;rw[es] at e3;cases e3;rfl
 refine⟨fun b o e _=>by rw[<-hH];exact e,fun b z=>⟨by rw[hH];exact hA b z,fun i m=>?_⟩,by rw[es];unfold start0;simp[b8 l],fun i w e=>?_,fun i j w w' d d' b e1 e2 _ e3 e4 _=>(own e1 e2).trans (own e3 e4).symm,fun i d b e=>?_,fun i d e=>?_,fun i b e=>?_,(fun p hp=>by cases hp),fun b _=>⟨0,a,zN.mpr rfl⟩⟩
 ·rw[zN] at m;cases m;exact hn z
 ·cases i with
  | zero=>cases e;exact⟨.ref a,by rw[es];rfl,a,rfl,t3 (p7 av) rfl ob⟩
  | succ i=>
   rw[qY] at e;obtain⟨d,q,rfl⟩:=t5 e;obtain⟨v,h1,h2⟩:=t8 l q;refine⟨v,?_,l7 (p7 av) _ _ h2⟩;rw[es,qY,qA (by have:=(zQ.mp h1).1;simpa using this),qH,h1];rfl
 ·cases i with
  | zero=>cases e
  | succ i=>rw[qY] at e;obtain⟨_,_,z⟩:=t5 e;cases z
 ·have:=own e rfl
  subst this;exact⟨a,by rw[es];rfl,by simp⟩
 ·rw[zN] at e;cases e;exact⟨c,rfl,by rw[es];rfl⟩
theorem w6 {x:Str}{st:Stmt}{f:Addr}{fd:FuncData}{N ps:List Str}{k np n:Nat}{G:FS}(F:Fun K x x st f fd)(S:FnScope N ps (defScope st))(B:Binds K fd ps [])(hm:mg x=some (.ref f))(hp:ps.length=np)(hn:N.length=n)
  (body:∀(cdv:Value) (A:Around) (outer:List Env) (s:Shared) (H:Hp) (E:XK),Room k (A.deeper (envOfC x (defScope st) s.heap.objs.size f cdv))->
   QSs (cxOf CX0 P w K mg base N x (defScope st) f cdv A outer s H E).nox (defBody st) G):Fn P w K mg base x (k+1) (runD np n G):=by
 refine⟨f,fd,ps,F.ok S (fun vs H Q E h0=>?_) (fun cdv A outer s H vs Q E hr h0=>⟨_,(body cdv A outer s H E hr).to,?_⟩),B,F.kp,hm⟩
 ·obtain⟨A,ds,d,hA,l,e,q⟩:=h0;unfold runD at e;split at e
  ·rename_i hl;rw[<-b8 l,hl,hp]
  ·cases e
 ·obtain⟨A',ds,d,hA,l,e,q⟩:=h0;unfold runD at e;split at e
  ·rename_i hl;cases e1:G (start0 n ds) with
   | none=>rw[e1] at e;cases e
   | some r=>
    rw[e1] at e;refine⟨[],A',[],_,r,a1D rfl hn hA l,e1,?_⟩;have hz:∀{w:W} {v:V} {H':Hp},DenW K (A0 A' []) [] H H' w v->DenW K A' [] H H' w v:=fun{w v H'} h=>by
     have e0:A0 A' []=A':=funext fun b=>propext ⟨fun z=>z.elim id fun⟨i,z⟩=>by simp at z,.inl⟩
     rw[e0] at h;exact h
    cases r with
    | rt w ρ'=>cases e;exact fun v H' s' _ d1=>q v H' (fun b o eb=>s' b o eb fun i=>by simp) (hz d1)
    | nx ρ'=>cases e;exact fun σ' H' rp'=>q .non H' (fun b o eb=>rp'.same b o eb fun i=>by simp) U4
    | bk ρ'=>cases e
    | ct ρ'=>cases e
  ·cases e
theorem a3F {x:Str}{st:Stmt}{f:Addr}{fd:FuncData}{N ps:List Str}{k np n:Nat}{G:FS}(F:Fun K x x st f fd)(S:FnScope N ps (defScope st))(B:Binds K fd ps [])(hm:mg x=some (.ref f))(hp:ps.length=np)(hn:N.length=n+1)
  (body:∀(cdv:Value) (A:Around) (outer:List Env) (s:Shared) (H:Hp) (E:XK),Room k (A.deeper (envOfC x (defScope st) s.heap.objs.size f cdv))->
   QSs (cxOf CX0 P w K mg base N x (defScope st) f cdv A outer s H E).nox (defBody st) G):FnL P w K mg base x (k+1) (runL np (n+1) G):=by
 refine⟨f,fd,ps,F.ok S (fun vs H Q E h0=>?_) (fun cdv A outer s H vs Q E hr h0=>⟨_,(body cdv A outer s H E hr).to,?_⟩),B,F.kp,hm⟩
 ·obtain⟨A,a,c,ds,us,w,c',e0,hA,hna,ob,l,e,q⟩:=h0;unfold runL at e;split at e
  ·rename_i hl;rw[e0,qC,<-b8 l,hl,hp]
  ·cases e
 ·obtain⟨A',a,c,ds,us,w,c',e0,hA,hna,ob,l,e,q⟩:=h0;subst e0;unfold runL at e;split at e
  ·rename_i hl;rw[Nat.add_sub_cancel] at e;cases e1:G (some (.l c)::start0 n ds) with
   | none=>rw[e1] at e;cases e
   | some r=>
    rw[e1] at e;refine⟨[],A',[(some 0,a)],_,r,a37 rfl hn hA hna ob l,e1,?_⟩;have ea:A0 A' [(some 0,a)]=fun b=>A' b\/b=a:=funext fun b=>propext (or_congr Iff.rfl ⟨fun⟨i,z⟩=>by rw[zN] at z;cases z;rfl,fun z=>⟨0,by rw[z];exact zN.mpr rfl⟩⟩)
    have nl:∀{b:Addr},b≠a->∀i,(i,b)∉[(some 0,a)]:=fun n i z=>by rw[zN] at z;cases z;exact n rfl
    cases r with
    | rt w0 ρ'=>
     refine fun v H' s' ln d1=>?_;obtain⟨c0,h1,h2⟩:=ln 0 a (zN.mpr rfl);simp only[h1,jH] at e;cases e;rw[ea] at h2 d1;exact q v H' (fun b o eb n=>s' b o eb (nl n)) h2 d1
    | nx ρ'=>
     refine fun σ' H' rp'=>?_;obtain⟨c0,h1,h2⟩:=rp'.lents 0 a (zN.mpr rfl);simp only[h1,jH] at e;cases e;rw[ea] at h2;exact q .non H' (fun b o eb n=>rp'.same b o eb (nl n)) h2 U4
    | bk ρ'=>cases e
    | ct ρ'=>cases e
  ·cases e
end
@[elab_as_elim] theorem us1 {α:Type} {C:List α->Prop} {us:List α} (h:us.length=1) (k:∀a,C [a]):C us:=by
 match us,h with
 | [a],_=>exact k a
@[elab_as_elim] theorem us2 {α:Type} {C:List α->Prop} {us:List α} (h:us.length=2) (k:∀a b,C [a,b]):C us:=by
 match us,h with
 | [a,b],_=>exact k a b
@[elab_as_elim] theorem us3 {α:Type} {C:List α->Prop} {us:List α} (h:us.length=3) (k:∀a b c,C [a,b,c]):C us:=by
 match us,h with
 | [a,b,c],_=>exact k a b c
@[elab_as_elim] theorem us4 {α:Type} {C:List α->Prop} {us:List α} (h:us.length=4) (k:∀a b c d,C [a,b,c,d]):C us:=by
 match us,h with
 | [a,b,c,d],_=>exact k a b c d
@[elab_as_elim] theorem us5 {α:Type} {C:List α->Prop} {us:List α} (h:us.length=5) (k:∀a b c d e,C [a,b,c,d,e]):C us:=by
 match us,h with
 | [a,b,c,d,e],_=>exact k a b c d e
section
variable {X:Cx}{a b e:Expr}{es:List Expr}{pos:Pos}{f g h:FX}{t u:FT}
theorem a5s {K:PySem.W.Frag}{A:Av}{H:Hp}{i:Bool}{v:V}(h:DenR K A H (.bl i) v):v= .bl i:=by
 have h:Den K A H (.bl i) v:=h;exact W6.mp h
theorem a22 {K:PySem.W.Frag}{A:Av}{H:Hp}{i:Str}{v:V}(h:DenR K A H (.str i) v):v= .str i:=by
 have h:Den K A H (.str i) v:=h;exact Z8.mp h
theorem a7N {K:PySem.W.Frag}{A:Av}{H:Hp}{v:V}(h:DenR K A H .non v):v= .non:=by
 have h:Den K A H .non v:=h;exact a9u.mp h
def tyD:D->String
 | .non=>"NoneType"
 | .bl _=>"bool"
 | .int _=>"int"
 | .str _=>"str"
 | .tup _=>"tuple"
 | .dT _ _=>"dict"
 | .dK _ _=>"dict"
 | _=>"list"
def isX:D->Bool
 | .exn _=>true
 | _=>false
def isiB (T:String) (d:D):Bool:=tyD d==T||(tyD d == "bool" && T == "int")
def Kit (K:PySem.W.Frag) (T:String):Prop:=∀d:D,PySem.W.kitOne K (.type (tyD d)) (.type T)=some (isiB T d)
theorem a2n {K:PySem.W.Frag}{T:String}(h:T="int"\/T="bool"\/T="str"\/T="tuple"\/T="list"):Kit K T:=by
 rcases h with h|h|h|h|h<;>subst h<;>intro d<;>cases d<;>rfl
theorem a6k {T:String}(hk:Kit X.K T):CallR X (.builtin "isinstance") (fun xs H Q=>∃x A d,xs=[x,.ty T]/\isX d=false/\DenR X.K A H d x/\Q (.bl (isiB T d)) H):=by
 intro pins s σ H xs us Q I r h;obtain⟨x,A,d,rfl,nx,hd,q⟩:=h;obtain⟨u,w,rfl,ru,rw'⟩:=vals2 r;cases(show w=Value.type T from rw');have e:=hk d;have fin:∀tk,EP X pins σ Q (.bool (isiB T d)) {s with toks:=tk}:=fun tk=>⟨.bl _,H,I.tok _,rfl,q⟩
 cases d with
 | non=>have hd:=a7N hd;subst hd;cases(show u=Value.none from ru);exact jT PySem.W.kitx_none I.kIn True.intro e (fun z=>nomatch z) fin
 | bl y=>have hd:=a5s hd;subst hd;cases(show u=Value.bool y from ru);exact jT PySem.W.kitx_bool I.kIn True.intro e (fun z=>nomatch z) fin
 | int i=>have hd:=g8 hd;subst hd;obtain⟨t,z⟩:=(show ∃t,u=Value.int i t from ru);cases z;exact jT PySem.W.kitx_int I.kIn True.intro e (fun z=>nomatch z) fin
 | str y=>have hd:=a22 hd;subst hd;obtain⟨t,z⟩:=(show ∃t,u=Value.str y t from ru);cases z;exact jT PySem.W.kitx_str I.kIn True.intro e (fun z=>nomatch z) fin
 | tup ys=>
  have hd:Den X.K A H (.tup ys) x:=hd;rw[Den] at hd;obtain⟨a,vs,rfl,hq,_⟩:=hd;cases(show u=Value.ref a from ru);obtain⟨its,_,p,_⟩:=I.tuple hq;obtain⟨o,h1,h2,_⟩:=p;exact jT PySem.W.kitx_tuple I.kIn ⟨o,h1,h2⟩ e (fun z=>nomatch z) fin
 | lst ys=>
  obtain⟨a,vs,rfl,hq,_⟩:=hd;cases(show u=Value.ref a from ru);obtain⟨its,_,p,_⟩:=I.list hq;obtain⟨o,n,h1,h2,_⟩:=p;exact jT PySem.W.kitx_list I.kIn ⟨o,h1,h2⟩ e (fun z=>nomatch z) fin
 | dK ks ys=>
  obtain⟨a,vs,rfl,hq,_⟩:=hd;cases(show u=Value.ref a from ru);obtain⟨_,_,vs,_,p⟩:=(show ObjOk X.prog X.w H s.heap a (.dK _) from I.hok a _ hq);obtain⟨o,es,h1,h2,_⟩:=p;exact jT PySem.W.kitx_dict I.kIn ⟨o,h1,h2.1⟩ e (fun z=>nomatch z) fin
 | dT ks ys=>
  obtain⟨a,vs,rfl,hq,_⟩:=hd;cases(show u=Value.ref a from ru);obtain⟨_,_,xs,_,o,es,h1,h2,_⟩:=(show ObjOk X.prog X.w H s.heap a (.dT _) from I.hok a _ hq);exact jT PySem.W.kitx_dict I.kIn ⟨o,h1,h2.1⟩ e (fun z=>nomatch z) fin
 | exn C=>cases nx
def oIsi (T:String) (d:D):Option W:=if isX d=true then none else some (.v (.bl (isiB T d)))
theorem a2f {T:String}{x:Str}{p p2:Pos}(hk:Kit X.K T)(hm:X.mg "isinstance"=none)(hmT:X.mg x=none)(ha:QX X e f)(hT:bootBuiltins x=some (.type T):=by rfl)(hb:bootBuiltins "isinstance"=some (.builtin "isinstance"):=by rfl)(hg:Gl X "isinstance":=by rfl)(hgT:Gl X x:=by rfl)(hn:x≠"__name__":=by decide)(hdb:(x==("__debug__":Str))=false:=by decide)
  (he:starEach [e,.Name x p2] X.env=(false,eval e X.env)::starEach [.Name x p2] X.env:=by rfl) (hpl:(backTo pos (starEach [.Name x p2] X.env)).any (·.1)=false:=by rfl) (hs:starEach [.Name x p2] X.env=(false,eval (.Name x p2) X.env)::starEach [] X.env:=by rfl):QX X (.Call (.Name "isinstance" p) [e,.Name x p2] [] pos) (fUn (oIsi T) f):=
 ⟨PE.weak (a2Z (a6k hk) hg hm hb (a2r ha.to (a2r (a9y (v:=.ty T) hgT hmT hT rfl hn hdb) a6V hs) he) (by decide) (by decide) he hpl) fun σ H Q h=>
  a2w (r:=fun v H Q=>∃x A d,[v,V.ty T]=[x,.ty T]/\isX d=false/\DenR X.K A H d x/\Q (.bl (isiB T d)) H) (fun A x w v H Q _ e hx q=>by
   unfold oIsi at e;split at e
   ·cases e
   ·rename_i nx;cases e;exact⟨v,A,x,rfl,by simpa using nx,hx,q _ H (Same.refl H) v4⟩) σ H Q h⟩
def isD:D->D->Option Bool
 | .non,.non=>some true
 | d,.non=>some false
 | .bl a,.bl b=>some (a==b)
 | _,.bl _=>some false
 | _,_=>none
def rD2 (K:PySem.W.Frag) (t:D->D->Option Bool) (neg:Bool):R2:=fun v u H Q=>∃A x y k,t x y=some k/\DenR K A H x v/\DenR K A H y u/\Q (.bl (if neg then !k else k)) H
def oD2 (t:D->D->Option Bool) (neg:Bool) (x y:D):Option W:=(t x y).map fun k=>.v (.bl (if neg then !k else k))
theorem kD2 {t:D->D->Option Bool}{neg:Bool}:Pr2 X (oD2 t neg) (rD2 X.K t neg):=by
 intro A x y w v u H Q _ e hx hy q;unfold oD2 at e;cases e1:t x y with
 | none=>rw[e1] at e;cases e
 | some k=>rw[e1] at e;cases e;exact⟨A,x,y,k,e1,hx,hy,q _ H (Same.refl H) v4⟩
def flatE:D->D->Option Bool
 | .non,.non=>some true
 | .non,.int _=>some false
 | .int _,.non=>some false
 | .bl a,.bl b=>some (a==b)
 | .bl a,.int b=>some ((if a then 1 else 0)==b)
 | .int a,.bl b=>some (a==(if b then 1 else 0))
 | .int a,.int b=>some (a==b)
 | .str a,.str b=>some (a==b)
 | _,_=>none
def deqL (eq:D->D->Option Bool):List D->List D->Option Bool
 | [],[]=>some true
 | [],_::_=>some false
 | _::_,[]=>some false
 | x::xs,y::ys=>(eq x y).bind fun p=>(deqL eq xs ys).map fun q=>p&&q
def deq:Nat->D->D->Option Bool
 | 0,x,y=>flatE x y
 | n+1,.tup xs,.tup ys=>deqL (deq n) xs ys
 | n+1,.lst xs,.lst ys=>deqL (deq n) xs ys
 | _+1,x,y=>flatE x y
theorem a4e {K:PySem.W.Frag}{A:Av}{H:Hp}{x y:D}{v u:V}{k:Bool}(e:flatE x y=some k)(hx:DenR K A H x v)(hy:DenR K A H y u):Den K A H x v/\Den K A H y u:=by
 cases x<;>cases y<;>simp only[flatE] at e<;>cases e<;>exact⟨hx,hy⟩
theorem a1H {K:PySem.W.Frag}{O:Av}{H:Hp}{A:Around}{s:Shared}{x y:D}{v u:V}{vv uu:Value}{k:Bool}(e:flatE x y=some k)(hx:DenR K O H x v)(hy:DenR K O H y u)(rx:RelV v vv)(ry:RelV u uu):SeqAt.EqAt A s vv uu k/\SeqAt.RcAt A s vv uu k/\SeqAt.RcNeAt A s vv uu (!k):=by
 obtain⟨hx,hy⟩:=a4e e hx hy;cases x<;>cases y<;>simp only[flatE] at e<;>cases e<;>rw[Den] at hx<;>rw[Den] at hy<;>subst hx<;>subst hy
 ·cases(show vv=Value.none from rx);cases(show uu=Value.none from ry);exact⟨.same _,.none_none,.none_none⟩
 ·cases(show vv=Value.none from rx);obtain⟨t,z⟩:=(show ∃t,uu=Value.int _ t from ry);cases z;exact⟨.none_int _ _,.none_int _ _,.none_int _ _⟩
 ·cases(show vv=Value.bool _ from rx);cases(show uu=Value.bool _ from ry);exact⟨.bool_bool _ _,.bool_bool _ _,.bool_bool _ _⟩
 ·cases(show vv=Value.bool _ from rx);obtain⟨t,z⟩:=(show ∃t,uu=Value.int _ t from ry);cases z;exact⟨.bool_int _ _ _,.bool_int _ _ _,.bool_int _ _ _⟩
 ·cases(show uu=Value.none from ry);obtain⟨t,z⟩:=(show ∃t,vv=Value.int _ t from rx);cases z;exact⟨.int_none _ _,.int_none _ _,.int_none _ _⟩
 ·cases(show uu=Value.bool _ from ry);obtain⟨t,z⟩:=(show ∃t,vv=Value.int _ t from rx);cases z;exact⟨.int_bool _ _ _,.int_bool _ _ _,.int_bool _ _ _⟩
 ·obtain⟨t,z⟩:=(show ∃t,vv=Value.int _ t from rx);cases z;obtain⟨t,z⟩:=(show ∃t,uu=Value.int _ t from ry);cases z;exact⟨.int_int _ _ _ _,.int_int _ _ _ _,.int_int _ _ _ _⟩
 ·obtain⟨t,z⟩:=(show ∃t,vv=Value.str _ t from rx);cases z;obtain⟨t,z⟩:=(show ∃t,uu=Value.str _ t from ry);cases z;exact⟨.str_str _ _ _ _,.str_str _ _ _ _,.str_str _ _ _ _⟩
theorem a1V {K:PySem.W.Frag}{O:Av}{H:Hp}{x y:D}{v:V}{k:Bool}(e:flatE x y=some k)(hx:DenR K O H x v)(hy:DenR K O H y v):k=true:=by
 obtain⟨hx,hy⟩:=a4e e hx hy;cases x<;>cases y<;>simp only[flatE] at e<;>cases e<;>rw[Den] at hx<;>rw[Den] at hy
 all_goals first
  | rfl
  | (rw[hx] at hy;cases hy;simp)
  | (rw[hx] at hy;cases hy)
theorem a2q {K:PySem.W.Frag}{O:Av}{H:Hp}{A:Around}{s:Shared}{eq:D->D->Option Bool}(hq:∀x y v u vv uu k,eq x y=some k->Den K O H x v->Den K O H y u->RelV v vv->RelV u uu->SeqAt.EqAt A s vv uu k):
  ∀{xs ys:List D} {vs us:List V} {its jts:List Value} {k:Bool},deqL eq xs ys=some k->DenL K O H xs vs->DenL K O H ys us->Vals vs its->Vals us jts->
   ∃e:Nat->Bool,(∀j (h1:j<its.toArray.size) (h2:j<jts.toArray.size),SeqAt.EqAt A s its.toArray[j] jts.toArray[j] (e j))/\k=((List.range (min its.toArray.size jts.toArray.size)).all e&&its.toArray.size==jts.toArray.size)
 | [],[],vs,us,its,jts,k,e,hx,hy,rx,ry=>by
  rw[DenL] at hx hy;subst hx;subst hy;cases rx;cases ry;cases e;exact⟨fun _=>true,fun j h1 h2=>absurd h1 (by simp),rfl⟩
 | [],y::ys,vs,us,its,jts,k,e,hx,hy,rx,ry=>by
  rw[DenL] at hx;rw[DenL] at hy;subst hx;obtain⟨u,r,rfl,_,_⟩:=hy;cases rx;cases ry;cases e;exact⟨fun _=>true,fun j h1 h2=>absurd h1 (by simp),by simp⟩
 | x::xs,[],vs,us,its,jts,k,e,hx,hy,rx,ry=>by
  rw[DenL] at hx;rw[DenL] at hy;subst hy;obtain⟨u,r,rfl,_,_⟩:=hx;cases rx;cases ry;cases e;exact⟨fun _=>true,fun j h1 h2=>absurd h2 (by simp),by simp⟩
 | x::xs,y::ys,vs,us,its,jts,k,e,hx,hy,rx,ry=>by
  rw[DenL] at hx hy;obtain⟨v,r,rfl,dx,lx⟩:=hx;obtain⟨u,q,rfl,dy,ly⟩:=hy;cases rx with
  | cons r1 rs1=>
   cases ry with
   | cons r2 rs2=>
    rw[deqL] at e;cases e1:eq x y with
    | none=>rw[e1] at e;cases e
    | some p=>
     cases e2:deqL eq xs ys with
     | none=>rw[e1,e2] at e;cases e
     | some q2=>
      rw[e1,e2] at e;cases e;obtain⟨w,h1,h2⟩:=a2q hq e2 lx ly rs1 rs2;refine⟨fun j=>if j=0 then p else w (j-1),fun j g1 g2=>?_,?_⟩
      ·cases j with
       | zero=>simpa using hq x y v u _ _ p e1 dx dy r1 r2
       | succ j=>
        have z:=h1 j (by simpa using g1) (by simpa using g2)
        simp only[List.getElem_toArray] at z ⊢;simpa using z
      ·rw[h2];simp only[zV,qC];rw[show min (_+1) (_+1)=min _ _+1 from Nat.succ_min_succ _ _,List.range_succ_eq_map,all_cons,List.all_map];simp[Function.comp_def,Bool.and_assoc]
theorem V8 {K:PySem.W.Frag}{O:Av}{H:Hp}{eq:D->D->Option Bool}(hq:∀x y v k,eq x y=some k->Den K O H x v->Den K O H y v->k=true):
  ∀{xs ys:List D} {vs:List V} {k:Bool},deqL eq xs ys=some k->DenL K O H xs vs->DenL K O H ys vs->k=true
 | [],[],vs,k,e,hx,hy=>by cases e;rfl
 | [],y::ys,vs,k,e,hx,hy=>by have:=b8 hx;have:=b8 hy;simp at *;walk_at "o"
 | x::xs,[],vs,k,e,hx,hy=>by have:=b8 hx;have:=b8 hy;simp at *;walk_at "o"
 | x::xs,y::ys,vs,k,e,hx,hy=>by
  rw[DenL] at hx hy;obtain⟨v,r,rfl,dx,lx⟩:=hx;obtain⟨u,q,e0,dy,ly⟩:=hy;cases e0;rw[deqL] at e;cases e1:eq x y with
  | none=>rw[e1] at e;cases e
  | some p=>
   cases e2:deqL eq xs ys with
   | none=>rw[e1,e2] at e;cases e
   | some q2=>
    rw[e1,e2] at e;cases e;rw[hq x y v p e1 dx dy,V8 hq e2 lx ly];rfl
theorem a1k {n:Nat}{x y:D}{k:Bool}(e:deq (n+1) x y=some k):flatE x y=some k\/(∃xs ys,x= .tup xs/\y= .tup ys/\deqL (deq n) xs ys=some k)\/∃xs ys,x= .lst xs/\y= .lst ys/\deqL (deq n) xs ys=some k:=by
 cases x<;>cases y<;>first
  | exact .inl e
  | exact .inr (.inl ⟨_,_,rfl,rfl,e⟩)
  | exact .inr (.inr ⟨_,_,rfl,rfl,e⟩)
theorem z0 {K:PySem.W.Frag}{O:Av}{H:Hp}{xs:List D}{v:V}(h:DenR K O H (.tup xs) v):∃a vs,v= .ref a/\SqT K H a vs/\DenL K O H xs vs:=by
 have h:Den K O H (.tup xs) v:=h;rw[Den] at h;exact h
theorem a2Q {O:Av}{pins:List (Addr×PySem.Obj)}{σ:L2.St}{H:Hp}{s:Shared}(I:Inv X pins σ H s):∀(n:Nat) (x y:D) (v:V) (k:Bool),deq n x y=some k->DenR X.K O H x v->DenR X.K O H y v->k=true
 | 0,x,y,v,k,e,hx,hy=>a1V e hx hy
 | n+1,x,y,v,k,e,hx,hy=>by
  have hs:∀x y v k,deq n x y=some k->Den X.K O H x v->Den X.K O H y v->k=true:=fun x y v k e hx hy=>a2Q I n x y v k e (B3 hx) (B3 hy);rcases a1k e with e|⟨xs,ys,rfl,rfl,e⟩|⟨xs,ys,rfl,rfl,e⟩
  ·exact a1V e hx hy
  ·obtain⟨a,vs,rfl,q1,l1⟩:=z0 hx;obtain⟨b,us,z,q2,l2⟩:=z0 hy;cases z;rw[I.tuple_inj q2 q1] at l2;exact V8 hs e l1 l2
  ·obtain⟨a,vs,rfl,q1,l1⟩:=hx;obtain⟨b,us,z,q2,l2⟩:=hy;cases z;rw[I.list_inj q2 q1] at l2;exact V8 hs e l1 l2
theorem a2e {O:Av}{pins:List (Addr×PySem.Obj)}{σ:L2.St}{H:Hp}{s:Shared}(I:Inv X pins σ H s):∀(n:Nat) (A:Around),A.units+n+1<cLine->∀(x y:D) (v u:V) (vv uu:Value) (k:Bool),deq n x y=some k->DenR X.K O H x v->DenR X.K O H y u->RelV v vv->RelV u uu->
  SeqAt.EqAt A s vv uu k/\SeqAt.RcAt A s vv uu k/\SeqAt.RcNeAt A s vv uu (!k)
 | 0,A,hA,x,y,v,u,vv,uu,k,e,hx,hy,rx,ry=>a1H e hx hy rx ry
 | n+1,A,hA,x,y,v,u,vv,uu,k,e,hx,hy,rx,ry=>by
  have hin:∀x y v u vv uu k,deq n x y=some k->Den X.K O H x v->Den X.K O H y u->RelV v vv->RelV u uu->SeqAt.EqAt A.in1 s vv uu k:=fun x y v u vv uu k e hx hy rx ry=>(a2e I n A.in1 (by show A.units+1+n+1<_;walk_at "o") x y v u vv uu k e (B3 hx) (B3 hy) rx ry).1
  have hu:A.units<cLine:=by walk_at "o"
  have done:∀(p q:Addr),v= .ref p->u= .ref q->SeqAt.RcAt A s (.ref p) (.ref q) k->SeqAt.RcNeAt A s (.ref p) (.ref q) (!k)->SeqAt.EqAt A s vv uu k/\SeqAt.RcAt A s vv uu k/\SeqAt.RcNeAt A s vv uu (!k):=fun p q ev eu rc rn=>by
   subst ev;subst eu;cases(show vv=Value.ref p from rx);cases(show uu=Value.ref q from ry);refine⟨?_,rc,rn⟩
   by_cases pq:p=q
   ·subst pq;rw[a2Q I (n+1) x y _ k e hx hy];exact .same _
   ·exact .of_refs pq rc
  rcases a1k e with e|⟨xs,ys,rfl,rfl,e⟩|⟨xs,ys,rfl,rfl,e⟩
  ·exact a1H e hx hy rx ry
  ·obtain⟨p,vs,ev,q1,l1⟩:=z0 hx;obtain⟨q,us,eu,q2,l2⟩:=z0 hy;obtain⟨its,r1,t1,_⟩:=I.tuple q1;obtain⟨jts,r2,t2,_⟩:=I.tuple q2;obtain⟨w,h1,h2⟩:=a2q hin e l1 l2 r1 r2;refine done p q ev eu ?_ ?_
   ·rw[h2];exact SeqAt.RcAt.tuples t1 t2 hu h1
   ·rw[h2];exact SeqAt.RcNeAt.tuples t1 t2 hu h1
  ·obtain⟨p,vs,ev,q1,l1⟩:=id hx;obtain⟨q,us,eu,q2,l2⟩:=id hy;obtain⟨its,r1,t1,_⟩:=I.list q1;obtain⟨jts,r2,t2,_⟩:=I.list q2;obtain⟨w,h1,h2⟩:=a2q hin e l1 l2 r1 r2
   by_cases sz:its.toArray.size=jts.toArray.size
   ·have r1:=SeqAt.RcAt.lists t1.isList t2.isList sz hu h1;have r2:=SeqAt.RcNeAt.lists t1.isList t2.isList sz hu h1;rw[sz,Nat.min_self,show(jts.toArray.size==jts.toArray.size)=true by simp,Bool.and_true] at h2
    rw[sz,<-h2] at r1 r2;exact done p q ev eu r1 r2
   ·have r1:=SeqAt.RcAt.lists_lengths (A:=A) t1.isList t2.isList (by simpa using sz) hu
    have r2:=SeqAt.RcNeAt.lists_lengths (A:=A) t1.isList t2.isList (by simpa using sz) hu
    rw[show(its.toArray.size==jts.toArray.size)=false by simpa using sz,Bool.and_false] at h2
    subst h2;exact done p q ev eu r1 r2
theorem a6z {k:Nat}(hr:Room k X.A):OpR X (compareOp .Eq) (rD2 X.K (deq 20) false):=by
 intro pins s σ H x y v u Q I rx ry ⟨A,dx,dy,k,e,hx,hy,q⟩
 have:=(a2e I 20 X.A (by have:=hr.units;walk_at "o") dx dy x y v u k e hx hy rx ry).2.1
 exact this X.prog X.w X.xe _ ⟨.bl k,H,I,rfl,q⟩
theorem b1v {k:Nat}(hr:Room k X.A):OpR X (compareOp .NotEq) (rD2 X.K (deq 20) true):=by
 intro pins s σ H x y v u Q I rx ry ⟨A,dx,dy,k,e,hx,hy,q⟩
 have:=(a2e I 20 X.A (by have:=hr.units;walk_at "o") dx dy x y v u k e hx hy rx ry).2.2
 exact this X.prog X.w X.xe _ ⟨.bl (!k),H,I,rfl,q⟩
theorem b0d {k:Nat}(hr:Room k X.A)(ha:QX X a f)(hb:QX X b g):QX X (.Compare a [.Eq] [b] pos) (fBin (oD2 (deq 20) false) f g):=a2v (a6z hr) kD2 ha hb
theorem a0s {k:Nat}(hr:Room k X.A)(ha:QX X a f)(hb:QX X b g):QT X (.Compare a [.Eq] [b] pos) (fTest (fBin (oD2 (deq 20) false) f g)):=P5 (a6z hr) kD2 ha hb
theorem a4W {k:Nat}(hr:Room k X.A)(ha:QX X a f)(hb:QX X b g):QT X (.Compare a [.NotEq] [b] pos) (fTest (fBin (oD2 (deq 20) true) f g)):=P5 (b1v hr) kD2 ha hb
end
section
variable {prog:Program}{w:World}{A:Around}{R:Result->Shared->Prop}{s:Shared}
abbrev Fa:Value->Shared->Prop:=fun _ _=>False
theorem a56 {elt tg iter:Expr}{ifs:List Expr}{scope:Scope}{pos:Pos}{it acc:Value}{env:Env}(I:Nat->Shared->Prop)
  (turn:∀n s,I n s->wpAny (model prog w) A (pyNext it) (fun r s1=>match r with
   | none=>R (.ok .next) s1
   | some v=>wpAny (model prog w) A (letOwnedTupleGo tg it v) (fun _ s2=>wpAny (model prog w) A (assign tg env v) (fun _ s3=>
     wpAny (model prog w) A (forIn ifs true fun c r=>if r=true then do let ok <-isTrue c env (eval c env);pure (ForInStep.yield ok) else pure (ForInStep.yield r)) (fun ok s4=>
      if ok=true then wpAny (model prog w) A (eval elt env) (fun x s5=>wpAny (model prog w) A (call (.builtin "list.append") [acc,x]) (fun _ s6=>∃m,m<n/\I m s6) Fa s5) Fa s4
      else ∃m,m<n/\I m s4) Fa s3) Fa s2) Fa s1) Fa s)
  (n:Nat) (h:I n s):codeAny (model prog w) A (.compLoop (.ListComp elt [⟨tg,iter,ifs,0⟩] scope pos) 0 it acc env) R s:=by
 refine codeAny_loop rfl I (fun n s hI=>?_) n h;show wpAny _ A ((compTurn (.ListComp elt [⟨tg,iter,ifs,0⟩] scope pos) 0 it acc env).onRaise (fun x=>do noteFrame x env;theTreesLotGoes x)) _ _ s
 refine wpAny_noted ?_;rw[compTurn_list];refine zA (wpAny_standAt (zA (zR (turn n s hI) (fun r s1 h1=>?_) fun _ _ z=>z.elim)));cases r with
 | none=>exact zB h1
 | some v=>
  refine zA (zR h1 (fun _ s2 h2=>zA (zR h2 (fun _ s3 h3=>zA (zR h3 (fun ok s4 h4=>?_) fun _ _ z=>z.elim)) fun _ _ z=>z.elim)) fun _ _ z=>z.elim);cases ok with
  | true=>
   rw[if_pos rfl] at h4 ⊢;exact zA (zA (zR h4 (fun x s5 h5=>zA (zR h5 (fun _ s6 h6=>zB (zB ⟨rfl,h6⟩)) fun _ _ z=>z.elim)) fun _ _ z=>z.elim))
  | false=>
   rw[if_neg zT] at h4 ⊢;exact zA (zB (zB ⟨rfl,h4⟩))
end
def blk (X:Cx) (scope:Scope) (cl:List (Str×Addr)) (s2:Shared) (H2:Hp) (fp:List Addr) (C:Addr) (N:List Str):Cx where
 prog:=X.prog
 w:=X.w
 K:=X.K
 mg:=X.mg
 base:=X.base
 A:=X.A
 N:=N
 s₀:=s2
 H₀:=H2
 env:=compEnvC scope cl C X.env
 outer:=X.stack
 stack:=X.stack
 ex:=fp
 fn:=fun _=>false
 calm:=X.calm
 pn:=[]
 xe:=fun _ _=>False
abbrev accN:Str:=" acc"
inductive Cap (X:Cx) (sc:Scope) (cl:List (Str×Addr)):List Str->List (Option Nat)->Prop where
 | nil:Cap X sc cl [] []
 | own {n:Str} {N:List Str} {js:List (Option Nat)} (t:Cap X sc cl N js):Cap X sc cl (n::N) (none::js)
 | cap {n:Str} {N:List Str} {j:Nat} {js:List (Option Nat)} (hj:X.N[j]? =some n) (hk:X.env.scope.names.lookup n=some .cell) (hl:sc.names.lookup n=some .cell) (hc:cl.lookup n=X.env.cells.lookup n) (t:Cap X sc cl N js):Cap X sc cl (n::N) (some j::js)
theorem Cap.len {X:Cx}{sc:Scope}{cl:List (Str×Addr)}{N:List Str}{js:List (Option Nat)}(h:Cap X sc cl N js):js.length=N.length:=by
 induction h with
 | nil=>rfl
 | own t ih=>simp[ih]
 | cap _ _ _ _ t ih=>simp[ih]
theorem Cap.get {X:Cx}{sc:Scope}{cl:List (Str×Addr)}{N:List Str}{js:List (Option Nat)}(h:Cap X sc cl N js):∀{i j:Nat} {n:Str},N[i]? =some n->js[i]? =some (some j)->X.N[j]? =some n/\X.env.scope.names.lookup n=some .cell/\sc.names.lookup n=some .cell/\cl.lookup n=X.env.cells.lookup n:=by
 induction h with
 | nil=>intro i j n e1 _;simp at e1
 | own t ih=>
  intro i j n e1 e2;cases i with
  | zero=>simp at e2
  | succ i=>exact ih (by simpa using e1) (by simpa using e2)
 | cap hj hk hl hc t ih=>
  intro i j n e1 e2;cases i with
  | zero=>simp at e1 e2;subst e1;subst e2;exact⟨hj,hk,hl,hc⟩
  | succ i=>exact ih (by simpa using e1) (by simpa using e2)
def capS (js:List (Option Nat)) (σ:L2.St):L2.St:=js.map fun o=>o.bind fun j=>(σ[j]?).join
structure Blk (X:Cx) (scope:Scope) (cl:List (Str×Addr)) (N:List Str) (js:List (Option Nat)):Prop where
 clos:closureFor scope X.env=pure cl
 kind:scope.kind= .function
 cell:∀y∈scope.names,y.2≠.cell
 nms:∀y∈scope.names,y.2= .local->scope.names.lookup y.1=some .local
 cap:Cap X (relabel scope X.env) cl N js
 sub:∀y c,cl.lookup y=some c->X.env.cells.lookup y=some c
 has:∀y,((relabel scope X.env).names.lookup y=some .cell\/(relabel scope X.env).names.lookup y=some .free)->∃c,cl.lookup y=some c
 acc:∀k,(relabel scope X.env).names.lookup accN≠some k
section
variable {X:Cx}{pins:List (Addr×PySem.Obj)}{σ:L2.St}{H2:Hp}{s2 s4:Shared}{scope:Scope}{cl:List (Str×Addr)}{N:List Str}{js:List (Option Nat)}{fp:List Addr}{Dd C:Addr}{m:Str->Option Value}
theorem b0T (I:Inv X pins σ H2 s2)(b:Blk X scope cl N js)(f2:∀y∈fp,FpOk X pins H2 y)(fl:∀y∈fp,y<s2.heap.objs.size)(hC:s2.heap.objs.size<=C):(blk X scope cl s2 H2 fp C (N++[accN])).Ok where
 mod:=I.ok.mod
 kind:=b.kind
 glob:=I.ok.glob
 blt:=I.ok.blt
 above:=hC
 inj:=fun x y c e1 e2=>I.ok.inj x y c (b.sub x c e1) (b.sub y c e2)
 has:=fun x h=>b.has x h
 cab:=fun x c h=>nomatch h
 hd:=I.ok.hd
 frames:=I.ok.frames
 stk:=.inl rfl
 exf:=fun y hy=>⟨zY (zI (fl y hy) hC),fun x c e=>(f2 y hy).2.2.2.2.1 x c (b.sub x c e)⟩
 bs:=I.bs
 bsz:=zP I.ok.bsz I.sz
 noex:=fun y o e hy=>by
  rcases(f2 y hy).2.2.2.1 with z|z
  ·exact I.ok.noex y o e z
  ·exact absurd (zI (zX e) (zP I.ok.bsz z)) (jL _)
 exfs:=fun y hy z=>(zK.mp (I.stkSub y z)).elim (f2 y hy).2.1 (f2 y hy).2.2.1
 funs:=I.stack
 frf:=I.stkFree
theorem a8W {o0:HO}(I:Inv X pins σ H2 s2)(b:Blk X scope cl N js)(f2:∀y∈fp,FpOk X pins H2 y)(fl:∀y∈fp,y<s2.heap.objs.size)(hC:s2.heap.objs.size<=C)(hD:s2.heap.objs.size<=Dd)(ne:Dd≠C)
  (ho:s4.os=s2.os) (hg:AllBare s4.gens) (kp:∀y o,s2.heap.get? y=some o->s4.heap.get? y=some o) (hn:s4.heap.Ns C m) (hk:HOk X.prog X.w (upd H2 Dd o0) s4.heap):
  Inv (blk X scope cl s2 H2 fp C (N++[accN])) [] (capS js σ++[some (.ref Dd)]) (upd H2 Dd o0) s4:=by
 have nD:∀y o,s2.heap.get? y=some o->y≠Dd:=fun y o e=>zY (zI (zX e) hD);have nH:∀y u,H2 y=some u->y≠Dd:=fun y u e=>zY (zI (I.hok.lt e) hD);have cD:∀x c,X.env.cells.lookup x=some c->c≠Dd:=fun x c e=>by
  obtain⟨v,o,e1,_⟩:=I.cell x c e;exact nD c o e1
 refine⟨b0T I b f2 fl hC,ho,hg,⟨fun y o e _ _ _=>kp y o e,fun y o e _ _ _=>⟨o.slots,kp y o e⟩,fun y o e n _=>?_,fun y o e _=>⟨o,kp y o e⟩,fun y xs e=>?_,fun y o u e=>?_,fun y ps e=>?_⟩,⟨m,hn,fun i x v e1 e2 e3=>?_⟩,fun x c e=>?_,?_,fun x c e=>?_,fun p hp=>absurd (show p∈([]:List (Addr×PySem.Obj)) from hp) (by simp),hk,?_⟩
 ·rw[c7 (nD y o e)];exact n
 ·rw[c7 (nH _ _ e)];exact e
 ·rw[c7 (nH _ _ e)];exact e
 ·have e':H2 y=some (.tbl ps):=e;exact⟨#[],by rw[c7 (nH _ _ e'),e'];simp⟩
 ·have hl:js.length=N.length:=b.cap.len
  by_cases hi:i<N.length
  ·have e1':N[i]? =some x:=by
    have z:(N++[accN])[i]? =some x:=e1;rw[qA hi] at z;exact z
   rw[qA (by unfold capS;simp;walk_at "o")] at e2
   unfold capS at e2;rw[qH] at e2;cases ej:js[i]? with
   | none=>rw[ej] at e2;cases e2
   | some o=>
    rw[ej] at e2;cases o with
    | none=>cases e2
    | some j=>
     obtain⟨c1,c2,c3,c4⟩:=b.cap.get e1' ej;simp only[jH,bind_some] at e2;have e2':σ[j]? =some (some v):=by
      cases q:σ[j]? with
      | none=>rw[q] at e2;cases e2
      | some o=>rw[q] at e2;simp at e2;rw[e2]
     obtain⟨m2,_,hl2⟩:=I.loc;obtain⟨u,r,lk⟩:=hl2 j x v c1 e2' (.inr (.inl c2));refine⟨u,r,.inr ⟨.inl c3,?_⟩⟩;rcases lk with ⟨k,_⟩|⟨_,c,e,z⟩
     ·have k':X.env.scope.names.lookup x=some .local:=k;rw[c2] at k';cases k'
     ·exact⟨c,c4.trans e,z.keeps kp⟩
  ·have hx:x=accN:=by
    have z:(N++[accN])[i]? =some x:=e1;rw[qG (by walk_at "o")] at z
    cases q:i-N.length with
    | zero=>rw[q] at z;simp at z;exact z.symm
    | succ k=>rw[q] at z;simp at z
   subst hx;rcases e3 with z|z|z
   ·exact absurd z (b.acc _)
   ·exact absurd z (b.acc _)
   ·exact absurd z (b.acc _)
 ·obtain⟨v,z⟩:=I.cell x c (b.sub x c e);exact⟨v,z.keeps kp⟩
 ·show upd H2 Dd o0 C=none;rw[c7 (qX ne)];exact I.hok.fresh hC
 ·rw[c7 (cD x c (b.sub x c e))];exact I.freeC x c (b.sub x c e)
 ·show(capS js σ++[some (V.ref Dd)]).length=(N++[accN]).length;unfold capS;simp[b.cap.len]
end
def AllC (X:Cx):List (Str×Addr)->Prop
 | []=>True
 | p::r=>X.env.cells.lookup p.1=some p.2/\AllC X r
theorem AllC.sub {X:Cx}:∀{cl:List (Str×Addr)},AllC X cl->∀y c,cl.lookup y=some c->X.env.cells.lookup y=some c
 | [],_,y,c,e=>by simp at e
 | (n,c0)::r,h,y,c,e=>by
  rw[List.lookup_cons] at e;cases q:y==n with
  | true=>
   rw[q] at e;cases e
   have:y=n:=by simpa using q
   rw[this];exact h.1
  | false=>rw[q] at e;exact AllC.sub h.2 y c e
theorem a0v {α:Type}:∀{l:List (Str×α)} {y:Str} {k:α},l.lookup y=some k->(y,k)∈l
 | [],y,k,e=>by simp at e
 | (n,a)::r,y,k,e=>by
  rw[List.lookup_cons] at e;cases q:y==n with
  | true=>
   rw[q] at e;cases e
   have:y=n:=by simpa using q
   rw[this];exact zG
  | false=>rw[q] at e;exact zJ _ (a0v e)
section
variable {X:Cx}{scope:Scope}{cl:List (Str×Addr)}{N:List Str}{js:List (Option Nat)}
theorem u6 (cap:Cap X (relabel scope X.env) cl N js)(clos:closureFor scope X.env=pure cl)(sub:AllC X cl)(has:(relabel scope X.env).names.all (fun p=>(p.2 != .cell&&p.2 != .free)||(cl.lookup p.1).isSome)=true)(kind:scope.kind= .function:=by rfl)(cell:scope.names.all (fun y=>y.2 != .cell)=true:=by decide +kernel)
  (nms:scope.names.all (fun y=>y.2 != .local||scope.names.lookup y.1==some .local)=true:=by decide +kernel) (acc:(relabel scope X.env).names.lookup accN=none:=by rfl):Blk X scope cl N js where
 clos:=clos
 kind:=kind
 cell:=fun y hy=>by have:=all_eq_true.mp cell y hy;simpa using this
 nms:=fun y hy hl=>by have:=all_eq_true.mp nms y hy;rw[hl] at this;simpa using this
 cap:=cap
 sub:=sub.sub
 has:=fun y h=>by
  have key:∀k,(relabel scope X.env).names.lookup y=some k->k= .cell\/k= .free->∃c,cl.lookup y=some c:=fun k e hk=>by
   have:=all_eq_true.mp has (y,k) (a0v e)
   rcases hk with rfl|rfl<;>simpa [isSome_iff_exists] using this
  rcases h with h|h
  ·exact key _ h (.inl rfl)
  ·exact key _ h (.inr rfl)
 acc:=fun k e=>by rw[acc] at e;cases e
end
def capW (k:Bool):W->Option W
 | .v d=>some (.v d)
 | .o d=>some (if k then .l d else .v d)
 | .l d=>some (if k then .l d else .v d)
 | .r _=>none
def capE (lj:Option Nat) (js:List (Option Nat)) (ρ:Ev):Ev:=js.map fun o=>o.bind fun j=>((ρ[j]?).join).bind (capW (lj==some j))
def Capd (ρ:Ev) (σ:L2.St) (js:List (Option Nat)) (b:Addr):Prop:=∃(j:Nat) (w:W) (d:D),some j∈js/\ρ[j]? =some (some w)/\w.own=some d/\σ[j]? =some (some (V.ref b))
def lentL (li:Option (Nat×Nat)) (σ:L2.St):List (Option Nat×Addr):=match li with
 | some (i,j)=>match σ[j]? with
  | some (some (.ref a))=>[(some i,a)]
  | _=>[]
 | none=>[]
structure LiOk (li:Option (Nat×Nat)) (js:List (Option Nat)) (ρ:Ev):Prop where
 own:∀i j,li=some (i,j)->∃c,ownAt ρ j=some c
 at':∀i j,li=some (i,j)->js[i]? =some (some j)
 one:∀i j k,li=some (i,j)->js[k]? =some (some j)->k=i
section
variable {X:Cx}{P:List (D×V)}{O:Av}{L:List (Option Nat×Addr)}{ρ:Ev}{σ:L2.St}{H2:Hp}{s2:Shared}{scope:Scope}{cl:List (Str×Addr)}{N:List Str}{js:List (Option Nat)}{fp:List Addr}{Dd C:Addr}{li:Option (Nat×Nat)}
theorem R9 {lj:Option Nat}{i:Nat}{w:W}(e:(capE lj js ρ)[i]? =some (some w)):∃j w0,js[i]? =some (some j)/\ρ[j]? =some (some w0)/\capW (lj==some j) w0=some w:=by
 unfold capE at e;rw[qH] at e;cases ej:js[i]? with
 | none=>rw[ej] at e;cases e
 | some o=>
  rw[ej] at e;cases o with
  | none=>cases e
  | some j=>
   simp only[jH,bind_some] at e;cases q:ρ[j]? with
   | none=>rw[q] at e;cases e
   | some o=>
    rw[q] at e;cases o with
    | none=>cases e
    | some w0=>exact⟨j,w0,rfl,q,qU e⟩
theorem S7 {i j:Nat}{v:V}(ej:js[i]? =some (some j))(e:σ[j]? =some (some v)):(capS js σ)[i]? =some (some v):=by
 unfold capS;rw[qH,ej];simp only[jH,bind_some];rw[e];rfl
theorem a0w {b:Addr}:(none,b)∉lentL li σ:=by
 unfold lentL
 split
 ·split
  ·simp
  ·simp
 ·simp
theorem E8 {i:Nat}{b:Addr}:(some i,b)∈lentL li σ↔∃j,li=some (i,j)/\σ[j]? =some (some (.ref b)):=by
 unfold lentL;cases li with
 | none=>simp
 | some p=>
  obtain⟨i',j'⟩:=p;dsimp only;constructor
  ·intro h;split at h
   ·rename_i a q;rw[zN] at h;cases h;exact⟨j',rfl,q⟩
   ·cases h
  ·rintro⟨j,e,q⟩;cases e;rw[q];exact zN.mpr rfl
theorem G8 {d0:D}(r:Rep X P O L ρ σ H2)(hl:LiOk li js ρ){i:Nat}{w:W}{d:D}{v:V}(e1:(capE (li.map (·.2)) js ρ++[some (.l d0)])[i]? =some (some w))(e2:w.own=some d)(e3:(capS js σ++[some (.ref Dd)])[i]? =some (some v)):
  (i=js.length/\w= .l d0/\v= .ref Dd)\/∃j a w0,li=some (i,j)/\i<js.length/\w= .l d/\js[i]? =some (some j)/\ρ[j]? =some (some w0)/\w0.own=some d/\σ[j]? =some (some (.ref a))/\v= .ref a:=by
 have hcl:(capE (li.map (·.2)) js ρ).length=js.length:=by unfold capE;simp
 have hsl:(capS js σ).length=js.length:=by unfold capS;simp
 by_cases hi:i<js.length
 ·rw[qA (by walk_at "o")] at e1 e3
  obtain⟨j,w0,ej,q,ew⟩:=R9 e1;have own0:w0.own≠none/\li.map (·.2)=some j/\w= .l d/\w0.own=some d:=by
   cases w0 with
   | v c=>cases ew;cases e2
   | r c=>cases ew
   | o c=>
    simp only[capW] at ew;split at ew
    ·rename_i hk;cases ew;cases e2;exact⟨nofun,by simpa using hk,rfl,rfl⟩
    ·cases ew;cases e2
   | l c=>
    simp only[capW] at ew;split at ew
    ·rename_i hk;cases ew;cases e2;exact⟨nofun,by simpa using hk,rfl,rfl⟩
    ·cases ew;cases e2
  obtain⟨_,hlj,rfl,ow⟩:=own0;obtain⟨a,h1,h2⟩:=r.obj q ow;rw[S7 ej h1] at e3;cases e3;cases li with
  | none=>cases hlj
  | some p=>
   obtain⟨i',j'⟩:=p;cases hlj
   have:=hl.one i' _ i rfl ej
   subst this;exact .inr ⟨_,a,w0,rfl,hi,rfl,ej,q,ow,h1,rfl⟩
 ·have hi':i=js.length:=by
   have:=(zQ.mp e1).1
   rw[qB,hcl] at this;simp at this;walk_at "o"
  subst hi';rw[qG (by walk_at "o"),hcl,jU] at e1
  rw[qG (by walk_at "o"),hsl,jU] at e3
  simp only[xS,Option.some.injEq] at e1 e3;exact .inl ⟨rfl,e1.symm,e3.symm⟩
theorem a9q {d0:D}{o0:HO}(hob:∀A H,H Dd=some o0->Obj X.K A H Dd d0)(r:Rep X P O L ρ σ H2)(hl:LiOk li js ρ)(hn:H2 Dd=none):
  Rep (blk X scope cl s2 H2 fp C (N++[accN])) P (fun b=>AvO O ρ σ b/\¬Capd ρ σ js b) ((some js.length,Dd)::lentL li σ) (capE (li.map (·.2)) js ρ++[some (.l d0)]) (capS js σ++[some (.ref Dd)]) (upd H2 Dd o0):=by
 have hcl:(capE (li.map (·.2)) js ρ).length=js.length:=by unfold capE;simp
 have hsl:(capS js σ).length=js.length:=by unfold capS;simp
 have acc1:(capE (li.map (·.2)) js ρ++[some (.l d0)])[js.length]? =some (some (.l d0)):=by rw[qG (by walk_at "o"),hcl,jU];rfl
 have acc2:(capS js σ++[some (V.ref Dd)])[js.length]? =some (some (.ref Dd)):=by rw[qG (by walk_at "o"),hsl,jU];rfl
 have lnt2:∀{i j:Nat} {a:Addr},li=some (i,j)->σ[j]? =some (some (.ref a))->∃w0 d,ρ[j]? =some (some w0)/\w0.own=some d/\(capE (li.map (·.2)) js ρ++[some (.l d0)])[i]? =some (some (.l d))/\(capS js σ++[some (V.ref Dd)])[i]? =some (some (.ref a)):=fun{i j a} e1 e2=>by
  obtain⟨c,ec⟩:=hl.own i j e1;obtain⟨w0,q,ow⟩:=m9 ec;have ej:=hl.at' i j e1;have hi:i<js.length:=(zQ.mp ej).1;refine⟨w0,c,q,ow,?_,by rw[qA (by walk_at "o")];exact S7 ej e2⟩
  rw[qA (by walk_at "o")]
  unfold capE;rw[qH,ej];simp only[jH,bind_some,q,Option.join_some,e1,beq_self_eq_true];cases w0 with
  | o x=>cases ow;rfl
  | l x=>cases ow;rfl
  | _=>cases ow
 have av:∀b,AvO (fun b=>AvO O ρ σ b/\¬Capd ρ σ js b) (capE (li.map (·.2)) js ρ++[some (.l d0)]) (capS js σ++[some (V.ref Dd)]) b->AvO O ρ σ b\/H2 b=none:=fun b z=>by
  rcases z with z|⟨i,w,d,e1,e2,e3⟩
  ·exact .inl z.1
  ·rcases G8 r hl e1 e2 e3 with ⟨_,_,e⟩|⟨j,a,w0,_,_,_,_,q,ow,qs,e⟩
   ·cases e;exact .inr hn
   ·cases e;exact .inl (.inr ⟨j,w0,d,q,ow,qs⟩)
 have g:Go (AvO O ρ σ) (AvO (fun b=>AvO O ρ σ b/\¬Capd ρ σ js b) (capE (li.map (·.2)) js ρ++[some (.l d0)]) (capS js σ++[some (V.ref Dd)])) (fun _=>False) H2 (upd H2 Dd o0):=⟨fun b o e _=>j4 hn _ b o e,fun _ z=>z.elim,av⟩;refine⟨fun b o e _=>j4 hn _ b o e,fun b z=>⟨r.there z.1,fun i m=>?_⟩,by simp[hcl,hsl],fun i w e=>?_,fun i i' w w' d d' b e1 e2 e3 e4 e5 e6=>?_,fun i d b e=>?_,fun i d e=>?_,fun i b e=>?_,fun p hp=>l7 g _ _ (r.prot p hp),fun b m=>⟨js.length,Dd,zG⟩⟩
 ·rcases zK.mp m with m|m
  ·cases m;exact r.fresh hn z.1
  ·cases i with
   | none=>exact a0w m
   | some i=>
    obtain⟨j,e1,e2⟩:=E8.mp m;obtain⟨w0,d,q,ow,_⟩:=lnt2 e1 e2;exact z.2 ⟨j,w0,d,mem_of_getElem? (hl.at' i j e1),q,ow,e2⟩
 ·by_cases hi:i<js.length
  ·have e':=e;rw[qA (by walk_at "o")] at e'
   obtain⟨j,w0,ej,q,ew⟩:=R9 e';obtain⟨v,h1,h2⟩:=r.slot j w0 q;refine⟨v,by rw[qA (by walk_at "o")];exact S7 ej h1,?_⟩
   cases w0 with
   | v c=>cases ew;exact l7 g _ _ h2
   | r c=>cases ew
   | o c=>
    simp only[capW] at ew;obtain⟨a,rfl,ob⟩:=h2;have hk:upd H2 Dd o0 a=H2 a:=c7 fun z=>by obtain⟨u,eu,_⟩:=C1 ob;rw[z,hn] at eu;cases eu
    split at ew
    ·cases ew;exact⟨a,rfl,t3 g hk ob⟩
    ·rename_i nk;cases ew;refine T2 (t3 g hk ob) fun z=>?_;rcases z with z|⟨i2,w2,d2,e1,e2,e3⟩
     ·exact z.2 ⟨j,_,c,mem_of_getElem? ej,q,rfl,h1⟩
     ·rcases G8 r hl e1 e2 e3 with ⟨_,_,e⟩|⟨j2,a2,w0,l2,_,_,ej2,q2,ow2,qs2,e⟩
      ·cases e;obtain⟨u,eu,_⟩:=C1 ob;rw[hn] at eu;cases eu
      ·cases e
       have:=r.inj j j2 _ w0 c d2 a q rfl h1 q2 ow2 qs2
       subst this;rw[l2] at nk;simp at nk
   | l c=>
    simp only[capW] at ew;obtain⟨a,rfl,ob⟩:=h2;have hk:upd H2 Dd o0 a=H2 a:=c7 fun z=>by obtain⟨u,eu,_⟩:=C1 ob;rw[z,hn] at eu;cases eu
    split at ew
    ·cases ew;exact⟨a,rfl,t3 g hk ob⟩
    ·rename_i nk;cases ew;refine T2 (t3 g hk ob) fun z=>?_;rcases z with z|⟨i2,w2,d2,e1,e2,e3⟩
     ·exact z.2 ⟨j,_,c,mem_of_getElem? ej,q,rfl,h1⟩
     ·rcases G8 r hl e1 e2 e3 with ⟨_,_,e⟩|⟨j2,a2,w0,l2,_,_,ej2,q2,ow2,qs2,e⟩
      ·cases e;obtain⟨u,eu,_⟩:=C1 ob;rw[hn] at eu;cases eu
      ·cases e
       have:=r.inj j j2 _ w0 c d2 a q rfl h1 q2 ow2 qs2
       subst this;rw[l2] at nk;simp at nk
  ·have hi':i=js.length:=by
    have:=(zQ.mp e).1
    rw[qB,hcl] at this;simp at this;walk_at "o"
   subst hi';rw[acc1] at e;cases e;exact⟨.ref Dd,acc2,Dd,rfl,hob _ _ j9⟩
 ·rcases G8 r hl e1 e2 e3 with ⟨rfl,_,e⟩|⟨j,a,w0,l1,_,_,_,q,ow,qs,e⟩
  ·cases e;rcases G8 r hl e4 e5 e6 with ⟨rfl,_,_⟩|⟨j,a,w0,l1,_,_,_,q,ow,qs,e⟩
   ·rfl
   ·cases e;obtain⟨u,eu,_⟩:=r.owMu ⟨j,w0,d',q,ow,qs⟩;rw[hn] at eu;cases eu
  ·cases e;rcases G8 r hl e4 e5 e6 with ⟨rfl,_,e⟩|⟨j',a',w0',l1',_,_,_,q',ow',qs',e⟩
   ·cases e;obtain⟨u,eu,_⟩:=r.owMu ⟨j,w0,d,q,ow,qs⟩;rw[hn] at eu;cases eu
   ·rw[l1] at l1';cases l1';rfl
 ·by_cases hi:i<js.length
  ·rw[qA (by walk_at "o")] at e
   obtain⟨j,w0,ej,q,ew⟩:=R9 e;cases w0<;>simp only[capW] at ew<;>first|cases ew|(split at ew<;>cases ew)
  ·rw[qG (by walk_at "o")] at e
   cases q:i-(capE (li.map (·.2)) js ρ).length with
   | zero=>rw[q] at e;cases e
   | succ n=>rw[q] at e;simp at e
 ·by_cases hi:i<js.length
  ·have e':=e;rw[qA (by walk_at "o")] at e'
   obtain⟨j,w0,ej,q,ew⟩:=R9 e';obtain⟨v,h1,h2⟩:=r.slot j w0 q;have e3:(capS js σ++[some (V.ref Dd)])[i]? =some (some v):=by rw[qA (by walk_at "o")];exact S7 ej h1
   rcases G8 r hl e rfl e3 with ⟨rfl,_⟩|⟨j,a,w0,l1,_,_,_,q,ow,qs,rfl⟩
   ·walk_at "o"
   ·exact⟨a,e3,zJ _ (E8.mpr ⟨j,l1,qs⟩)⟩
  ·have hi':i=js.length:=by
    have:=(zQ.mp e).1
    rw[qB,hcl] at this;simp at this;walk_at "o"
   subst hi';exact⟨Dd,acc2,zG⟩
 ·rcases zK.mp e with e|e
  ·cases e;exact⟨_,acc1,acc2⟩
  ·obtain⟨j,e1,e2⟩:=E8.mp e;obtain⟨w0,d,_,_,q1,q2⟩:=lnt2 e1 e2;exact⟨d,q1,q2⟩
end
structure Tst (Y:Cx) (ifs:List Expr) (t:FT):Prop where
 to:∀(pins:List (Addr×PySem.Obj)) (s:Shared) (σ:L2.St) (H:Hp) (P:List (D×V)) (O:Av) (L:List (Option Nat×Addr)) (ρ ρ':Ev) (k:Bool) (Q:Bool->Hp->Prop),Inv Y pins σ H s->Rep Y P O L ρ σ H->t ρ=some (k,ρ')->(∀H',Rep Y P O L ρ' σ H'->Q k H')->
  wpAny (model Y.prog Y.w) Y.A (forIn ifs true fun c r=>if r=true then do let ok <-isTrue c Y.env (eval c Y.env);pure (ForInStep.yield ok) else pure (ForInStep.yield r)) (TP Y pins σ Q) Fa s
theorem B4 {Y:Cx}:Tst Y [] (fun ρ=>some (true,ρ)):=⟨fun pins s σ H P O L ρ ρ' k Q I r e q=>by cases e;exact wpAny_tests_nil ⟨H,I,q H r⟩⟩
theorem G7 {Y:Cx}{c:Expr}{t:FT}(hx:Y.xe=Fa)(h:QT Y c t):Tst Y [c] t:=⟨fun pins s σ H P O L ρ ρ' k Q I r e q=>by
 have z:=h.to pins s σ H Q I ⟨P,O,L,ρ,k,ρ',r,e,q⟩;rw[hx] at z
 exact wpAny_tests_one z⟩
def WksB (li:Option (Nat×Nat)) (K:PySem.W.Frag) (P:List (D×V)) (O:Av) (ρ:Ev) (σ:L2.St) (H:Hp) (xs:List D) (J:It):Prop:=∀(Y:Cx) (O':Av) (L:List (Option Nat×Addr)) (ρ':Ev) (σ':L2.St) (H':Hp),Y.K=K->Y.H₀=H->Rep Y P O' L ρ' σ' H'->(∀b,O' b->AvO O ρ σ b)->(li=none->∀i b,(i,b)∈L->H b=none)->
 (∀(i:Nat) (x:D),xs[i]? =some x->J.go i H'/\∀v H'',J.yld i H' v H''->Same H' H''/\Den K (AvO O' ρ' σ') H'' x v)/\J.stop xs.length H'
def tIB (X:Cx) (li:Option (Nat×Nat)) (fi:FI):TI:=fun σ H R=>∃P O L ρ xs ρ',Rep X P O L ρ σ H/\fi ρ=some (xs,ρ')/\∀J H1 P',Rep X P' O L ρ' σ H1->Holds P' P->WksB li X.K P' O ρ' σ H1 xs J->R J H1
theorem tIBe {X:Cx}{li:Option (Nat×Nat)}{fi:FI}{σ:L2.St}{H:Hp}{R:It->Hp->Prop}{C:Prop}(h:tIB X li fi σ H R)(k:∀P O L ρ xs ρ',Rep X P O L ρ σ H->fi ρ=some (xs,ρ')->(∀J H1 P',Rep X P' O L ρ' σ H1->Holds P' P->WksB li X.K P' O ρ' σ H1 xs J->R J H1)->C):C:=by
 obtain⟨P,O,L,ρ,w,ρ',r,e,q⟩:=h;exact k P O L ρ w ρ' r e q
structure QIB (X:Cx) (li:Option (Nat×Nat)) (tg iter:Expr) (fi:FI):Prop where
 to:PI X tg iter (tIB X li fi)
theorem Wks.b {li:Option (Nat×Nat)}{K:PySem.W.Frag}{P:List (D×V)}{O:Av}{ρ:Ev}{σ:L2.St}{H:Hp}{xs:List D}{J:It}(w:Wks K P xs J):WksB li K P O ρ σ H xs J:=fun Y O' L ρ' σ' H' hY _ r _ _=>w Y O' L ρ' σ' H' hY r
theorem G2 {X:Cx}{li:Option (Nat×Nat)}{tg iter:Expr}{fi:FI}(h:QI X tg iter fi):QIB X li tg iter fi:=⟨PI.weak h.to fun σ H R h0=>tIBe h0 fun P O L ρ xs ρ' r e q=>⟨P,O,L,ρ,xs,ρ',r,e,fun J H1 P' r1 hh w=>q J H1 P' r1 hh w.b⟩⟩
def fiName (i:Nat):FI:=fun ρ=>match ρ[i]? with
 | some (some (.v d))=>(items d).map fun xs=>(xs,ρ)
 | some (some (.r _))=>none
 | some (some w)=>match w.own with
  | some (.lst xs)=>some (xs,ρ)
  | _=>none
 | _=>none
theorem b1a {Y:Cx}{P:List (D×V)}{O O':Av}{L:List (Option Nat×Addr)}{ρ ρ':Ev}{σ σ':L2.St}{H H':Hp}(hH:Y.H₀=H)(r:Rep Y P O' L ρ' σ' H')(ho:∀b,O' b->AvO O ρ σ b)(hn:∀i b,(i,b)∈L->H b=none):Go (AvO O ρ σ) (AvO O' ρ' σ') (fun _=>False) H H' where
 k:=fun b o e _=>r.same b o (by rw[hH];exact e) fun i m=>by rw[hn i b m] at e;cases e
 m:=fun _ z=>z.elim
 n:=fun b z=>by
  rcases z with z|⟨i,w,d,e1,e2,e3⟩
  ·exact .inl (ho b z)
  ·cases w with
   | o c=>
    have z:=r.new i c b e1 e3;unfold hz at z;split at z
    ·rename_i m;exact .inr (hn none b m)
    ·exact .inr (by rw[<-hH];exact z)
   | l c=>obtain⟨b',q1,q2⟩:=r.lnt i c e1;rw[e3] at q1;cases q1;exact .inr (hn (some i) b q2)
   | _=>cases e2
theorem E5 {X:Cx}{tg:Expr}{pos:Pos}(i:Nat){x:Str}(hN:X.N[i]? =some x:=by rfl)(hv:Vis X.env.scope x:=by first|exact Or.inl rfl|exact Or.inr (Or.inl rfl)|exact Or.inr (Or.inr rfl))(hd:(x==("__debug__":Str))=false:=by decide)(hcd:(x==("__classdict__":Str))=false:=by decide):QIB X none tg (.Name x pos) (fiName i):=⟨PI.weak (a8C (a4c hN hv hd hcd)) fun σ H R h0=>tIBe h0 fun P O L ρ xs ρ' r e q=>by
 unfold fiName at e;split at e
 ·rename_i d0 e0;obtain⟨v,h1,h2⟩:=r.slot i _ e0;have h2:Den X.K (AvO O ρ σ) H d0 v:=h2;obtain⟨ys,e3,e⟩:=oms e;cases e;have r3:=r.more (p:=(d0,v)) h2;have hh:Holds ((d0,v)::P) P:=fun p hp=>zJ _ hp;refine⟨v,h1,?_⟩;cases d0 with
  | tup zs=>
   cases e3;have z:=h2;rw[Den] at z;obtain⟨a,vs,rfl,hq,l⟩:=z;refine .inr ⟨a,rfl,⟨vs,hq⟩,q _ H _ r3 hh (Wks.b fun Y O' L' ρ' σ' Hh hY rr=>?_)⟩;have z:=rr.head;rw[hY] at z;rw[Den] at z;obtain⟨a',vs,ea,hq,l⟩:=z;cases ea;refine⟨fun i x ex=>?_,vs,hq,by rw[<-b8 l];exact zF _⟩
   obtain⟨v0,hv,dv⟩:=t8 l ex;exact⟨⟨vs,v0,hq,hv⟩,fun w H' ⟨y1,y2⟩=>by subst y1;have:=y2 vs hq;rw[hv] at this;cases this;exact⟨Same.refl _,dv⟩⟩
  | lst zs=>
   cases e3;obtain⟨a,vs,rfl,hq,l⟩:=B3 h2;refine .inl ⟨a,rfl,⟨vs,hq⟩,q _ H _ r3 hh (Wks.b fun Y O' L' ρ' σ' Hh hY rr=>?_)⟩;have z:=rr.head;rw[hY] at z;obtain⟨a',vs,ea,hq,l⟩:=B3 z;cases ea;refine⟨fun i x ex=>?_,vs,hq,by rw[<-b8 l];exact zF _⟩
   obtain⟨v0,hv,dv⟩:=t8 l ex;exact⟨⟨vs,v0,hq,hv⟩,fun w H' ⟨y1,y2⟩=>by subst y1;have:=y2 vs hq;rw[hv] at this;cases this;exact⟨Same.refl _,dv⟩⟩
  | _=>cases e3
 ·cases e
 ·rename_i w0 _ _ e0;cases ew:w0.own with
  | none=>rw[ew] at e;cases e
  | some c=>
   rw[ew] at e;cases c with
   | lst zs=>
    cases e;obtain⟨a,h1,h2⟩:=r.obj e0 ew;refine⟨.ref a,h1,?_⟩;obtain⟨vs,h4,lz⟩:=h2;refine .inl ⟨a,rfl,⟨vs,.inl (.inl h4)⟩,q _ H P r (fun p hp=>hp) fun Y O' L' ρ2 σ2 Hh hY hH rr ho hn=>?_⟩;have g:=b1a hH rr ho (hn rfl);have l2:=n6 g _ _ lz;have h5:Hh a=some (.lst vs):=g.k a _ h4 id;have hq:SqL X.K Hh a vs:=.inl (.inl h5);refine⟨fun i x ex=>?_,vs,hq,by rw[<-b8 lz];exact zF _⟩
    obtain⟨v0,hv,dv⟩:=t8 l2 ex;exact⟨⟨vs,v0,hq,hv⟩,fun w H' ⟨y1,y2⟩=>by subst y1;have:=y2 vs hq;rw[hv] at this;cases this;exact⟨Same.refl _,dv⟩⟩
   | _=>cases e
 ·cases e⟩
def appTo (k:Nat) (p:W×Ev):Option Ev:=(takeAll p.2 [p.1.fz]).bind fun q=>match q.1,ownAt q.2 k with
 | [d],some (.lst zs)=>if zs.length<lim then some (setOwn q.2 k (.lst (zs++[d]))) else none
 | _,_=>none
def turnC (k:Nat) (gf:FG) (t:FT) (fe:FX):D->Ev->Option Ev:=fun x ρ=>(gf x ρ).bind fun ρ1=>(t ρ1).bind fun p=>if p.1=true then(fe p.2).bind (appTo k) else some p.2
def loopC (st:D->Ev->Option Ev):List D->Ev->Option Ev
 | [],ρ=>some ρ
 | x::xs,ρ=>(st x ρ).bind (loopC st xs)
section
variable {X:Cx}{pins:List (Addr×PySem.Obj)}{σ:L2.St}{H2:Hp}{s2:Shared}{scope:Scope}{cl:List (Str×Addr)}{N:List Str}{js:List (Option Nat)}{fp:List Addr}{it:Addr}{tn:Nat->Heap->Prop}{J:It}{elt tg iter:Expr}{ifs:List Expr}{pos:Pos}{P:List (D×V)}{O:Av}{L:List (Option Nat×Addr)}{ρ ρe:Ev}{xs:List D}{gf:FG}{t:FT}{fe:FX}{Qq:Value->Shared->Prop}{use:Option (Value->Sem Unit)}{li:Option (Nat×Nat)}
def turnG (gf:FG) (t:FT) (stp:Ev->Option Ev):D->Ev->Option Ev:=fun x ρ=>(gf x ρ).bind fun ρ1=>(t ρ1).bind fun p=>if p.1=true then stp p.2 else some p.2
theorem a1q {new:Sem Value}{ce:Expr}{ob0:PySem.Obj}{o0:HO}{d0:D}{stp:Ev->Option Ev}{el:Env->Addr->Shared->(Shared->Prop)->Prop}
  (hnew:∀{Q:Value->Shared->Prop},Q (.ref s2.heap.objs.size) {s2 with heap:=s2.heap.push ob0}->wpAny (model X.prog X.w) X.A new Q X.xe s2) (hob:∀A H a,H a=some o0->Obj X.K A H a d0) (hok:HOk X.prog X.w (upd H2 s2.heap.objs.size o0) (s2.heap.push ob0))
  (hloop:∀{Dd:Addr} {env:Env} {R:Result->Shared->Prop} {s:Shared} (I:Nat->Shared->Prop),(∀n s,I n s->wpAny (model X.prog X.w) X.A (pyNext (.ref it)) (fun r s1=>match r with
   | none=>R (.ok .next) s1
   | some v=>wpAny (model X.prog X.w) X.A (letOwnedTupleGo tg (.ref it) v) (fun _ s2=>wpAny (model X.prog X.w) X.A (assign tg env v) (fun _ s3=>
     wpAny (model X.prog X.w) X.A (forIn ifs true fun c r=>if r=true then do let ok <-isTrue c env (eval c env);pure (ForInStep.yield ok) else pure (ForInStep.yield r)) (fun ok s4=>
      if ok=true then el env Dd s4 (fun s6=>∃m,m<n/\I m s6) else ∃m,m<n/\I m s4) Fa s3) Fa s2) Fa s1) Fa s)->∀n,I n s->codeAny (model X.prog X.w) X.A (.compLoop ce 0 (.ref it) (.ref Dd) env) R s)
  (hstart:∀{acc:Value} {env:Env} {R:Result->Shared->Prop} {s:Shared},codeAny (model X.prog X.w) X.A (.compLoop ce 0 (.ref it) acc env) R s->wpAny (model X.prog X.w) X.A (pyIter (.ref it)) (fun it' s'=>codeAny (model X.prog X.w) X.A (.compLoop ce 0 it' acc env) R s') (notedBy (model X.prog X.w) X.A env fun x s'=>R (.error x) s') s->codeAny (model X.prog X.w) X.A (.compStart ce 0 (.ref it) acc env) R s)
  (hE:∀{C Dd:Addr} {qs:List (Addr×PySem.Obj)} {σ6:L2.St} {H7:Hp} {s7:Shared} {O':Av} {L':List (Option Nat×Addr)} {ρ2 ρt:Ev} {K:Shared->Prop},(some js.length,Dd)∈L'->Inv (blk X scope cl s2 H2 fp C (N++[accN])) qs σ6 H7 s7->Rep (blk X scope cl s2 H2 fp C (N++[accN])) P O' L' ρ2 σ6 H7->stp ρ2=some ρt->(∀{s8 H8},Inv (blk X scope cl s2 H2 fp C (N++[accN])) qs σ6 H8 s8->Rep (blk X scope cl s2 H2 fp C (N++[accN])) P O' L' ρt σ6 H8->K s8)->el (compEnvC scope cl C X.env) Dd s7 K)
  (hcalm:X.calm=true) (I2:Inv X pins σ H2 s2) (T:Turn X.prog X.w X.K tg J fp it tn) (st2:tn 0 s2.heap) (f2:∀y∈fp,FpOk X pins H2 y) (b:Blk X scope cl N js) (r:Rep X P O L ρ σ H2) (hl:LiOk li js ρ) (wk:WksB li X.K P O ρ σ H2 xs J)
  (hg:∀C,QG (blk X scope cl s2 H2 fp C (N++[accN])) tg gf) (ht:∀C,Tst (blk X scope cl s2 H2 fp C (N++[accN])) ifs t)
  (e:loopC (turnG gf t stp) xs (capE (li.map (·.2)) js ρ++[some (.l d0)])=some ρe)
  (fin:∀(Dd C:Addr) (σe:L2.St) (He:Hp) (s1:Shared),H2 Dd=none->s2.heap.objs.size<=C->Inv (blk X scope cl s2 H2 fp C (N++[accN])) [] σe He s1->Rep (blk X scope cl s2 H2 fp C (N++[accN])) P (fun b=>AvO O ρ σ b/\¬Capd ρ σ js b) ((some js.length,Dd)::lentL li σ) ρe σe He->
   compPost (model X.prog X.w) X.A X.xe use Qq (.ref Dd) C (.ok .next) s1):
  wpAny (model X.prog X.w) X.A new (fun acc s3=>wpAny (model X.prog X.w) X.A (newFunctionEnv scope X.env.globals cl [] X.env.qual none .none (some X.env)) (fun cenv s4=>
   codeAny (model X.prog X.w) X.A (.compStart ce 0 (.ref it) acc {cenv with scope:=relabel scope X.env}) (compPost (model X.prog X.w) X.A X.xe use Qq acc cenv.locals) s4) X.xe s3) X.xe s2:=by
 have fl:∀y∈fp,y<s2.heap.objs.size:=fun y hy=>by obtain⟨o,eo,_⟩:=T.obj _ _ st2 y hy;exact zX eo
 refine hnew (wpAny_newFunctionEnv b.cell (by intro y hy;simp at hy) (fun h' hns hsb=>?_) b.kind)
 dsimp only at hns hsb ⊢;generalize hH:s2.heap.push ob0=H3 at hok hns hsb ⊢;have hC:H3.objs.size=s2.heap.objs.size+1:=by rw[<-hH,size_push]
 have ne:s2.heap.objs.size≠H3.objs.size:=by rw[hC];exact zY (Nat.lt_succ_self _)
 have leC:s2.heap.objs.size<=H3.objs.size:=by rw[hC];exact Nat.le_succ _
 have kp3:∀y o,s2.heap.get? y=some o->H3.get? y=some o:=fun y o e=>hH▸zD _ e;have kp4:∀y o,H3.get? y=some o->h'.get? y=some o:=fun y o e=>hsb.extBut y o (zY (zX e)) (zD _ e);have hDn:H2 s2.heap.objs.size=none:=I2.hok.fresh (zF _);have I4:=a8W (s4:={s2 with heap:=h',toks:=s2.toks+([]:List (Str×Value)).length}) (Dd:=s2.heap.objs.size) (C:=H3.objs.size) I2 b f2 fl leC (zF _) ne rfl I2.bare (fun y o e=>kp4 y o (kp3 y o e)) hns (hok.kept kp4)
 have R4:=a9q (d0:=d0) (o0:=o0) (fun A H=>hob A H _) (scope:=scope) (cl:=cl) (N:=N) (s2:=s2) (fp:=fp) (C:=H3.objs.size) (Dd:=s2.heap.objs.size) r hl hDn;have hfree:∀{H':Hp},(∀y∈fp,H' y=none)->∀y∈fp,FpOk (blk X scope cl s2 H2 fp H3.objs.size (N++[accN])) [] H' y:=fun hn y hy=>
  ⟨hn y hy,zY (zI (fl y hy) leC),fun z=>(zK.mp (I2.stkSub y z)).elim (f2 y hy).2.1 (f2 y hy).2.2.1,.inl hy,fun x c ec=>(f2 y hy).2.2.2.2.1 x c (b.sub x c ec),fun p hp=>absurd (show p∈([]:List (Addr×PySem.Obj)) from hp) (by simp)⟩
 obtain⟨gg,pg,kg⟩:=(hg H3.objs.size).to;have loop:∀s5:Shared,s5={s2 with heap:=h',toks:=s2.toks+([]:List (Str×Value)).length}->
   codeAny (model X.prog X.w) X.A (.compLoop ce 0 (.ref it) (.ref s2.heap.objs.size) (compEnvC scope cl H3.objs.size X.env))
    (compPost (model X.prog X.w) X.A X.xe use Qq (.ref s2.heap.objs.size) H3.objs.size) s5:=by
  rintro s5 rfl
  let Y:=blk X scope cl s2 H2 fp H3.objs.size (N++[accN])
  let O':Av:=fun b=>AvO O ρ σ b/\¬Capd ρ σ js b
  let L':=(some js.length,s2.heap.objs.size)::lentL li σ
  refine hloop (fun n s=>∃i σ' H' ρ',n=xs.length-i/\i<=xs.length/\Inv Y [] σ' H' s/\tn i s.heap/\(∀y∈fp,H' y=none)/\Rep Y P O' L' ρ' σ' H'/\loopC (turnG gf t stp) (xs.drop i) ρ'=some ρe) ?_ xs.length
   ⟨0,_,_,_,by simp,jR _,I4,T.keep 0 _ _ st2 fun y hy o eo=>kp4 y o (kp3 y o eo),fun y hy=>by rw[c7 (zY (fl y hy))];exact(f2 y hy).1,R4,by simpa using e⟩
  rintro n s ⟨i,σ',H',ρ',rfl,hi,I,st,fr,rp,el⟩;obtain⟨wi,ws⟩:=wk Y O' L' ρ' σ' H' rfl rfl rp (fun b z=>z.1) (fun z i b m=>by subst z;exact(zK.mp m).elim (fun m=>by cases m;exact hDn) (fun m=>by cases m))
  by_cases hlt:i<xs.length
  ·obtain⟨go,yl⟩:=wi i xs[i] (by simp[hlt])
   refine zR (T.item Y rfl rfl rfl hcalm i [] s σ' H' Fa I (hfree fr) st go) (fun r s1 ⟨u,hr,h1⟩=>?_) fun _ _ z=>z;subst hr;refine zR h1 (fun _ s3 ⟨x,H5,I5,r5,y5,st5,fr5⟩=>?_) fun _ _ z=>z;obtain⟨sm5,dx⟩:=yl x H5 y5
   replace rp:=rp.grow sm5
   rw[List.drop_eq_getElem_cons hlt,loopC] at el;cases e1:turnG gf t stp xs[i] ρ' with
   | none=>rw[e1] at el;cases el
   | some ρt=>
    rw[e1] at el;simp only[bind_some] at el;unfold turnG at e1;cases e2:gf xs[i] ρ' with
    | none=>rw[e2] at e1;cases e1
    | some ρ1=>
     rw[e2] at e1;simp only[bind_some] at e1;obtain⟨⟨k,ρ2⟩,e3,e1⟩:=obs e1;dsimp only at e1;have I5':=I5.pinned (hfree fr5) (T.obj _ _ st5);have gq:=kg P O' L' xs[i] x ρ' ρ1 σ' H5 (fun σ2 Hh=>Rep Y P O' L' ρ1 σ2 Hh) rp dx e2 (fun σ2 H2' rp2=>rp2);refine zR (pg _ s3 σ' H5 x u _ I5' r5 gq) (fun _ s6 ⟨σ6,H6,I6,rp6⟩=>?_) fun _ _ z=>z;have back:∀{s7:Shared} {H7:Hp} {ρ7:Ev},Inv Y ([]++pinsAt fp s3.heap) σ6 H7 s7->Rep Y P O' L' ρ7 σ6 H7->loopC (turnG gf t stp) (xs.drop (i+1)) ρ7=some ρe->
       ∃m,m<xs.length-i/\∃i σ' H' ρ',m=xs.length-i/\i<=xs.length/\Inv Y [] σ' H' s7/\tn i s7.heap/\(∀y∈fp,H' y=none)/\Rep Y P O' L' ρ' σ' H'/\loopC (turnG gf t stp) (xs.drop i) ρ'=some ρe:=fun{s7 H7 ρ7} I7 rp7 e7=>by
      refine⟨xs.length-(i+1),by walk_at "o",i+1,σ6,H7,ρ7,rfl,hlt,I7.unpinned,T.keep _ _ _ st5 fun y hy o eo=>(I7.pin (y,o) (qE _ (qE _ (J9 hy eo)))).1,fun y hy=>?_,rp7,e7⟩
      obtain⟨o,eo,_⟩:=T.obj _ _ st5 y hy;exact(I7.pin (y,o) (qE _ (qE _ (J9 hy eo)))).2.1
     refine zR ((ht H3.objs.size).to _ s6 σ6 H6 P O' L' ρ1 ρ2 k (fun k' Hh=>k'=k/\Rep Y P O' L' ρ2 σ6 Hh) I6 rp6 e3 (fun H' rr=>⟨rfl,rr⟩)) (fun ok s7 ⟨H7,I7,hk,rp7⟩=>?_) fun _ _ z=>z;subst hk;cases ok with
     | false=>
      rw[if_neg zT] at e1 ⊢;cases e1;exact back I7 rp7 el
     | true=>
      rw[if_pos rfl] at e1 ⊢;exact hE zG I7 rp7 e1 fun I8 rp8=>back I8 rp8 el
  ·have hie:i=xs.length:=by walk_at "o"
   subst hie;refine zR (T.done Y rfl rfl rfl hcalm _ [] s σ' H' Fa I (hfree fr) st ws) (fun r s1 ⟨hr,I1⟩=>?_) fun _ _ z=>z;subst hr;rw[List.drop_eq_nil_of_le (zF _),loopC] at el;cases el;exact fin _ _ σ' H' s1 hDn leC I1 rp
 exact hstart (loop _ rfl) (T.self _ 0 _ _ _ (T.keep 0 _ _ st2 fun y hy o eo=>kp4 y o (kp3 y o eo)) (loop _ rfl))
theorem a6y (hcalm:X.calm=true)(I2:Inv X pins σ H2 s2)(T:Turn X.prog X.w X.K tg J fp it tn)(st2:tn 0 s2.heap)(f2:∀y∈fp,FpOk X pins H2 y)(b:Blk X scope cl N js)(r:Rep X P O L ρ σ H2)(hl:LiOk li js ρ)(wk:WksB li X.K P O ρ σ H2 xs J)
  (hg:∀C,QG (blk X scope cl s2 H2 fp C (N++[accN])) tg gf) (ht:∀C,Tst (blk X scope cl s2 H2 fp C (N++[accN])) ifs t) (he:∀C,QX (blk X scope cl s2 H2 fp C (N++[accN])) elt fe)
  (e:loopC (turnC js.length gf t fe) xs (capE (li.map (·.2)) js ρ++[some (.l (.lst []))])=some ρe)
  (fin:∀(Dd C:Addr) (σe:L2.St) (He:Hp) (s1:Shared),H2 Dd=none->s2.heap.objs.size<=C->Inv (blk X scope cl s2 H2 fp C (N++[accN])) [] σe He s1->Rep (blk X scope cl s2 H2 fp C (N++[accN])) P (fun b=>AvO O ρ σ b/\¬Capd ρ σ js b) ((some js.length,Dd)::lentL li σ) ρe σe He->
   compPost (model X.prog X.w) X.A X.xe use Qq (.ref Dd) C (.ok .next) s1):
  wpAny (model X.prog X.w) X.A (newList []) (fun acc s3=>wpAny (model X.prog X.w) X.A (newFunctionEnv scope X.env.globals cl [] X.env.qual none .none (some X.env)) (fun cenv s4=>
   codeAny (model X.prog X.w) X.A (.compStart (.ListComp elt [⟨tg,iter,ifs,0⟩] scope pos) 0 (.ref it) acc {cenv with scope:=relabel scope X.env}) (compPost (model X.prog X.w) X.A X.xe use Qq acc cenv.locals) s4) X.xe s3) X.xe s2:=
 a1q (new:=newList []) (ob0:={cls:=.type "list",dict:=none,data:=.seq ([]:List Value).toArray}) (o0:=.lst []) (d0:=.lst []) (stp:=fun ρ=>(fe ρ).bind (appTo js.length)) (el:=fun env a s K=>wpAny (model X.prog X.w) X.A (eval elt env) (fun x s5=>wpAny (model X.prog X.w) X.A (call (.builtin "list.append") [.ref a,x]) (fun _ s6=>K s6) Fa s5) Fa s)
  (fun h=>qV h) (fun _ _ _ e=>⟨[],e,j3⟩) (I2.hok.laid (fun y o e=>zD _ e) (zF _) ⟨jR _,[],0,.nil,zW _ rfl⟩) (fun I t n h=>a56 I t n h) codeAny_compStart_list
  (fun{C Dd qs σ6 H7 s7 O' L' ρ2 ρt K} hL I7 rp7 e1 back=>by
   obtain⟨⟨w,ρ3⟩,e4,e1⟩:=obs e1;simp only[appTo] at e1;obtain⟨⟨ds,ρ4⟩,e5,e1⟩:=obs e1;dsimp only at e1;split at e1
   ·rename_i d zs e6;split at e1
    ·rename_i hl;cases e1;refine zR ((he C).to _ s7 σ6 H7 (fun v H8=>Rep (blk X scope cl s2 H2 fp C (N++[accN])) P O' L' ρ4 σ6 H8/\Den X.K (AvO O' ρ4 σ6) H8 d v) I7 ⟨P,O',L',ρ2,w,ρ3,rp7,e4,fun v H8 H8' r8 s8 d8=>?_⟩) (fun u8 s8 ⟨v8,H8,I8,r8,rp8,d8⟩=>?_) fun _ _ z=>z
     ·obtain⟨r9,l9,_⟩:=k8 (vs:=[v]) (r8.grow s8) e5 ⟨v,[],rfl,d8.fz r8 s8,rfl⟩;obtain⟨v',ev,h'⟩:=denL1 l9;cases ev;exact⟨r9,h'⟩
     ·obtain⟨d0,q1,q2⟩:=rp8.lnd js.length Dd hL;have e6':=e6;unfold ownAt at e6';rw[q1] at e6';cases e6';obtain⟨a,h1,vs,h4,lz⟩:=rp8.obj q1 rfl;rw[q2] at h1;cases h1;have h9:=a1c _ s8 σ6 H8 (.ref Dd) [v8] (.ref Dd) [u8] (fun v H9=>H9=upd H8 Dd (.lst (vs++[v8]))) I8 rfl (.cons r8 .nil) ⟨_,vs,v8,rfl,rfl,h4,by rw[<-b8 lz];exact zI hl t6,rfl⟩
      refine zR h9 (fun _ s9 ⟨v9,H9,I9,_,e9⟩=>?_) fun _ _ z=>z;subst e9;have g0:Go (AvO O' ρ4 σ6) (AvO O' ρ4 σ6) (fun b=>b=Dd) H8 (upd H8 Dd (.lst (vs++[v8]))):=⟨fun b o eb nb=>by rw[c7 nb];exact eb,fun b z=>by rw[z];exact⟨.inr ⟨js.length,_,_,q1,rfl,q2⟩,_,h4,trivial⟩,fun b z=>.inl z⟩
      exact back I9 (rp8.mut (d:=.lst (zs++[d])) e6 q2 (fun b o eb nb=>by rw[c7 nb];exact eb) ⟨_,j9,n6 g0 _ _ (p5 lz (g7 d8 j3))⟩)
    ·cases e1
   ·cases e1) hcalm I2 T st2 f2 b r hl wk hg ht e fin
theorem a2V {C:Addr}{σe:L2.St}{He:Hp}{s1:Shared}{h9:Heap}(I2:Inv X pins σ H2 s2)(f2:∀y∈fp,FpOk X pins H2 y)(leC:s2.heap.objs.size<=C)(I1:Inv (blk X scope cl s2 H2 fp C (N++[accN])) [] σe He s1)(hs9:∀y,y≠C->h9.get? y=s1.heap.get? y):
  Inv X pins σ He {s1 with heap:=h9}:=by
 have neC:∀y,He y≠none->y≠C:=fun y z w=>z (by rw[w];exact I1.free)
 have inS:∀y o,s2.heap.get? y=some o->y≠C:=fun y o e0=>zY (zI (zX e0) leC);have B:=I1.base
 have un:Un (frs X.stack) fp H2 He s2.heap h9:=⟨fun y o e0 n hb hx=>(hs9 y (inS y o e0)).trans (B.keep y o e0 n hb hx),fun y o e0 n hb hx=>by
   obtain⟨sl',z⟩:=B.slot y o e0 n hb hx;exact⟨sl',(hs9 y (inS y o e0)).trans z⟩,B.free,fun y o e0 hx=>by
   obtain⟨o',z⟩:=B.there y o e0 hx
   exact⟨o',(hs9 y (inS y o e0)).trans z⟩,B.tups,B.frzs,B.tbls⟩
 have hok:HOk X.prog X.w He h9:=fun y u0 q0=>(I1.hok y u0 q0).stay (fun c v hc z=>(hs9 c (neC c (by
   rcases hc with w|w
   ·rw[w,q0];exact fun z=>nomatch z
   ·rw[w];exact fun z=>nomatch z))).trans z) (fun _ z=>z) fun _ _ z=>z
 exact I2.call' (s':={s1 with heap:=h9}) (ch:=fp) I1.os un hok I1.bare (fun y hy=>⟨(f2 y hy).2.2.2.1,(f2 y hy).2.1,(f2 y hy).2.2.2.2.1,(f2 y hy).2.2.2.2.2⟩)
end
def capR (js:List (Option Nat)):List W:=js.filterMap fun o=>o.map W.r
def backG (li:Option (Nat×Nat)) (js:List (Option Nat)) (ρe ρ1:Ev) (d:D):Option (W×Ev):=match li with
 | none=>if lfC d=true then some (.o d,ρ1) else(frzL (capR js) ρ1).map fun ρ2=>(.o d,ρ2)
 | some (i,j)=>if lfC d=true then(ownAt ρe i).bind fun c=>if lfC c=true then some (.o d,setOwn ρ1 j c) else none else none
def liJ (li:Option (Nat×Nat)) (js:List (Option Nat)):Bool:=match li with
 | none=>true
 | some (i,j)=>js[i]? == some (some j)&&(List.range js.length).all fun k=>js[k]? != some (some j)||k==i
def liB (li:Option (Nat×Nat)) (ρ:Ev):Bool:=match li with
 | none=>true
 | some (_,j)=>(ownAt ρ j).isSome
def fComp (fi:FI) (li:Option (Nat×Nat)) (js:List (Option Nat)) (gf:FG) (t:FT) (fe:FX):FX:=fun ρ=>(fi ρ).bind fun p=>if liB li p.2=true then
  (loopC (turnC js.length gf t fe) p.1 (capE (li.map (·.2)) js p.2++[some (.l (.lst []))])).bind fun ρe=>match ownAt ρe js.length with
   | some (.lst ys)=>backG li js ρe p.2 (.lst ys)
   | _=>none
 else none
section
variable {X:Cx}{pins:List (Addr×PySem.Obj)}{σ σe:L2.St}{H2 He:Hp}{s2:Shared}{scope:Scope}{cl:List (Str×Addr)}{N:List Str}{js:List (Option Nat)}{fp:List Addr}{Dd C:Addr}{elt tg iter:Expr}{ifs:List Expr}{pos:Pos}{P:List (D×V)}{O:Av}{L:List (Option Nat×Addr)}{ρ ρ2 ρe:Ev}{w:W}{ys:List D}{fi:FI}{gf:FG}{t:FT}{fe:FX}{li:Option (Nat×Nat)}
theorem b0D (h:liJ li js=true)(hb:liB li ρ=true):LiOk li js ρ:=by
 cases li with
 | none=>exact⟨nofun,nofun,nofun⟩
 | some p=>
  obtain⟨i,j⟩:=p;simp only[liJ,qF,yB,all_eq_true,xU,Bool.or_eq_true,bne_iff_ne] at h;simp only[liB,isSome_iff_exists] at hb;refine⟨fun i' j' e=>by cases e;exact hb,fun i' j' e=>by cases e;exact h.1,fun i' j' k e ek=>?_⟩
  cases e;rcases h.2 k (zQ.mp ek).1 with z|z
  ·exact absurd ek z
  ·exact z
theorem a7L {j:Nat}:W.r j∈capR js↔some j∈js:=by
 unfold capR;rw[mem_filterMap];constructor
 ·rintro⟨o,h1,h2⟩;cases o with
  | none=>cases h2
  | some k=>cases h2;exact h1
 ·exact fun h=>⟨some j,h,rfl⟩
theorem a42 (r:Rep X P O L ρ σ H2)(hl:LiOk li js ρ)(hn:H2 Dd=none)(rp:Rep (blk X scope cl s2 H2 fp C (N++[accN])) P (fun b=>AvO O ρ σ b/\¬Capd ρ σ js b) ((some js.length,Dd)::lentL li σ) ρe σe He)
  {d0:D} (ey:ownAt ρe js.length=some d0) (e:backG li js ρe ρ d0=some (w,ρ2)):∃Hx,Rep X P O L ρ2 σ Hx/\Same Hx He/\DenW X.K (AvO O ρ2 σ) σ Hx He w (.ref Dd):=by
 obtain⟨c0,q0,ob⟩:=rp.lents js.length Dd zG;rw[ey] at q0;cases q0;cases li with
 | none=>
  have sm:Same H2 He:=fun b o eb=>rp.same b o eb fun i m=>by
   rcases zK.mp m with m|m
   ·cases m;rw[hn] at eb;cases eb
   ·cases m
  unfold backG at e;simp only at e;split at e
  ·rename_i hf;cases e;exact⟨H2,r,sm,Dd,rfl,hn,Q7 (d:=d0) (fun _ _ e _=>e) hf rfl ob⟩
  ·obtain⟨ρ3,e4,e⟩:=oms e;cases e;obtain⟨r2,k2⟩:=I0 r e4;refine⟨H2,r2,sm,Dd,rfl,hn,t3 (p7 fun b z=>?_) rfl ob⟩;rcases z with z|z
   ·obtain⟨z1,z2⟩:=P8 r k2 z;exact .inl ⟨z1,fun⟨j,w,d,m,q⟩=>z2 ⟨j,w,d,a7L.mpr m,q⟩⟩
   ·exact .inr ⟨js.length,by rw[z];exact zG⟩
 | some p=>
  obtain⟨i,j⟩:=p;unfold backG at e;simp only at e;split at e
  ·rename_i hf;cases e5:ownAt ρe i with
   | none=>rw[e5] at e;cases e
   | some c=>
    rw[e5] at e;simp only[bind_some] at e;split at e
    ·rename_i hc;cases e;obtain⟨c1,ec1⟩:=hl.own i j rfl;obtain⟨w0,q1,ow⟩:=m9 ec1;obtain⟨a,h1,oba⟩:=r.obj q1 ow;obtain⟨u0,eu0,_⟩:=C1 oba;have na:a≠Dd:=fun z=>by rw[z,hn] at eu0;cases eu0
     have mem:(some i,a)∈lentL (some (i,j)) σ:=E8.mpr ⟨j,rfl,h1⟩;obtain⟨c2,ec2,ob2⟩:=rp.lents i a (zJ _ mem);rw[e5] at ec2;cases ec2;obtain⟨ur,eur,mur⟩:=C1 ob;have keep:∀b o,H2 b=some o->b≠a->He b=some o:=fun b o eb nb=>rp.same b o eb fun k m=>by
      rcases zK.mp m with m|m
      ·cases m;rw[hn] at eb;cases eb
      ·cases k with
       | none=>exact a0w m
       | some k=>
        obtain⟨j',e1,e2⟩:=E8.mp m;cases e1;rw[h1] at e2;cases e2;exact nb rfl
     refine⟨fun b=>if b=Dd then none else He b,r.mut ec1 h1 (fun b o eb nb=>?_) (Q7 (fun b o eb nm=>?_) hc (if_neg na) ob2),fun b o eb=>?_,Dd,rfl,if_pos rfl,Q7 (d:=d0) (fun _ _ e _=>e) hf rfl ob⟩
     ·have:b≠Dd:=fun z=>by rw[z,hn] at eb;cases eb
      show(if b=Dd then none else He b)=some o;rw[if_neg this];exact keep b o eb nb
     ·have:b≠Dd:=fun z=>by rw[z,eur] at eb;cases eb;exact nm mur
      show(if b=Dd then none else He b)=some o;rw[if_neg this];exact eb
     ·dsimp only at eb;split at eb
      ·cases eb
      ·exact eb
    ·cases e
  ·cases e
theorem a2T {Q:VK}{Qq:Value->Shared->Prop}{use:Option (Value->Sem Unit)}{H:Hp}{s:Shared}{newPos:Pos}(hc:X.calm=true)(b:Blk X scope cl N js)(hj:liJ li js=true)(hi:QIB X li tg iter fi)
  (hg:∀s2 H2 fp C,QG (blk X scope cl s2 H2 fp C (N++[accN])) tg gf) (ht:∀s2 H2 fp C,Tst (blk X scope cl s2 H2 fp C (N++[accN])) ifs t) (he:∀s2 H2 fp C,QX (blk X scope cl s2 H2 fp C (N++[accN])) elt fe) (hs:∀x,foldedSetIterable iter X.env x=pure x)
  (I:Inv X pins σ H s) (h:tX X (fComp fi li js gf t fe) σ H Q)
  (fin:∀(C:Addr) (v:V) (He:Hp) (s1:Shared),Q v He->(∀h9:Heap,(∀y,y≠C->h9.get? y=s1.heap.get? y)->Inv X pins σ He {s1 with heap:=h9})->FpOk X pins He C->(∃m,s1.heap.Ns C m)->∀vv,RelV v vv->compPost (model X.prog X.w) X.A X.xe use Qq vv C (.ok .next) s1):
  wpAny (model X.prog X.w) X.A (comprehension (.ListComp elt [⟨tg,iter,ifs,0⟩] scope pos) scope X.env newPos (newList []) false (eval iter X.env) use) Qq X.xe s:=by
 obtain⟨P,O,L,ρ,w,ρ',r,e,q⟩:=h;unfold fComp at e;obtain⟨⟨xs,ρ1⟩,e1,e⟩:=obs e;dsimp only at e;split at e
 ·rename_i hb;cases e2:loopC (turnC js.length gf t fe) xs (capE (li.map (·.2)) js ρ1++[some (.l (.lst []))]) with
  | none=>rw[e2] at e;cases e
  | some ρe=>
   rw[e2] at e;simp only[bind_some] at e;split at e
   ·rename_i ys ey;have hl:=b0D hj hb;refine wpAny_comprehension_free rfl hs b.clos b.kind b.nms ?_;refine zR (hi.to pins s σ H _ I ⟨P,O,L,ρ,xs,ρ1,r,e1,fun J H1 P' r1 hh wk=>(⟨P',r1,hh,wk⟩:∃P',Rep X P' O L ρ1 σ H1/\Holds P' P/\WksB li X.K P' O ρ1 σ H1 xs J)⟩) (fun v s1 h1=>zR h1 (fun itv s2 h2=>?_) fun _ _ z=>z) fun _ _ z=>z;obtain⟨it,fp,tn,J,H2,rfl,I2,T,st2,f2,P',r1,hh,wk⟩:=h2;refine a6y hc I2 T st2 f2 b r1 hl wk (hg s2 H2 fp) (ht s2 H2 fp) (he s2 H2 fp) e2 fun Dd C σe He s3 hn leC I1 rp=>?_;obtain⟨Hx,rx,sx,dx⟩:=a42 r1 hl hn rp ey e;obtain⟨m,hm,_⟩:=id I1.loc;refine fin C (.ref Dd) He s3 (q _ Hx He (rx.holds hh) sx dx) (fun h9 k9=>a2V I2 f2 leC I1 k9) ?_ ⟨m,hm⟩ (.ref Dd) rfl;exact I2.fpOk leC I1.free
   ·cases e
 ·cases e
theorem D5 (hc:X.calm=true)(b:Blk X scope cl N js)(hi:QIB X li tg iter fi)(hg:∀s2 H2 fp C,QG (blk X scope cl s2 H2 fp C (N++[accN])) tg gf)(ht:∀s2 H2 fp C,Tst (blk X scope cl s2 H2 fp C (N++[accN])) ifs t)(he:∀s2 H2 fp C,QX (blk X scope cl s2 H2 fp C (N++[accN])) elt fe)
  (hj:liJ li js=true:=by rfl) (hs:∀x,foldedSetIterable iter X.env x=pure x:=by intro _;rfl):QX X (.ListComp elt [⟨tg,iter,ifs,0⟩] scope pos) (fComp fi li js gf t fe):=⟨fun pins s σ H Q I h=>by
 rw[eval_ListComp];refine a2T (use:=none) hc b hj hi hg ht he hs I h fun C v He s1 hq back fp ⟨m,hm⟩ vv rv=>?_
 exact⟨m,hm,fun h9 k9=>⟨v,He,back h9 fun y ny=>k9.2 y ny,rv,hq⟩⟩⟩
def UseOk (X:Cx) (pins:List (Addr×PySem.Obj)) (σ:L2.St) (Q:VK) (u:Value->Sem Unit) (Rr:Shared->Prop):Prop:=
 ∀(C:Addr) (m:Str->Option Value) (s':Shared) (H':Hp) (v:V) (vv:Value),FpOk X pins H' C->s'.heap.Ns C m->Inv X pins σ H' s'->RelV v vv->Q v H'->
  wpAny (model X.prog X.w) X.A (u vv) (fun _ s2=>∃m,s2.heap.Ns C m/\∀h',Heap.SameBut C s2.heap h'->Rr {s2 with heap:=h'}) X.xe s'
structure QXU (X:Cx) (e:Expr) (f:FX):Prop where
 to:∀(pins:List (Addr×PySem.Obj)) (s:Shared) (σ:L2.St) (H:Hp) (Q:VK) (u:Value->Sem Unit) (Rr:Shared->Prop),Inv X pins σ H s->tX X f σ H Q->UseOk X pins σ Q u Rr->
  wpAny (model X.prog X.w) X.A (evalThenUse e X.env u) (fun _ s'=>Rr s') X.xe s
theorem a8f {M:Model}{A:Around}{E:Value->Shared->Prop}{s:Shared}{env:Env}{elt:Expr}{g:Comprehension}{gs:List Comprehension}{scope:Scope}{pos:Pos}{u:Value->Sem Unit}{Rr:Shared->Prop}
  (h:wpAny M A (comprehension (.ListComp elt (g::gs) scope pos) scope env (firstIterPos (g::gs) pos) (newList []) (firstAsync (g::gs)) (firstIter (g::gs) env) (some u)) (fun _ s'=>Rr s') E s):
  wpAny M A (evalThenUse (.ListComp elt (g::gs) scope pos) env u) (fun _ s'=>Rr s') E s:=by
 show wpAny M A (do let _ <-comprehension (.ListComp elt (g::gs) scope pos) scope env (firstIterPos (g::gs) pos) (newList []) (firstAsync (g::gs)) (firstIter (g::gs) env) (some u)) _ _ s
 exact zA (zR h (fun _ s' hq=>zB hq) fun _ _ e=>e)
theorem B8 (hc:X.calm=true)(b:Blk X scope cl N js)(hi:QIB X li tg iter fi)(hg:∀s2 H2 fp C,QG (blk X scope cl s2 H2 fp C (N++[accN])) tg gf)(ht:∀s2 H2 fp C,Tst (blk X scope cl s2 H2 fp C (N++[accN])) ifs t)(he:∀s2 H2 fp C,QX (blk X scope cl s2 H2 fp C (N++[accN])) elt fe)
  (hj:liJ li js=true:=by rfl) (hs:∀x,foldedSetIterable iter X.env x=pure x:=by intro _;rfl):QXU X (.ListComp elt [⟨tg,iter,ifs,0⟩] scope pos) (fComp fi li js gf t fe):=⟨fun pins s σ H Q u Rr I h hU=>by
 refine a8f (a2T (use:=some u) hc b hj hi hg ht he hs I h fun C v He s1 hq back fp ⟨m,hm⟩ vv rv=>?_)
 exact hU C m s1 He v vv fp hm (back s1.heap fun y _=>rfl) rv hq⟩
end
theorem a5W {prog:Program}{w:World}{A:Around}(hh:A.handled=none){l I:Addr}{its:Array Value}(ne:l≠I):
  Walks prog w A I [I,l] [I] its.size (fun i v=>its[i]? =some v) (fun i h=>h.IsListIter I l i/\h.IsList l its) where
 sub:=fun b hb=>by rw[zN.mp hb];exact zG
 frame:=fun i h h' ⟨⟨o,e,r⟩,⟨o2,e2,r2⟩⟩ k=>⟨⟨o,k I zG o e,r⟩,⟨o2,k l (zJ _ zG) o2 e2,r2⟩⟩
 item:=fun i s Q E hi ⟨h1,h2⟩ q=>wpAny_pyNext_list_item h1 h2 (x:=its[i]) (by simp[hi]) fun h' hit hs=>q its[i] h' s.toks (by simp[hi]) ⟨hit,h2.extBut hs.extBut ne⟩ fun b o hb e=>hs.extBut b o (fun z=>hb (by rw[z];exact zN.mpr rfl)) e
 done:=fun s Q E ⟨h1,h2⟩ q=>wpAny_pyNext_list_end hh h1 h2 (by simp) fun h' hx=>q h' s.toks fun b o hb e=>hx b o (fun z=>hb (by rw[z];exact zN.mpr rfl)) e
 self:=fun i s Q E ⟨h1,_⟩ q=>wpAny_pyIter_listiter h1 q
section
variable {X:Cx}{b c e:Expr}{p:Pos}{h:FX}{t u:FT}
theorem a2I (i:Int):∀ns:List Int,inV (.int i) (ns.map V.int)=decide (i∈ns)
 | []=>rfl
 | n::ns=>by
  have ih:=a2I i ns;unfold inV at ih ⊢;rw[zH,any_cons,ih];show((n==i)||_)=_
  by_cases h:n=i
  ·simp[h]
  ·have h':¬i=n:=fun z=>h z.symm;simp[h,h']
theorem a1Y:∀ns:List Int,(ns.map V.int).all flatV=true
 | []=>rfl
 | n::ns=>by rw[zH,all_cons,a1Y ns];rfl
theorem Z2:∀(ns:List Int),preSum (fun i=>ns.getD i 0) ns.length=ns.sum:=by
 have key:∀(ns:List Int) (k:Nat),k<=ns.length->preSum (fun i=>ns.getD i 0) k=(ns.take k).sum:=by
  intro ns k
  induction k with
  | zero=>intro _;simp[preSum]
  | succ k ih=>
   intro h;have h':k<ns.length:=by walk_at "o"
   rw[preSum,ih (by walk_at "o"),List.take_add_one,qL h',List.sum_append]
   simp[zS,qL h']
 intro ns;rw[key ns ns.length (zF _),take_length]
theorem a5a {ns:List Int}{its:List Value}(r:Vals (ns.map V.int) its){i:Nat}{v:Value}(e:its.toArray[i]? =some v):∃t,v= .int (ns.getD i 0) t:=by
 rw[List.getElem?_toArray] at e
 induction ns generalizing its i with
 | nil=>cases r;simp at e
 | cons n ns ih=>
  cases r with
  | cons r1 r2=>
   cases i with
   | zero=>simp at e;subst e;exact r1
   | succ i=>exact ih r2 (by simpa using e)
theorem a1R (hc:X.calm=true):CallR X (.builtin "sum") (fun xs H Q=>∃(p:Addr) (ns:List Int),xs=[.ref p]/\SqL X.K H p (ns.map V.int)/\Q (.int ns.sum) H):=by
 intro pins s σ H xs us Q I r h;obtain⟨p,ns,rfl,hq,q⟩:=h;obtain⟨u,rfl,ru⟩:=vals1 r;cases ru;obtain⟨its,rv,⟨o,m,h1,h2,_,h4⟩,hz⟩:=I.list hq;have hl:s.heap.IsList p its.toArray:=⟨o,h1,h2,m,h4⟩;have lt:p<s.heap.objs.size:=zX h1;refine call_sum_walkG (wpAny_pyIter_list hl ⟨s.heap.objs.size,_,_,_,_,_,fun i=>ns.getD i 0,rfl,a5W (show X.A.in1.handled=none from I.ok.hd hc) (zY lt),⟨⟨_,zW _ rfl,rfl,rfl⟩,hl.push _⟩,fun c hb=>?_,fun i v hv=>a5a rv hv,fun h' tk t' hk=>?_⟩)
 ·show c<(s.heap.push _).objs.size;rw[size_push];rcases zK.mp hb with rfl|hb
  ·exact Nat.lt_succ_self _
  ·rw[zN.mp hb];exact Nat.lt_succ_of_lt lt
 ·have I1:Inv X pins σ H {s with heap:=h',toks:=tk}:=I.kept (t':=tk) fun b ob e=>hk b ob (fun z=>absurd (zX e) (by rw[zN.mp z];exact jL _)) (zD _ e)
  refine⟨.int ns.sum,H,I1,⟨t',?_⟩,q⟩;have len:its.toArray.size=ns.length:=by rw[zV,<-rv.length,zC]
  rw[len,Z2]
end
def sortI (ns:List Int):List Int:=ns.mergeSort fun a b=>decide (a<=b)
theorem a0X (ns:List Int):(sortI ns).Perm ns:=List.mergeSort_perm ns _
theorem a2c (ns:List Int):(sortI ns).Pairwise (·<=·):=by
 have z:=List.pairwise_mergeSort (le:=fun a b:Int=>decide (a<=b)) (fun a b c h1 h2=>by
  simp only[decide_eq_true_eq] at *;walk_at "o") (fun a b=>by
  simp only[Bool.or_eq_true,decide_eq_true_eq];walk_at "o") ns
 exact z.imp fun h=>by simpa using h
theorem T4:∀{its:List Value} {ns:List Int},IntsAre its ns->Vals (ns.map V.int) its
 | _,_,.nil=>.nil
 | _,_,.cons a t r=>.cons ⟨t,rfl⟩ (T4 r)
section
variable {X:Cx}{e:Expr}{p:Pos}
theorem a2p:CallR X (.builtin "sorted") (fun xs H Q=>∃(p:Addr) (ns:List Int),xs=[.ref p]/\SqL X.K H p (ns.map V.int)/\ns.length<64/\∀l,H l=none->Q (.ref l) (upd H l (.lst ((sortI ns).map V.int)))):=by
 intro pins s σ H xs us Q I r h;obtain⟨p,ns,rfl,hq,h64,q⟩:=h;obtain⟨u,rfl,ru⟩:=vals1 r;cases ru;refine Calls.call_function_entry kind_sorted plain_sorted entry_sorted (args_sorted1 _) ?_;unfold Builtin.«sorted»;refine zA (m:=checkCount "sorted" 1 1 _) (zB ?_);obtain⟨its,rv,⟨o,m,h1,h2,_,h4⟩,hz⟩:=I.list hq;have len:its.length=ns.length:=by rw[<-rv.length,zC]
 have hL:s.heap.IsList p its.toArray:=⟨o,h1,h2,m,h4⟩;have sz:its.length<=sizeLine:=by rw[len,jO];walk_at "o"
 refine zA (collect_list hL ?_ sz);refine zA (wpAny_newList ?_ sz);have I1:Inv X pins σ H {s with heap:=(s.heap.push (seqObj "list" #[] 0)).update s.heap.objs.size (PySem.Obj.mapSeq (· ++ its.toArray))}:=I.kept (t':=s.toks) fun b o e=>by
  rw[yG _ _ _ _ (zY (zX e))];exact zD _ e
 generalize hG:(s.heap.push (seqObj "list" #[] 0)).update s.heap.objs.size (PySem.Obj.mapSeq (· ++ its.toArray))=G at I1 ⊢;have ho:(G.push (seqObj "list" its.toArray 0)).get? G.objs.size=some (seqObj "list" its.toArray 0):=zW _ rfl;refine zA (qD ?_);refine qR PyProof.Rows.slot_list_sort ⟨_,ho,rfl⟩ PyProof.Rows.entry_list_sort (list_sort_tree (n:=0) (vs:=its) ho (F9 rv) (by walk_at "o") fun out ns' hI hp hP=>⟨.none,rfl,?_⟩) (PyProof.Rows.args_list_sort _)
 have es:ns'=sortI ns:=PySem.W.lks_uniq (hp.trans (a0X ns).symm) hP (a2c ns);subst es;have g1:=get?_update_seq ho (fun _=> #[]);have g2:=get?_update_seq (zD (seqObj "list" #[] 0) (zD (seqObj "tuple" its.toArray 0) g1)) (fun _=>out);have kept:∀b o,G.get? b=some o->(sortedHeap (G.push (seqObj "list" its.toArray 0)) G.objs.size its out).get? b=some o:=fun b o e=>by
  have ne:b≠G.objs.size:=zY (zX e);unfold sortedHeap;rw[yG _ _ _ _ ne];refine zD _ (zD _ ?_);rw[yG _ _ _ _ ne];exact zD _ e
 refine zB ⟨_,rfl,.ref G.objs.size,_,I1.laid (t':=s.toks) (o:=.lst ((sortI ns).map V.int)) kept (zF _) ?_,rfl,q _ (I1.hok.fresh (zF _))⟩;obtain⟨ep,g3⟩:∃ep,(sortedHeap (G.push (seqObj "list" its.toArray 0)) G.objs.size its out).get? G.objs.size=some (seqObj "list" out.toList.toArray ep):=⟨_,by rw[Array.toArray_toList];exact g2⟩
 exact⟨by rw[zC,(a0X ns).length_eq,jO];walk_at "o",out.toList,_,T4 hI,g3⟩
end
section
variable {prog:Program}{w:World}{A:Around}{E:Value->Shared->Prop}{s:Shared}
theorem a3L {t sl:Addr}{items:Array Value}{vl vu:Value}{lo hi:Option Int}{Q:Value->Shared->Prop}(ht:IsTup s.heap t items)(hs:s.heap.IsSliceOf sl vl vu .none)(pl:IsPart vl lo)(pu:IsPart vu hi)
  (hw:HT.sIx items.size 0 lo=0/\HT.sIx items.size items.size hi=items.size) (h:Q (.ref t) s):wpAny (model prog w) A (getItem (.ref t) (.ref sl)) Q E s:=by
 obtain⟨os,hos,hcs,hds⟩:=id hs;have hTs:s.TypeIs (.ref sl) "slice":=⟨os,hos,hcs⟩;unfold getItem
 try with_reducible refine qD ?_
 first|refine zA (zB ?_)|skip
 refine zA (wpAny_sequenceKey ht.typeIs (by decide) ?_)
 refine zA (qJ (name:=Str.ofString "__getitem__") ht.typeIs qW
  (qR qW ht.typeIs entry_tuple_getitem ?_ (args_tuple_getitem _ _)))
 show wpAny _ _ (Builtin.Tuple.tupleItemsOf (.ref t) >>=_) _ _ s;refine zA (tupleItemsOf_ ht ?_);refine zA (wpAny_typeOf hTs ?_);rw[if_pos (by decide)]
 refine zA (HT.sliceApplied_gen hs pl pu ?_);show wpAny _ _ (if(((HT.sIx items.size 0 lo:Nat):Int)==0&&(1:Int)==1&&(HT.sIx items.size items.size hi-HT.sIx items.size 0 lo)==items.size)=true then _ else _) _ _ s;rw[if_pos (by rw[hw.1,hw.2];simp)]
 unfold Builtin.Tuple.tupleIsExact;refine zA (zA (wpAny_typeOf ht.typeIs (zB ?_)));rw[if_pos (by decide)]
 first
  | exact zA (xY (zB ⟨_,rfl,zB h⟩))
  | exact zA (xY (zA (zB (zB ⟨_,rfl,zB h⟩))))
end
section
variable {X:Cx}{a b c e:Expr}{es:List Expr}{pos p:Pos}{f g h:FX}{t u:FT}{fa:FA}{x:Str}
def rSlF (K:PySem.W.Frag):V->Option Int->Option Int->Hp->VK->Prop:=fun x lo hi H Q=>∃a xs,x= .ref a/\SqT K H a xs/\(HT.sIx xs.length 0 lo=0/\HT.sIx xs.length xs.length hi=xs.length)/\Q (.ref a) H
theorem a9o:SlR X (rSlF X.K):=by
 intro pins s σ H x v vl vu lo hi sl Q I rx hs pl pu h;obtain⟨a,xs,rfl,hx,hw,q⟩:=h;cases rx;obtain⟨its,r,ht,hz⟩:=I.tuple hx;have hlen:its.toArray.size=xs.length:=by rw[zV];exact r.length.symm
 refine⟨"tuple",_,PyProof.Rows.slot_tuple_getitem.lookup,ht.typeIs,?_⟩;exact a3L ht hs pl pu (by rw[hlen];exact hw) ⟨.ref a,H,I,rfl,q⟩
theorem qx_b {id:String}{r:List V->Hp->VK->Prop}{k:List D->Option W}(hc:CallR X (.builtin id) r)(hk:PrA X k r)(hm:X.mg x=none)(ha:QA X (e::es) fa)(hv:bootBuiltins x=some (.builtin id):=by rfl)(hg:Gl X x:=by rfl)(hn:x≠"__name__":=by decide)(hdb:(x==("__debug__":Str))=false:=by decide)
  (he:starEach (e::es) X.env=(false,eval e X.env)::starEach es X.env:=by rfl) (hpl:(backTo pos (starEach es X.env)).any (·.1)=false:=by rfl):QX X (.Call (.Name x p) (e::es) [] pos) (fCall k fa):=a0r hc hk hv hm ha hg hn hdb he hpl
theorem qx_t {T:String}{r:List V->Hp->VK->Prop}{k:List D->Option W}(hc:CallR X (.type T) r)(hk:PrA X k r)(hm:X.mg x=none)(ha:QA X (e::es) fa)(hv:bootBuiltins x=some (.type T):=by rfl)(hg:Gl X x:=by rfl)(hn:x≠"__name__":=by decide)(hdb:(x==("__debug__":Str))=false:=by decide)
  (he:starEach (e::es) X.env=(false,eval e X.env)::starEach es X.env:=by rfl) (hpl:(backTo pos (starEach es X.env)).any (·.1)=false:=by rfl):QX X (.Call (.Name x p) (e::es) [] pos) (fCall k fa):=a6E hc hk hv hm ha hg hn hdb he hpl
def k1 (g:D->Option W):List D->Option W
 | [d]=>g d
 | _=>none
theorem pr1 {g:D->Option W}{r:List V->Hp->VK->Prop}(h:∀(A:Av) (d:D) (w:W) (v:V) (H:Hp) (Q:VK),g d=some w->DenR X.K A H d v->(∀z H',Same H H'->DenW X.K A [] H H' w z->Q z H')->r [v] H Q):PrA X (k1 g) r:=fun A ds w vs H Q _ e l q=>by
 unfold k1 at e;split at e
 ·obtain⟨v,rfl,h1⟩:=denRL1 l;exact h A _ w v H Q e h1 q
 ·cases e
def k2 (g:Int->Int->D):List D->Option W
 | [.int i,.int j]=>some (.v (g i j))
 | _=>none
theorem pr2 {g:Int->Int->Int}{r:List V->Hp->VK->Prop}(h:∀i j (H:Hp) (Q:VK),Q (.int (g i j)) H->r [.int i,.int j] H Q):PrA X (k2 fun i j=>.int (g i j)) r:=fun A ds w vs H Q _ e l q=>by
 unfold k2 at e;split at e
 ·rename_i i j;cases e;obtain⟨v,v',rfl,h1,h2⟩:=denRL2 l;rw[g8 h1,g8 h2];exact h i j H Q (q _ H (Same.refl H) u9)
 ·cases e
def gLen (d:D):Option W:=(items d).map fun xs=>.v (.int xs.length)
theorem b1p:PrA X (k1 gLen) (fun xs H Q=>∃p ys,xs=[.ref p]/\(SqL X.K H p ys\/SqT X.K H p ys)/\Q (.int ys.length) H):=pr1 fun A d w v H Q e h q=>by
 unfold gLen at e;obtain⟨xs,e1,e⟩:=oms e;cases e;obtain⟨a,ws,rfl,hq,lw⟩:=B6 e1 h;exact⟨a,ws,rfl,hq,by rw[<-b8 lw];exact q _ H (Same.refl H) u9⟩
def gAbs:D->Option W
 | .int i=>some (.v (.int (if i<0 then -i else i)))
 | _=>none
abbrev gMax:=k2 fun i j=>.int (if j>i then j else i)
abbrev gMin:=k2 fun i j=>.int (if j<i then j else i)
theorem a7f:PrA X gMax (fun xs H Q=>∃i j,xs=[.int i,.int j]/\Q (.int (if j>i then j else i)) H):=pr2 fun i j H Q q=>⟨i,j,rfl,q⟩
theorem b1B:PrA X gMin (fun xs H Q=>∃i j,xs=[.int i,.int j]/\Q (.int (if j<i then j else i)) H):=pr2 fun i j H Q q=>⟨i,j,rfl,q⟩
def gInt:D->Option W
 | .bl b=>some (.v (.int (if b then 1 else 0)))
 | _=>none
def gTuple (d:D):Option W:=(items d).map fun xs=>.v (.tup xs)
theorem V3:PrA X (k1 gTuple) (fun xs H Q=>∃p ys,xs=[.ref p]/\((SqL X.K H p ys/\∀l,H l=none->Q (.ref l) (upd H l (.tup ys)))\/(SqT X.K H p ys/\Q (.ref p) H))):=pr1 fun A d w v H Q e h q=>by
 cases d<;>simp only[gTuple,items,Option.map_none] at e<;>first|cases e|skip
 ·rename_i xs;obtain⟨a,vs,rfl,hq,l⟩:=z0 h;exact⟨a,vs,rfl,.inr ⟨hq,q _ H (Same.refl H) h⟩⟩
 ·rename_i xs;obtain⟨a,vs,rfl,hq,l⟩:=h;exact⟨a,vs,rfl,.inl ⟨hq,fun l' hl=>q _ _ (j4 hl _) (F0 hl l)⟩⟩
def gList (d:D):Option W:=(items d).map fun xs=>.o (.lst xs)
def intsOf:List D->Option (List Int)
 | []=>some []
 | .int i::ds=>(intsOf ds).map fun is=>i::is
 | _=>none
theorem p4:∀{ds:List D} {is:List Int},intsOf ds=some is->ds=is.map D.int
 | [],is,e=>by cases e;rfl
 | .int i::ds,is,e=>by
  rw[intsOf] at e;cases e1:intsOf ds with
  | none=>rw[e1] at e;cases e
  | some js=>rw[e1] at e;cases e;rw[zH,<-p4 e1]
 | .non::ds,is,e=>by cases e
 | .bl _::ds,is,e=>by cases e
 | .str _::ds,is,e=>by cases e
 | .tup _::ds,is,e=>by cases e
 | .lst _::ds,is,e=>by cases e
 | .dT _ _::ds,is,e=>by cases e
 | .dK _ _::ds,is,e=>by cases e
 | .exn _::ds,is,e=>by cases e
theorem n5:∀is:List Int,intsOf (is.map D.int)=some is
 | []=>rfl
 | i::is=>by rw[zH,intsOf,n5 is];rfl
theorem k6 {K:PySem.W.Frag}{A:Av}{H:Hp}:∀{is:List Int} {vs:List V},DenL K A H (is.map D.int) vs->vs=is.map V.int
 | [],vs,l=>by rw[xT,DenL] at l;exact l
 | i::is,vs,l=>by
  rw[zH,DenL] at l;obtain⟨v,r,rfl,h,l⟩:=l;rw[v6.mp h,k6 l];rfl
theorem B7 {K:PySem.W.Frag}{A:Av}{H:Hp}:∀ns:List Int,DenL K A H (ns.map D.int) (ns.map V.int)
 | []=>by rw[xT,xT];exact j3
 | n::ns=>by rw[zH,zH];exact g7 (by rw[Den]) (B7 ns)
def boolsOf:List D->Option (List Bool)
 | []=>some []
 | .bl i::ds=>(boolsOf ds).map fun is=>i::is
 | _=>none
theorem a01:∀{ds:List D} {is:List Bool},boolsOf ds=some is->ds=is.map D.bl
 | [],is,e=>by cases e;rfl
 | .bl i::ds,is,e=>by
  rw[boolsOf] at e;cases e1:boolsOf ds with
  | none=>rw[e1] at e;cases e
  | some js=>rw[e1] at e;cases e;rw[zH,<-a01 e1]
 | .non::ds,is,e=>by cases e
 | .int _::ds,is,e=>by cases e
 | .str _::ds,is,e=>by cases e
 | .tup _::ds,is,e=>by cases e
 | .lst _::ds,is,e=>by cases e
 | .dT _ _::ds,is,e=>by cases e
 | .dK _ _::ds,is,e=>by cases e
 | .exn _::ds,is,e=>by cases e
theorem Z0:∀is:List Bool,boolsOf (is.map D.bl)=some is
 | []=>rfl
 | i::is=>by rw[zH,boolsOf,Z0 is];rfl
theorem O6 {K:PySem.W.Frag}{A:Av}{H:Hp}:∀{is:List Bool} {vs:List V},DenL K A H (is.map D.bl) vs->vs=is.map V.bl
 | [],vs,l=>by rw[xT,DenL] at l;exact l
 | i::is,vs,l=>by
  rw[zH,DenL] at l;obtain⟨v,r,rfl,h,l⟩:=l;rw[W6.mp h,O6 l];rfl
def gSortI:D->Option W
 | .lst xs=>(intsOf xs).bind fun ns=>if ns.length<64 then some (.o (.lst ((sortI ns).map D.int))) else none
 | _=>none
theorem a7I:PrA X (k1 gSortI) (fun xs H Q=>∃(p:Addr) (ns:List Int),xs=[.ref p]/\SqL X.K H p (ns.map V.int)/\ns.length<64/\∀l,H l=none->Q (.ref l) (upd H l (.lst ((sortI ns).map V.int)))):=pr1 fun A d w v H Q e h q=>by
 cases d with
 | lst xs=>
  simp only[gSortI] at e;cases e1:intsOf xs with
  | none=>rw[e1] at e;cases e
  | some bs=>
   rw[e1] at e;simp only[bind_some] at e;split at e
   ·rename_i hl;cases e;obtain⟨a,vs,rfl,hq,l⟩:=h;rw[p4 e1] at l;rw[k6 l] at hq;exact⟨a,bs,rfl,hq,hl,fun l hl=>q _ _ (j4 hl _) (F6 hl (B7 _))⟩
   ·cases e
 | _=>cases e
def oLtT:D->D->Option W
 | .int i,.int j=>some (.v (.bl (decide (i<j))))
 | .tup xs,.tup ys=>(intsOf xs).bind fun ns=>(intsOf ys).map fun ms=>.v (.bl (HT.lexLt ns ms))
 | _,_=>none
theorem kLtT:Pr2 X oLtT (fun v u H Q=>rI0 (fun i j=>.bl (decide (i<j))) v u H Q\/rLtT X.K v u H Q):=by
 intro A x y w v u H Q _ e hx hy q;unfold oLtT at e;split at e
 ·cases e;exact .inl ⟨_,_,g8 hx,g8 hy,q _ H (Same.refl H) v4⟩
 ·rename_i xs ys;cases e1:intsOf xs with
  | none=>rw[e1] at e;cases e
  | some ns=>
   cases e2:intsOf ys with
   | none=>rw[e1,e2] at e;cases e
   | some ms=>
    rw[e1,e2] at e;cases e;obtain⟨a,vs,rfl,h1,l1⟩:=z0 hx;obtain⟨b,us,rfl,h2,l2⟩:=z0 hy;rw[p4 e1] at l1;rw[p4 e2] at l2;rw[k6 l1] at h1;rw[k6 l2] at h2;exact .inr ⟨a,b,ns,ms,rfl,rfl,h1,h2,q _ H (Same.refl H) v4⟩
 ·cases e
theorem b03 {k:Nat}(hr:Room k X.A)(ha:QX X a f)(hb:QX X b g):QT X (.Compare a [.Lt] [b] pos) (fTest (fBin oLtT f g)):=P5 (b0v.or (b1l (by have:=hr.units;walk_at "o"))) kLtT ha hb
def oInI (neg:Bool) (x y:D):Option W:=match x with
 | .int i=>(items y).bind fun ys=>(intsOf ys).map fun ns=>.v (.bl (if neg then !decide (i∈ns) else decide (i∈ns)))
 | _=>none
theorem kInI {neg:Bool}:Pr2 X (oInI neg) (rIn X.K neg):=by
 intro A x y w v u H Q _ e hx hy q;cases x with
 | int i=>
  simp only[oInI] at e;cases e1:items y with
  | none=>rw[e1] at e;cases e
  | some ys=>
   rw[e1] at e;simp only[bind_some] at e;obtain⟨ns,e2,e⟩:=oms e;cases e;obtain⟨p,vs,rfl,hq,l⟩:=B6 e1 hy;rw[p4 e2] at l;rw[k6 l] at hq;rw[g8 hx];exact⟨p,ns.map V.int,rfl,hq,rfl,a1Y ns,by rw[a2I];exact q _ H (Same.refl H) v4⟩
 | _=>cases e
def fChain (o o':D->D->Option W) (f g h:FX):FX:=fun ρ=>(f ρ).bind fun p=>(g p.2).bind fun q=>(dr q.2 p.1.fz).bind fun x=>(dr q.2 q.1.fz).bind fun y=>(o x y).bind fun d=>match d with
 | .v (.bl k)=>if k=true then(h q.2).bind fun z=>(dr z.2 q.1.fz).bind fun y=>(dr z.2 z.1.fz).bind fun z'=>(o' y z').map fun w=>(w,z.2) else some (.v (.bl false),q.2)
 | _=>none
theorem a0W {r r':R2}{o o':D->D->Option W}(k:Pr2 X o r)(k':Pr2 X o' r'):∀σ H Q,tX X (fChain o o' f g h) σ H Q->tChain r r' (tX X f) (tX X g) (tX X h) σ H Q:=fun σ H Q h0=>tXe h0 fun P O L ρ w ρ' r e q=>by
 unfold fChain at e;obtain⟨⟨w1,ρ1⟩,e1,e⟩:=obs e;dsimp only at e;refine⟨P,O,L,ρ,w1,ρ1,r,e1,fun v H1 H1' r1 s1 d1=>?_⟩;obtain⟨P',r1',k1⟩:=hold (r1.grow s1) (d1.fz r1 s1);obtain⟨⟨w2,ρ2⟩,e2,e⟩:=obs e;dsimp only at e;refine⟨P',O,L,ρ1,w2,ρ2,r1',e2,fun u H2 H2' r2 s2 d2=>?_⟩;have d2':=d2.fz r2 s2;obtain⟨r3,d1'⟩:=k1 ρ2 H2' (r2.grow s2);cases e3:dr ρ2 w1.fz with
 | none=>rw[e3] at e;cases e
 | some x=>
  cases e4:dr ρ2 w2.fz with
  | none=>rw[e3,e4] at e;cases e
  | some y=>
   rw[e3,e4] at e;simp only[bind_some] at e;cases e5:o x y with
   | none=>rw[e5] at e;cases e
   | some d0=>
    rw[e5] at e;simp only[bind_some] at e;refine k _ x y d0 v u H2' _ (fun b z=>r3.there z) e5 (w9 r3 e3 d1') (w9 r3 e4 d2') fun z H3 s3 d3=>?_;split at e
    ·rename_i b;refine⟨b,P3 d3,?_⟩;have r4:=r3.grow s3;cases b with
     | true=>
      rw[if_pos rfl] at e ⊢;obtain⟨P'',r4',k4⟩:=hold r4 (d2'.same s3);obtain⟨⟨w3,ρ3⟩,e6,e⟩:=obs e;dsimp only at e;refine⟨P'',O,L,ρ2,w3,ρ3,r4',e6,fun u3 H5 H5' r5 s5 d5=>?_⟩;obtain⟨r6,d6⟩:=k4 ρ3 H5' (r5.grow s5);cases e7:dr ρ3 w2.fz with
      | none=>rw[e7] at e;cases e
      | some y'=>
       cases e8:dr ρ3 w3.fz with
       | none=>rw[e7,e8] at e;cases e
       | some z'=>
        rw[e7,e8] at e;simp only[bind_some] at e;cases e9:o' y' z' with
        | none=>rw[e9] at e;cases e
        | some w'=>
         rw[e9] at e;cases e;exact k' _ y' z' w u u3 H5' Q (fun b z=>r6.there z) e9 (w9 r6 e7 d6) (w9 r6 e8 (d5.fz r5 s5)) fun z H' s d=>q z H5' H' r6 s d.st
     | false=>
      rw[if_neg zT] at e ⊢;cases e;exact q _ H3 H3 r4 (Same.refl _) v4
    ·cases e
theorem a9b (ha:QX X a f)(hb:QX X b g)(hc:QX X c h)(hm:lastMarks [.LtE,.Lt] [b,c]=false:=by with_unfolding_all rfl):QX X (.Compare a [.LtE,.Lt] [b,c] pos) (fChain oLe oLt f g h):=⟨PE.weak (a6Y a71 b0v ha.to hb.to hc.to hm) (a0W kB0 kB0)⟩
abbrev FO:=Ev->Option (Option Int×Ev)
def tO (X:Cx) (f:FO):TO:=fun σ H Q=>∃P O L ρ o ρ',Rep X P O L ρ σ H/\f ρ=some (o,ρ')/\∀H',Rep X P O L ρ' σ H'->Q o H'
theorem tOe {X:Cx}{f:FO}{σ:L2.St}{H:Hp}{Q:Option Int->Hp->Prop}{C:Prop}(h:tO X f σ H Q)(k:∀P O L ρ o ρ',Rep X P O L ρ σ H->f ρ=some (o,ρ')->(∀H',Rep X P O L ρ' σ H'->Q o H')->C):C:=by
 obtain⟨P,O,L,ρ,w,ρ',r,e,q⟩:=h;exact k P O L ρ w ρ' r e q
structure QO (X:Cx) (e:Option Expr) (f:FO):Prop where
 to:PO X e (tO X f)
theorem PO.weak {X:Cx}{e:Option Expr}{t u:TO}(h:PO X e t)(w:∀σ H Q,u σ H Q->t σ H Q):PO X e u:=fun pins s σ H Q I q=>h pins s σ H Q I (w σ H Q q)
def fO0:FO:=fun ρ=>some (none,ρ)
def fO1 (f:FX):FO:=fun ρ=>(f ρ).bind fun p=>match p.1 with|.v (.int i)=>some (some i,p.2)|_=>none
theorem a0b:QO X none fO0:=⟨PO.weak a8H fun σ H Q h0=>tOe h0 fun P O L ρ o ρ' r e q=>by cases e;exact q H r⟩
theorem Z7 (ha:QX X e f):QO X (some e) (fO1 f):=⟨PO.weak (a8Z ha.to) fun σ H Q h0=>tOe h0 fun P O L ρ o ρ' r e q=>by
 unfold fO1 at e;obtain⟨⟨w,ρ1⟩,e1,e⟩:=obs e;dsimp only at e;split at e
 ·rename_i i;cases e;refine⟨P,O,L,ρ,_,_,r,e1,fun v H1 H' r1 s1 d1=>⟨i,?_,q H' (r1.grow s1)⟩⟩;have d1:Den X.K (AvO O ρ' σ) H' (.int i) v:=d1;exact v6.mp d1
 ·cases e⟩
def cutD (xs:List D) (lo hi:Option Int):List D:=(xs.drop (HT.sIx xs.length 0 lo)).take (HT.sIx xs.length xs.length hi-HT.sIx xs.length 0 lo)
theorem a3j {K:PySem.W.Frag}{A:Av}{H:Hp}{xs:List D}{vs:List V}(lo hi:Option Int)(l:DenL K A H xs vs):DenL K A H (cutD xs lo hi) (cutV vs lo hi):=by
 unfold cutD cutV;rw[b8 l];exact a1l _ (a1A _ l)
def slD (x:D) (lo hi:Option Int):Option W:=match x with
 | .tup xs=>some (.v (.tup (cutD xs lo hi)))
 | .lst xs=>some (.o (.lst (cutD xs lo hi)))
 | _=>none
def fSl (f:FX) (lo hi:FO):FX:=fun ρ=>(f ρ).bind fun p=>(lo p.2).bind fun l=>(hi l.2).bind fun u=>(dr u.2 p.1.fz).bind fun x=>(slD x l.1 u.1).map fun w=>(w,u.2)
theorem U2 {lo hi:Option Expr}{fl fu:FO}{p2:Pos}(ha:QX X a f)(hl:QO X lo fl)(hu:QO X hi fu):QX X (.Subscript a (.Slice lo hi none p2) pos) (fSl f fl fu):=⟨PE.weak (a6T ((a8T.or b1t).or a9o) ha.to hl.to hu.to) fun σ H Q h0=>tXe h0 fun P O L ρ w ρ' r e q=>by
 unfold fSl at e;obtain⟨⟨w1,ρ1⟩,e1,e⟩:=obs e;dsimp only at e;obtain⟨⟨l,ρ2⟩,e2,e⟩:=obs e;dsimp only at e;obtain⟨⟨u,ρ3⟩,e3,e⟩:=obs e;dsimp only at e;refine⟨P,O,L,ρ,w1,ρ1,r,e1,fun v H1 H1' r1 s1 d1=>?_⟩;obtain⟨P',r1',k1⟩:=hold (r1.grow s1) (d1.fz r1 s1);refine⟨P',O,L,ρ1,l,ρ2,r1',e2,fun H2 r2=>⟨P',O,L,ρ2,u,ρ3,r2,e3,fun H3 r3=>?_⟩⟩;obtain⟨r4,d4⟩:=k1 ρ3 H3 r3;cases e4:dr ρ3 w1.fz with
 | none=>rw[e4] at e;cases e
 | some x=>
  rw[e4] at e;simp only[bind_some] at e;have dx:=w9 r4 e4 d4;cases x with
  | tup xs=>
   cases e;obtain⟨a,vs,ev,hq,la⟩:=z0 dx
   by_cases hn:HT.sIx xs.length 0 l=0/\HT.sIx xs.length xs.length u=xs.length
   ·refine .inr ⟨a,vs,ev,hq,by rw[<-b8 la];exact hn,q _ H3 H3 r4 (Same.refl _) ?_⟩
    have ec:cutD xs l u=xs:=by
     unfold cutD;rw[hn.1,hn.2,List.drop_zero,Nat.sub_zero,take_length]
    rw[ec,<-ev];exact dx
   ·exact .inl (.inr ⟨a,vs,ev,hq,by rw[<-b8 la];exact hn,fun p hp=>q _ H3 _ r4 (j4 hp _) (F0 hp (a3j l u la))⟩)
  | lst xs=>
   cases e;obtain⟨a,vs,ev,hq,la⟩:=dx;exact .inl (.inl ⟨a,vs,ev,hq,fun p hp=>q _ H3 _ r4 (j4 hp _) (F6 hp (a3j l u la))⟩)
  | _=>cases e⟩
end
section
variable {X:Cx}{a b e o:Expr}{es:List Expr}{pos p apos:Pos}{f h:FX}{fa:FA}{x:Str}
theorem K0 (i:Nat){pos':Pos}(hN:X.N.Nodup)(ha:QXU X e f)(hi:X.N[i]? =some x:=by rfl)(hx:Loc X.env.scope x:=by first|exact Or.inl rfl|exact Or.inr rfl)(hs:swapsWith e (some (.Name x pos')) pos.line X.env=pure true:=by rfl)(hf:X.fn x=true\/X.env.scope.names.lookup x=some .local:=by first|exact .inl rfl|exact .inr rfl):
  QS X (.Assign [.Name x pos'] e pos) (fAsg i f):=⟨fun pins s σ H E I h0=>tSe h0 fun P O L ρ r rp e0 q=>by
 unfold fAsg at e0;obtain⟨⟨w,ρ1⟩,e1,e0⟩:=obs e0;dsimp only at e0;obtain⟨ρ2,e2,e0⟩:=oms e0;cases e0;rw[exec_Assign_Name_used _ _ _ _ hs];refine zA (wpAny_standAt (zA (zR (ha.to pins s σ H (fun v H'=>∃H1,Rep X P O L ρ1 σ H1/\Same H1 H'/\DenW X.K (AvO O ρ1 σ) σ H1 H' w v) (assign (.Name x pos') X.env) (fun s'=>SP X pins E .next s') I ⟨P,O,L,ρ,w,ρ1,rp,e1,fun v H1 H' r1 s1 d1=>⟨H1,r1,s1,d1⟩⟩ ?_) (fun _ s' h=>zB h) fun _ _ z=>z)));intro C m s' H' v vv fp hn I' rv ⟨H1,r1,sm,dv⟩;obtain⟨o,es,ep,ho,hd,hk⟩:=hn;obtain⟨f0,f1,f2,f3,f4,f5⟩:=fp;have I2:Inv X (pins++[(C,o)]) σ H' s':=I'.pins_of fun p hp=>(jA.mp hp).elim (fun z=>I'.pin p (qE _ z)) fun z=>by
  rw[zN.mp z];exact⟨ho,f0,f1,f2,fun w z=>by rw[hd] at z;cases z⟩
 refine zR (a4w hN hi hx hf (pins++[(C,o)]) s' σ H' v vv (fun σ2 H2=>σ2=σ.set i (some v)/\H2=H') I2 rv ⟨rfl,rfl⟩) (fun _ s2 ⟨σ2,H2,I3,e2',e3⟩=>?_) fun _ _ z=>z;subst e2' e3;have pc:=I3.pin (C,o) (qE _ (qE _ (zN.mpr rfl)));refine⟨m,⟨o,es,ep,pc.1,hd,hk⟩,fun h' hs'=>?_⟩
 exact⟨_,_,(I3.unpinned).turned (t':=s2.toks) (it:=C) (fun b o' hb eb=>(hs'.2 b hb).trans eb) f0 f1 f3 f4 f5,q _ _ (a4x r1 sm dv e2)⟩⟩
def isLst:Option D->Bool
 | some (.lst _)=>true
 | _=>false
def fMut (op:List D->List D->Option (W×List D)) (f:FX) (fa:FA):FX:=fun ρ=>(f ρ).bind fun p=>match p.1 with
 | .r i=>if isLst (ownAt p.2 i)=true then(fa p.2).bind fun q=>(takeAll q.2 q.1).bind fun z=>match ownAt z.2 i with
  | some (.lst xs)=>(op xs z.1).map fun y=>(y.1,setOwn z.2 i (.lst y.2))
  | _=>none
  else none
 | _=>none
def PrM (X:Cx) (op:List D->List D->Option (W×List D)) (r:V->List V->Hp->VK->Prop):Prop:=∀(A:Av) (a:Addr) (xs ds:List D) (w:W) (ys:List D) (us vs:List V) (H:Hp) (Q:VK),H a=some (.lst us)->DenL X.K A H xs us->DenL X.K A H ds vs->op xs ds=some (w,ys)->
 (∀z ws,DenL X.K A H ys ws->DenW X.K A [] H H w z->Q z (upd H a (.lst ws)))->(w= .v .non\/∃d,w= .v d)->r (.ref a) vs H Q
theorem a3d {op:List D->List D->Option (W×List D)}{r:V->List V->Hp->VK->Prop}(hk:PrM X op r)(hw:∀xs ds w ys,op xs ds=some (w,ys)->∃d,w= .v d):∀σ H Q,tX X (fMut op f fa) σ H Q->tBM X.K "list" r (tX X f) (tA X fa) σ H Q:=fun σ H Q h0=>tXe h0 fun P O L ρ w ρ' rp e q=>by
 unfold fMut at e;obtain⟨⟨w1,ρ1⟩,e1,e⟩:=obs e;dsimp only at e;split at e
 ·rename_i i;split at e
  ·rename_i hl;refine⟨P,O,L,ρ,_,ρ1,rp,e1,fun v H1 H1' r1 s1 d1=>?_⟩;have d1:σ[i]? =some (some v):=d1;have r1':=r1.grow s1;refine⟨?_,?_⟩
   ·unfold isLst at hl;split at hl
    ·rename_i xs e2;obtain⟨w0,q0,ow⟩:=m9 e2;obtain⟨a,h1,vs,h2,_⟩:=r1'.obj q0 ow;rw[d1] at h1;cases h1;exact .inl ⟨rfl,vs,.inl (.inl h2)⟩
    ·cases hl
   ·obtain⟨⟨ws,ρ2⟩,e3,e⟩:=obs e;dsimp only at e;obtain⟨⟨ds,ρ3⟩,e4,e⟩:=obs e;dsimp only at e;split at e
    ·rename_i xs e5;obtain⟨⟨wy,ys⟩,e6,e⟩:=oms e;cases e;refine⟨P,O,L,ρ1,ws,ρ2,r1',e3,fun vs H2 r2 l2=>?_⟩;obtain⟨r3,l3,_⟩:=k8 r2 e4 l2;obtain⟨w0,q0,ow⟩:=m9 e5;obtain⟨a,h1,us,h2,l⟩:=r3.obj q0 ow;rw[d1] at h1;cases h1;refine hk _ a xs ds _ ys us vs H2 Q h2 l l3 e6 (fun z wz lz dz=>?_) (.inr (hw _ _ _ _ e6));have g0:Go (AvO O ρ3 σ) (AvO O ρ3 σ) (fun b=>b=a) H2 (upd H2 a (.lst wz)):=⟨fun b o eb nb=>by rw[c7 nb];exact eb,fun b z=>by rw[z];exact⟨.inr ⟨i,w0,_,q0,ow,d1⟩,_,h2,trivial⟩,fun b z=>.inl z⟩
     have r4:Rep X P O L (setOwn ρ3 i (.lst ys)) σ (upd H2 a (.lst wz)):=r3.mut (d:=.lst ys) e5 d1 (fun b o eb nb=>by rw[c7 nb];exact eb) ⟨wz,j9,n6 g0 _ _ lz⟩
     refine q z _ _ r4 (Same.refl _) ?_;obtain⟨d,rfl⟩:=hw _ _ _ _ e6;have av:∀b,AvO O (setOwn ρ3 i (.lst ys)) σ b->AvO O ρ3 σ b:=fun b z=>z.imp id fun z=>(N7 e5 b).mp z;exact l7 (p7 av) _ _ (l7 g0 _ _ dz)
    ·cases e
  ·cases e
 ·cases e
def mApp (xs ds:List D):Option (W×List D):=match ds with
 | [d]=>if xs.length<lim then some (.v .non,xs++[d]) else none
 | _=>none
theorem a5Q:PrM X mApp rAppend:=fun A a xs ds w ys us vs H Q h l l' e q _=>by
 unfold mApp at e;split at e
 ·split at e
  ·rename_i d hl;cases e;obtain⟨v,rfl,hv⟩:=denL1 l';exact⟨a,us,v,rfl,rfl,h,by rw[<-b8 l];exact zI hl t6,q _ _ (p5 l (g7 hv j3)) U4⟩
  ·cases e
 ·cases e
theorem b1L:∀xs ds w ys,mApp xs ds=some (w,ys)->∃d,w= .v d:=fun xs ds w ys e=>by
 unfold mApp at e;split at e
 ·split at e
  ·cases e;exact⟨_,rfl⟩
  ·cases e
 ·cases e
theorem V9 (ho:QX X o f)(ha:QA X (e::es) fa)(hbase:attributeBase o "append" X.env (eval o X.env)=eval o X.env:=by rfl)
  (hfew:((backTo pos (starEach (e::es) X.env)).all (fun x=>!x.1)&&(backToKw pos (keywordEach [] X.env)).all (fun x=>x.1.isSome)&&decide ((e::es).length+([]:List Keyword).length+(if([]:List Keyword).isEmpty then 0 else 1)<30))=true:=by rfl)
  (hline:(apos.endLine==pos.line)=true:=by rfl) (hs:starEach (e::es) X.env=(false,eval e X.env)::starEach es X.env:=by rfl) (hpl:(backTo pos (starEach es X.env)).any (·.1)=false:=by rfl):QX X (.Call (.Attribute o "append" apos) (e::es) [] pos) (fMut mApp f fa):=
 ⟨PE.weak (a6D PySem.F.plainAttrs_list PySem.F.slot_list_append PySem.F.type_list_append a1c ho.to ha.to hbase hfew hline hs hpl) (a3d a5Q b1L)⟩
end
section
variable {P:Program}{w:World}{K:PySem.W.Frag}{mg:Str->Option Value}{base:Heap}
def spLaw (K:PySem.W.Frag):Sp:=fun vs H Q _=>∃(a:Addr) (ns:List Int),vs=[.ref a]/\((∃o,H a=some (.frz o (.lst (ns.map V.int))))\/SqL K (fun _=>none) a (ns.map V.int))/\ns.length<=63/\∀H',Q (.bl true) H'
theorem b1M {st:Stmt}{f:Addr}{fd:FuncData}{N ps:List Str}{k np n:Nat}{G:FS}(F:Fun K "law" "law" st f fd)(S:FnScope N ps (defScope st))(hp:ps.length=np)(hn:N.length=n)
  (body:∀(cdv:Value) (A:Around) (outer:List Env) (s:Shared) (H:Hp) (E:XK),Room k (A.deeper (envOfC "law" (defScope st) s.heap.objs.size f cdv))->
   QSs (cxOf CX0 P w K mg base N "law" (defScope st) f cdv A outer s H E).nox (defBody st) G)
  (h:∀ns:List Int,ns.length<=63->runD np n G [.lst (ns.map D.int)]=some (.v (.bl true))):FnOk P w K mg base CX0 (k+1) f fd ps (spLaw K):=by
 have den:∀(H:Hp) (a:Addr) (ns:List Int),((∃o,H a=some (.frz o (.lst (ns.map V.int))))\/SqL K (fun _=>none) a (ns.map V.int))->DenL K (fun _=>False) H [.lst (ns.map D.int)] [.ref a]:=fun H a ns hq=>by
  refine g7 ?_ j3;rw[Den];exact⟨a,_,rfl,.inr hq,B7 ns⟩
 refine F.ok S (fun vs H Q E ⟨a,ns,ev,hq,hl,q⟩=>?_) (fun cdv A outer s H vs Q E hr ⟨a,ns,ev,hq,hl,q⟩=>⟨_,(body cdv A outer s H E hr).to,?_⟩)
 ·have e:=h ns hl;unfold runD at e;split at e
  ·rename_i hl';rw[ev,hp,<-hl'];rfl
  ·cases e
 ·have e:=h ns hl;unfold runD at e;split at e
  ·rename_i hl';cases e1:G (start0 n [.lst (ns.map D.int)]) with
   | none=>rw[e1] at e;cases e
   | some r=>
    rw[e1] at e;refine⟨[],fun _=>False,[],_,r,a1D rfl hn (fun b z=>z.elim) (by rw[ev];exact den H a ns hq),e1,?_⟩
    cases r with
    | rt d' ρ'=>cases e;exact fun v H' s' _ d1=>by rw[P3 d1];exact q H'
    | nx ρ'=>cases e
    | bk ρ'=>cases e
    | ct ρ'=>cases e
  ·cases e
theorem walk {l:PySem.W.OpenLaw}{q:Program}{loose:List Str}{XP:(Str->Option Value)->Heap->Prop}{YP:World->Heap->Prop}{d:DefRec}{K:Params->PySem.W.Frag}(hn:l.most=some 63)(hdf:d.params.defaults=[])
  (hY:∀(w:World) (h:Heap),YP w h->(K w.params).In h)
  (F:∀(w:World) (mg:Str->Option Value) (fa:Addr) (h:Heap),(K w.params).In h->h.Ns mainGlobals mg->mg d.name=some (.ref fa)->
   ∃fd:FuncData,(∀(s:Shared) (u:Value),BindsTo s fd ⟨[u],[]⟩ [("script",u)])/\∀base:Heap,(K w.params).In base->base.Ns mainGlobals mg->FnOk l.prog w (K w.params) mg base CX0 60 fa fd ["script"] (spLaw (K w.params))):
  PySem.W.WalkO q loose XP YP l.row.toRowW d [] (fun f vs=>PySem.call f vs):=
 L2.a82 (n:=63) (k:=60) (x:="script") (CX:=fun _=>CX0) (sp:=fun w=>spLaw (K w.params)) hn (by decide) hdf ⟨rfl,by decide,by decide,rfl⟩ hY F (fun _ H a ns hl hO hS=>⟨a,ns,rfl,(by
  rcases hS with (hS|⟨o,hS⟩)|hS
  ·rcases hO a with z|⟨o,ys,z⟩
   ·rw[z] at hS;cases hS
   ·rw[z] at hS;cases hS
  ·exact .inl ⟨o,hS⟩
  ·exact .inr (.inr hS)),hl,fun _=>rfl⟩) fun _ _ _ _ _ z=>z
end
end Z
set_option maxHeartbeats 1000000
set_option exponentiation.threshold 100000
namespace Z
open PySem L2
theorem b0n {d:D}:lfW (.v d)=lf d:=rfl
theorem a93 {d:D}:lfW (.o d)=lfC d:=rfl
theorem a4u {xs:List D}:lfC (.lst xs)=lfL xs:=rfl
theorem a8r {ks:List (List Key)}{xs:List D}:lfC (.dT ks xs)=lfL xs:=rfl
theorem lfC_dK {ks:List Key}{xs:List D}:lfC (.dK ks xs)=lfL xs:=rfl
def freeO:Option W->Bool
 | some (.l _)=>false
 | _=>true
theorem a0n:freeO none=true:=rfl
theorem a4i {d:D}:freeO (some (.v d))=true:=rfl
theorem freeO_o {d:D}:freeO (some (.o d))=true:=rfl
theorem freeO_l {d:D}:freeO (some (.l d))=false:=rfl
theorem free_nil {n:Nat}:freeSlot [] n=true:=rfl
theorem a7T {x:Option W}{ρ:Ev}:freeSlot (x::ρ) 0=freeO x:=by
 unfold freeSlot freeO;rw[xS];cases x with
 | none=>rfl
 | some w=>cases w<;>rfl
theorem a8c {x:Option W}{ρ:Ev}{n:Nat}:freeSlot (x::ρ) (n+1)=freeSlot ρ n:=by
 unfold freeSlot;rw[qY]
theorem a1o {xs:List D}:isLst (some (.lst xs))=true:=rfl
theorem liB_none {ρ:Ev}:liB none ρ=true:=rfl
theorem liB_some {i j:Nat}{ρ:Ev}:liB (some (i,j)) ρ=(ownAt ρ j).isSome:=rfl
theorem own_nil {n:Nat}:ownAt [] n=none:=rfl
theorem b0Q {w:W}{ρ:Ev}:ownAt (some w::ρ) 0=w.own:=rfl
theorem own_n {ρ:Ev}:ownAt (none::ρ) 0=none:=rfl
theorem b0i {x:Option W}{ρ:Ev}{n:Nat}:ownAt (x::ρ) (n+1)=ownAt ρ n:=by
 unfold ownAt;rw[qY]
theorem a6p {c d:D}{ρ:Ev}:setOwn (some (.l c)::ρ) 0 d=some (.l d)::ρ:=rfl
theorem a7o {c d:D}{ρ:Ev}:setOwn (some (.o c)::ρ) 0 d=some (.o d)::ρ:=rfl
theorem a7R {x:Option W}{ρ:Ev}{n:Nat}{d:D}:setOwn (x::ρ) (n+1) d=x::setOwn ρ n d:=by
 unfold setOwn;rw[qY]
 split<;>rename_i h<;>simp[h]
theorem frz_nil {n:Nat}:frzAt [] n=none:=rfl
theorem b0N {d:D}{ρ:Ev}:frzAt (some (.o d)::ρ) 0=some (some (.v d)::ρ):=rfl
theorem frz_v {d:D}{ρ:Ev}:frzAt (some (.v d)::ρ) 0=some (some (.v d)::ρ):=rfl
theorem a9T {x:Option W}{ρ:Ev}{n:Nat}:frzAt (x::ρ) (n+1)=(frzAt ρ n).map fun ρ'=>x::ρ':=by
 unfold frzAt;rw[qY]
 split<;>rename_i h<;>simp[h]
theorem a1G {b:D->FS}(I:List D->Ev->Prop):∀(xs done:List D) (ρ:Ev),I done ρ->(∀d x ρ,x∈xs->I d ρ->∃ρ',(b x ρ=some (.nx ρ')\/b x ρ=some (.ct ρ'))/\I (d++[x]) ρ')->∃ρ',loopF b xs ρ=some (.nx ρ')/\I (done++xs) ρ'
 | [],done,ρ,h,_=>⟨ρ,rfl,by rw[jP];exact h⟩
 | x::xs,done,ρ,h,st=>by
  obtain⟨ρ1,e1,i1⟩:=st done x ρ zG h;obtain⟨ρ2,e2,i2⟩:=a1G I xs (done++[x]) ρ1 i1 fun d y ρ hy=>st d y ρ (zJ _ hy);refine⟨ρ2,?_,by rw[yH] at i2;exact i2⟩
  rw[loopF];rcases e1 with e1|e1<;>rw[e1]<;>exact e2
abbrev acc (zs:List D):Ev:=[some (.l (.lst zs))]
theorem a6F {B:Ev}{zs:List D}{k:Nat}(h:B.length=k):ownAt (B++acc zs) k=some (.lst zs):=by
 unfold ownAt;rw[qG (by walk_at "o"),h,jU];rfl
theorem a83 {B:Ev}{zs ys:List D}{k:Nat}(h:B.length=k):setOwn (B++acc zs) k (.lst ys)=B++acc ys:=by
 unfold setOwn;have e:(B++acc zs)[k]? =some (some (.l (.lst zs))):=by rw[qG (by walk_at "o"),h,jU];rfl
 rw[e];simp only;rw[List.set_append_right _ _ (by walk_at "o"),h,jU];rfl
theorem app_v {B:Ev}{zs:List D}{k:Nat}{w:W}{d:D}(h:B.length=k)(hw:w= .v d\/w= .o d)(hl:zs.length<lim):appTo k (w,B++acc zs)=some (B++acc (zs++[d])):=by
 unfold appTo;have e:w.fz= .v d:=by rcases hw with rfl|rfl<;>rfl
 simp only[e,takeAll,jH,bind_some];rw[a6F h];simp only[if_pos hl,a83 h]
theorem X6 {k:Nat}{gf:FG}{t:FT}{fe:FX}(I:Ev->Prop)(p:D->Bool)(h:D->D)(hI:∀B,I B->B.length=k):∀(xs:List D),(∀x∈xs,∀B zs,I B->∃B' w,I B'/\gf x (B++acc zs)=some (B'++acc zs)/\t (B'++acc zs)=some (p x,B'++acc zs)/\(p x=true->fe (B'++acc zs)=some (w,B'++acc zs)/\(w= .v (h x)\/w= .o (h x))))->
  ∀(B:Ev) (zs:List D),zs.length+xs.length<=lim->I B->∃B',I B'/\loopC (turnC k gf t fe) xs (B++acc zs)=some (B'++acc (zs++(xs.filter p).map h))
 | [],st,B,zs,hl,i=>⟨B,i,by simp[loopC]⟩
 | x::xs,st,B,zs,hl,i=>by
  obtain⟨B1,w,i1,e1,e2,e3⟩:=st x zG B zs i;rw[qC] at hl;cases hp:p x with
  | true=>
   obtain⟨e4,hw⟩:=e3 hp;obtain⟨B2,i2,e5⟩:=X6 I p h hI xs (fun y hy=>st y (zJ _ hy)) B1 (zs++[h x]) (by rw[qB,xM];walk_at "o") i1
   refine⟨B2,i2,?_⟩;rw[loopC,turnC,e1];have ea:=app_v (zs:=zs) (hI B1 i1) hw (by walk_at "o")
   simp only[bind_some,e2,hp,jF,e4,ea];rw[e5,List.filter_cons_of_pos hp,zH,yH];rfl
  | false=>
   obtain⟨B2,i2,e5⟩:=X6 I p h hI xs (fun y hy=>st y (zJ _ hy)) B1 zs (by walk_at "o") i1
   refine⟨B2,i2,?_⟩;rw[loopC,turnC,e1];simp only[bind_some,e2,hp,jJ,xH];rw[e5,List.filter_cons_of_neg (by rw[hp];exact zT)]
theorem l5 {fi:FI}{js:List (Option Nat)}{gf:FG}{t:FT}{fe:FX}{ρ ρ1:Ev}{xs:List D}(I:Ev->Prop)(p:D->Bool)(h:D->D)(ei:fi ρ=some (xs,ρ1))(hI:∀B,I B->B.length=js.length)(h0:I (capE none js ρ1))(hl:xs.length<=lim)(hf:lfL ((xs.filter p).map h)=true)
  (st:∀x∈xs,∀B zs,I B->∃B' w,I B'/\gf x (B++acc zs)=some (B'++acc zs)/\t (B'++acc zs)=some (p x,B'++acc zs)/\(p x=true->fe (B'++acc zs)=some (w,B'++acc zs)/\(w= .v (h x)\/w= .o (h x)))):
  fComp fi none js gf t fe ρ=some (.o (.lst ((xs.filter p).map h)),ρ1):=by
 obtain⟨B',i',e⟩:=X6 I p h hI xs st (capE none js ρ1) [] (by rw[xX];walk_at "o") h0
 unfold fComp;rw[ei];simp only[bind_some,liB,jF,Option.map_none];rw[show capE none js ρ1++[some (.l (.lst []))]=capE none js ρ1++acc [] from rfl,e];simp only[bind_some,nil_append,a6F (hI B' i'),backG,lfC,hf,jF]
theorem q8 {α:Type}(xs:List α):xs.filter (fun _=>true)=xs:=by induction xs with
 | nil=>rfl
 | cons x xs ih=>rw[List.filter_cons_of_pos rfl,ih]
def Sz (n:Nat) (q:Rat):Prop:=q.num.natAbs<2^n/\q.den<2^n
theorem Sz.mono {m n:Nat}{q:Rat}(h:Sz m q)(hm:m<=n):Sz n q:=⟨zI h.1 (jE (by decide) hm),zI h.2 (jE (by decide) hm)⟩
section
variable {ρ ρ1 ρ2:Ev}{op:D->D->Option W}{o:D->Option W}{f g h:FX}{t u:FT}{fa:FA}{F G:FS}{i j:Nat}{d e x y:D}{w z:W}{ws:List W}{ds xs ys:List D}{r:R}{k b:Bool}
def varO (i:Nat) (ρ:Ev):Option (Option W)->Option (W×Ev)
 | some (some (.v d))=>some (.v d,ρ)
 | some (some (.r _))=>none
 | some (some _)=>some (.r i,ρ)
 | _=>none
theorem a9Z:fVar i ρ=varO i ρ ρ[i]?:=by unfold fVar varO;split<;>simp_all
theorem a4S:varO i ρ (some (some (.v d)))=some (.v d,ρ):=rfl
theorem a45:varO i ρ (some (some (.o d)))=some (.r i,ρ):=rfl
theorem a4q:varO i ρ (some (some (.l d)))=some (.r i,ρ):=rfl
theorem r_c:fC d ρ=some (.v d,ρ):=rfl
def drO:Option (Option W)->Option D
 | some (some (.v d))=>some d
 | some (some w)=>w.own
 | _=>none
theorem a69:dr ρ (.v d)=some d:=rfl
theorem a6G:dr ρ (.r i)=drO ρ[i]?:=by unfold dr drO;rfl
theorem r_drO_v:drO (some (some (.v d)))=some d:=rfl
theorem a4I:drO (some (some (.o d)))=some d:=rfl
theorem a5f:drO (some (some (.l d)))=some d:=rfl
theorem a62:(W.v d).fz= .v d:=rfl
theorem a6o:(W.o d).fz= .v d:=rfl
theorem a8d:(W.r i).fz= .r i:=rfl
def drsC (ρ:Ev) (ws:List W):Option D->Option (List D)
 | some d=>(drs ρ ws).map fun ds=>d::ds
 | none=>none
theorem a47:drs ρ []=some []:=rfl
theorem a4X:drs ρ (w::ws)=drsC ρ ws (dr ρ w):=by rw[drs];unfold drsC;cases dr ρ w<;>rfl
theorem a7F:drsC ρ ws (some d)=(drs ρ ws).map fun ds=>d::ds:=rfl
def bin2 (op:D->D->Option W) (g:FX):Option (W×Ev)->Option (W×Ev)
 | some p=>(g p.2).bind fun q=>(dr q.2 p.1.fz).bind fun x=>(dr q.2 q.1.fz).bind fun y=>(op x y).map fun w=>(w,q.2)
 | none=>none
def bin3 (op:D->D->Option W) (w:W):Option (W×Ev)->Option (W×Ev)
 | some q=>(dr q.2 w.fz).bind fun x=>(dr q.2 q.1.fz).bind fun y=>(op x y).map fun w=>(w,q.2)
 | none=>none
def bin4 (op:D->D->Option W) (ρ:Ev):Option D->Option D->Option (W×Ev)
 | some x,some y=>(op x y).map fun w=>(w,ρ)
 | _,_=>none
def withE (ρ:Ev):Option W->Option (W×Ev)
 | some w=>some (w,ρ)
 | none=>none
theorem b0k:fBin op f g ρ=bin2 op g (f ρ):=by unfold fBin bin2;cases f ρ<;>rfl
theorem a7g:bin2 op g (some (w,ρ))=bin3 op w (g ρ):=by unfold bin2 bin3;dsimp only;cases g ρ<;>rfl
theorem a7w:bin3 op w (some (z,ρ))=bin4 op ρ (dr ρ w.fz) (dr ρ z.fz):=by unfold bin3 bin4;dsimp only;cases dr ρ w.fz<;>cases dr ρ z.fz<;>rfl
theorem a6M:bin4 op ρ (some x) (some y)=withE ρ (op x y):=by unfold bin4 withE;dsimp only;cases op x y<;>rfl
theorem a8m:withE ρ (some w)=some (w,ρ):=rfl
def un2 (o:D->Option W):Option (W×Ev)->Option (W×Ev)
 | some p=>(dr p.2 p.1.fz).bind fun x=>(o x).map fun w=>(w,p.2)
 | none=>none
def un3 (o:D->Option W) (ρ:Ev):Option D->Option (W×Ev)
 | some x=>withE ρ (o x)
 | none=>none
theorem r_un:fUn o f ρ=un2 o (f ρ):=by unfold fUn un2;cases f ρ<;>rfl
theorem b0q:un2 o (some (w,ρ))=un3 o ρ (dr ρ w.fz):=by unfold un2 un3 withE;dsimp only;cases dr ρ w.fz with
 | none=>rfl
 | some x=>simp only[bind_some];cases o x<;>rfl
theorem b0l:un3 o ρ (some x)=withE ρ (o x):=rfl
def tstO:Option (W×Ev)->Option (Bool×Ev)
 | some (.v (.bl k),ρ)=>some (k,ρ)
 | _=>none
theorem a0u:fTest f ρ=tstO (f ρ):=by
 unfold fTest tstO;cases f ρ with
 | none=>rfl
 | some p=>
  obtain⟨w,ρ⟩:=p;cases w with
  | v d=>cases d<;>rfl
  | _=>rfl
theorem a7J:tstO (some (.v (.bl k),ρ))=some (k,ρ):=rfl
def tru2:Option (W×Ev)->Option (Bool×Ev)
 | some p=>(dr p.2 p.1.fz).bind fun d=>(truth d).map fun k=>(k,p.2)
 | none=>none
def tru3 (ρ:Ev):Option D->Option (Bool×Ev)
 | some d=>(truth d).map fun k=>(k,ρ)
 | none=>none
theorem a8w:fTru f ρ=tru2 (f ρ):=by unfold fTru tru2;cases f ρ<;>rfl
theorem a8n:tru2 (some (w,ρ))=tru3 ρ (dr ρ w.fz):=by unfold tru2 tru3;dsimp only;cases dr ρ w.fz<;>rfl
theorem a3o:tru3 ρ (some (.bl k))=some (k,ρ):=rfl
theorem b13:tru3 ρ (some (.tup xs))=some (!xs.isEmpty,ρ):=rfl
theorem a1W:tru3 ρ (some (.lst xs))=some (!xs.isEmpty,ρ):=rfl
theorem b14:tru3 ρ (some .non)=some (false,ρ):=rfl
def notO:Option (Bool×Ev)->Option (Bool×Ev)
 | some p=>some (!p.1,p.2)
 | none=>none
theorem b0B:fNot t ρ=notO (t ρ):=by unfold fNot notO;cases t ρ<;>rfl
theorem a74:notO (some (k,ρ))=some (!k,ρ):=rfl
def andO (u:FT):Option (Bool×Ev)->Option (Bool×Ev)
 | some (true,ρ)=>u ρ
 | some (false,ρ)=>some (false,ρ)
 | none=>none
def orO (u:FT):Option (Bool×Ev)->Option (Bool×Ev)
 | some (true,ρ)=>some (true,ρ)
 | some (false,ρ)=>u ρ
 | none=>none
theorem b0A:fAnd t u ρ=andO u (t ρ):=by unfold fAnd andO;cases t ρ with
 | none=>rfl
 | some p=>obtain⟨k,ρ⟩:=p;cases k<;>rfl
theorem r_or:fOr t u ρ=orO u (t ρ):=by unfold fOr orO;cases t ρ with
 | none=>rfl
 | some p=>obtain⟨k,ρ⟩:=p;cases k<;>rfl
theorem a4N:andO u (some (true,ρ))=u ρ:=id rfl
theorem a4l:andO u (some (false,ρ))=some (false,ρ):=rfl
theorem r_or_t:orO u (some (true,ρ))=some (true,ρ):=rfl
theorem a6r:orO u (some (false,ρ))=u ρ:=id rfl
def andV (g:FX):Option (Bool×Ev)->Option (W×Ev)
 | some (true,ρ)=>g ρ
 | some (false,ρ)=>some (.v (.bl false),ρ)
 | none=>none
def orV (g:FX):Option (Bool×Ev)->Option (W×Ev)
 | some (true,ρ)=>some (.v (.bl true),ρ)
 | some (false,ρ)=>g ρ
 | none=>none
def notV:Option (Bool×Ev)->Option (W×Ev)
 | some (k,ρ)=>some (.v (.bl (!k)),ρ)
 | none=>none
def ifV (f g:FX):Option (Bool×Ev)->Option (W×Ev)
 | some (true,ρ)=>f ρ
 | some (false,ρ)=>g ρ
 | none=>none
theorem a8z:fAndV f g ρ=andV g (tstO (f ρ)):=by unfold fAndV andV;rw[a0u];cases tstO (f ρ) with
 | none=>rfl
 | some p=>obtain⟨k,ρ⟩:=p;cases k<;>rfl
theorem r_orV:fOrV f g ρ=orV g (tstO (f ρ)):=by unfold fOrV orV;rw[a0u];cases tstO (f ρ) with
 | none=>rfl
 | some p=>obtain⟨k,ρ⟩:=p;cases k<;>rfl
theorem r_notV:fNotV f ρ=notV (tstO (f ρ)):=by unfold fNotV notV;rw[a0u];cases tstO (f ρ)<;>rfl
theorem r_if:fIf t f g ρ=ifV f g (t ρ):=by unfold fIf ifV;cases t ρ with
 | none=>rfl
 | some p=>obtain⟨k,ρ⟩:=p;cases k<;>rfl
theorem a24:andV g (some (true,ρ))=g ρ:=id rfl
theorem a3g:andV g (some (false,ρ))=some (.v (.bl false),ρ):=rfl
theorem r_orV_t:orV g (some (true,ρ))=some (.v (.bl true),ρ):=rfl
theorem r_orV_f:orV g (some (false,ρ))=g ρ:=id rfl
theorem r_notV_s:notV (some (k,ρ))=some (.v (.bl (!k)),ρ):=rfl
theorem r_if_t:ifV f g (some (true,ρ))=f ρ:=id rfl
theorem r_if_f:ifV f g (some (false,ρ))=g ρ:=id rfl
def cons2 (fa:FA):Option (W×Ev)->Option (List W×Ev)
 | some p=>(fa p.2).map fun q=>(p.1.fz::q.1,q.2)
 | none=>none
def cons3 (w:W):Option (List W×Ev)->Option (List W×Ev)
 | some q=>some (w::q.1,q.2)
 | none=>none
theorem b0P:fNil ρ=some ([],ρ):=rfl
theorem a7k:fCons f fa ρ=cons2 fa (f ρ):=by unfold fCons cons2;cases f ρ<;>rfl
theorem a4H:cons2 fa (some (w,ρ))=cons3 w.fz (fa ρ):=by unfold cons2 cons3;dsimp only;cases fa ρ<;>rfl
theorem a5n:cons3 w (some (ws,ρ))=some (w::ws,ρ):=rfl
def takC (d:D):Option (List D×Ev)->Option (List D×Ev)
 | some p=>some (d::p.1,p.2)
 | none=>none
def takR (i:Nat) (ws:List W):Option Ev->Option (List D×Ev)
 | some ρ1=>match ρ1[i]? with
  | some (some (.v d))=>(takeAll ρ1 ws).map fun p=>(d::p.1,p.2)
  | _=>none
 | none=>none
def takS (ρ:Ev) (ws:List W):Option (Option W)->Option (List D×Ev)
 | some (some (.v d))=>takC d (takeAll ρ ws)
 | _=>none
theorem a5c:takeAll ρ []=some ([],ρ):=rfl
theorem a5p:takeAll ρ (.v d::ws)=takC d (takeAll ρ ws):=by rw[takeAll];unfold takC;cases takeAll ρ ws<;>rfl
theorem a5l:takeAll ρ (.r i::ws)=takR i ws (frzAt ρ i):=by rw[takeAll];unfold takR;cases frzAt ρ i<;>rfl
theorem a7H:takC d (some (ds,ρ))=some (d::ds,ρ):=rfl
theorem a79:takR i ws (some ρ)=takS ρ ws ρ[i]?:=by
 unfold takR takS;dsimp only
 split
 ·unfold takC;cases takeAll ρ ws<;>rfl
 ·rfl
theorem a7u:takS ρ ws (some (some (.v d)))=takC d (takeAll ρ ws):=rfl
def disp2 (mk:List D->W):Option (List W×Ev)->Option (W×Ev)
 | some p=>(takeAll p.2 p.1).bind fun q=>if q.1.length<=lim then some (mk q.1,q.2) else none
 | none=>none
def disp3 (mk:List D->W):Option (List D×Ev)->Option (W×Ev)
 | some q=>if q.1.length<=lim then some (mk q.1,q.2) else none
 | none=>none
theorem b0x:fTup fa ρ=disp2 (fun ds=>.v (.tup ds)) (fa ρ):=by unfold fTup disp2;cases fa ρ<;>rfl
theorem a9N:fLst fa ρ=disp2 (fun ds=>.o (.lst ds)) (fa ρ):=by unfold fLst disp2;cases fa ρ<;>rfl
theorem a4K {mk:List D->W}:disp2 mk (some (ws,ρ))=disp3 mk (takeAll ρ ws):=by unfold disp2 disp3;dsimp only;cases takeAll ρ ws<;>rfl
theorem a44 {mk:List D->W}:disp3 mk (some (ds,ρ))=if ds.length<=lim then some (mk ds,ρ) else none:=rfl
def call2 (k:List D->Option W):Option (List W×Ev)->Option (W×Ev)
 | some p=>(drs p.2 p.1).bind fun ds=>(k ds).map fun w=>(w,p.2)
 | none=>none
def call3 (k:List D->Option W) (ρ:Ev):Option (List D)->Option (W×Ev)
 | some ds=>withE ρ (k ds)
 | none=>none
theorem a6t {k:List D->Option W}:fCall k fa ρ=call2 k (fa ρ):=by unfold fCall call2;cases fa ρ<;>rfl
theorem a4j {k:List D->Option W}:call2 k (some (ws,ρ))=call3 k ρ (drs ρ ws):=by
 unfold call2 call3 withE;dsimp only;cases drs ρ ws with
 | none=>rfl
 | some ds=>simp only[bind_some];cases k ds<;>rfl
theorem a4m {k:List D->Option W}:call3 k ρ (some ds)=withE ρ (k ds):=rfl
theorem r_k1 {g:D->Option W}:k1 g [d]=g d:=rfl
theorem r_k2 {g:Int->Int->D}{i j:Int}:k2 g [.int i,.int j]=some (.v (g i j)):=rfl
def def2 (g:List D->Option W):Option (List W×Ev)->Option (W×Ev)
 | some p=>(drs p.2 p.1).bind fun ds=>(g ds).bind fun w=>if lfW w=true then some (w,p.2) else(frzL p.1 p.2).map fun ρ2=>(w,ρ2)
 | none=>none
def def3 (g:List D->Option W) (ws:List W) (ρ:Ev):Option (List D)->Option (W×Ev)
 | some ds=>(g ds).bind fun w=>if lfW w=true then some (w,ρ) else(frzL ws ρ).map fun ρ2=>(w,ρ2)
 | none=>none
def def4 (ws:List W) (ρ:Ev):Option W->Option (W×Ev)
 | some w=>if lfW w=true then some (w,ρ) else(frzL ws ρ).map fun ρ2=>(w,ρ2)
 | none=>none
theorem b0M {g:List D->Option W}:fDef g fa ρ=def2 g (fa ρ):=by unfold fDef def2;cases fa ρ<;>rfl
theorem a77 {g:List D->Option W}:def2 g (some (ws,ρ))=def3 g ws ρ (drs ρ ws):=by unfold def2 def3;dsimp only;cases drs ρ ws<;>rfl
theorem a6O {g:List D->Option W}:def3 g ws ρ (some ds)=def4 ws ρ (g ds):=by unfold def3 def4;dsimp only;cases g ds<;>rfl
theorem a7m:def4 ws ρ (some w)=if lfW w=true then some (w,ρ) else(frzL ws ρ).map fun ρ2=>(w,ρ2):=rfl
def dl2 (g:D->List D->Option (W×D)):Option (List W×Ev)->Option (W×Ev)
 | some (.r i::ws,ρ)=>(ownAt ρ i).bind fun c=>(drs ρ ws).bind fun ds=>(g c ds).bind fun z=>if noR i ws=true/\lfC z.2=true then(if lfW z.1=true then some (z.1,setOwn ρ i z.2) else(frzL ws (setOwn ρ i z.2)).map fun ρ2=>(z.1,ρ2)) else none
 | _=>none
def dl3 (g:D->List D->Option (W×D)) (i:Nat) (ws:List W) (ρ:Ev):Option D->Option (List D)->Option (W×Ev)
 | some c,some ds=>(g c ds).bind fun z=>if noR i ws=true/\lfC z.2=true then(if lfW z.1=true then some (z.1,setOwn ρ i z.2) else(frzL ws (setOwn ρ i z.2)).map fun ρ2=>(z.1,ρ2)) else none
 | _,_=>none
def dl4 (i:Nat) (ws:List W) (ρ:Ev):Option (W×D)->Option (W×Ev)
 | some z=>if noR i ws=true/\lfC z.2=true then(if lfW z.1=true then some (z.1,setOwn ρ i z.2) else(frzL ws (setOwn ρ i z.2)).map fun ρ2=>(z.1,ρ2)) else none
 | none=>none
theorem r_dl {g:D->List D->Option (W×D)}:fDefL g fa ρ=dl2 g (fa ρ):=by
 unfold fDefL dl2;cases fa ρ with
 | none=>rfl
 | some p=>
  obtain⟨ws,ρ⟩:=p;cases ws with
  | nil=>rfl
  | cons w ws=>cases w<;>rfl
theorem b0o {g:D->List D->Option (W×D)}:dl2 g (some (.r i::ws,ρ))=dl3 g i ws ρ (ownAt ρ i) (drs ρ ws):=by unfold dl2 dl3;dsimp only;cases ownAt ρ i<;>cases drs ρ ws<;>rfl
theorem b0L {g:D->List D->Option (W×D)}:dl3 g i ws ρ (some d) (some ds)=dl4 i ws ρ (g d ds):=by unfold dl3 dl4;dsimp only;cases g d ds<;>rfl
theorem b0g:dl4 i ws ρ (some (w,d))=if noR i ws=true/\lfC d=true then(if lfW w=true then some (w,setOwn ρ i d) else(frzL ws (setOwn ρ i d)).map fun ρ2=>(w,ρ2)) else none:=rfl
def sl2 (lo hi:FO):Option (W×Ev)->Option (W×Ev)
 | some p=>(lo p.2).bind fun l=>(hi l.2).bind fun u=>(dr u.2 p.1.fz).bind fun x=>(slD x l.1 u.1).map fun w=>(w,u.2)
 | none=>none
def sl3 (hi:FO) (w:W):Option (Option Int×Ev)->Option (W×Ev)
 | some l=>(hi l.2).bind fun u=>(dr u.2 w.fz).bind fun x=>(slD x l.1 u.1).map fun w=>(w,u.2)
 | none=>none
def sl4 (w:W) (l:Option Int):Option (Option Int×Ev)->Option (W×Ev)
 | some u=>(dr u.2 w.fz).bind fun x=>(slD x l u.1).map fun w=>(w,u.2)
 | none=>none
def sl5 (l u:Option Int) (ρ:Ev):Option D->Option (W×Ev)
 | some x=>withE ρ (slD x l u)
 | none=>none
theorem r_sl {lo hi:FO}:fSl f lo hi ρ=sl2 lo hi (f ρ):=by unfold fSl sl2;cases f ρ<;>rfl
theorem a97 {lo hi:FO}:sl2 lo hi (some (w,ρ))=sl3 hi w (lo ρ):=by unfold sl2 sl3;dsimp only;cases lo ρ<;>rfl
theorem b0m {hi:FO}{l:Option Int}:sl3 hi w (some (l,ρ))=sl4 w l (hi ρ):=by unfold sl3 sl4;dsimp only;cases hi ρ<;>rfl
theorem a9E {l u:Option Int}:sl4 w l (some (u,ρ))=sl5 l u ρ (dr ρ w.fz):=by
 unfold sl4 sl5 withE;dsimp only;cases dr ρ w.fz with
 | none=>rfl
 | some x=>simp only[bind_some];cases slD x l u<;>rfl
theorem b0w {l u:Option Int}:sl5 l u ρ (some x)=withE ρ (slD x l u):=rfl
theorem a8D {l u:Option Int}:slD (.tup xs) l u=some (.v (.tup (cutD xs l u))):=rfl
theorem a8B {l u:Option Int}:slD (.lst xs) l u=some (.o (.lst (cutD xs l u))):=rfl
def o1O:Option (W×Ev)->Option (Option Int×Ev)
 | some (.v (.int i),ρ)=>some (some i,ρ)
 | _=>none
theorem r_o0:fO0 ρ=some (none,ρ):=rfl
theorem r_o1:fO1 f ρ=o1O (f ρ):=by
 unfold fO1 o1O;cases f ρ with
 | none=>rfl
 | some p=>
  obtain⟨w,ρ⟩:=p;cases w with
  | v d=>cases d<;>rfl
  | _=>rfl
theorem b0e {n:Int}:o1O (some (.v (.int n),ρ))=some (some n,ρ):=rfl
def thnO (G:FS):Option R->Option R
 | some (.nx ρ)=>G ρ
 | o=>o
theorem a7i:fThen F G ρ=thnO G (F ρ):=by unfold fThen thnO;cases F ρ with
 | none=>rfl
 | some r=>cases r<;>rfl
theorem a1T:thnO G (some (.nx ρ))=G ρ:=id rfl
theorem a1U:thnO G (some (.rt w ρ))=some (.rt w ρ):=id rfl
theorem b1Y:thnO G (some (.bk ρ))=some (.bk ρ):=rfl
theorem a1K:thnO G (some (.ct ρ))=some (.ct ρ):=rfl
def retO:Option (W×Ev)->Option R
 | some p=>retW p.2 p.1
 | none=>none
def retS (ρ:Ev):Option (Option W)->Option R
 | some (some (.o d))=>some (.rt (.o d) ρ)
 | some (some (.v d))=>some (.rt (.v d) ρ)
 | _=>none
theorem a94:fRet f ρ=retO (f ρ):=by unfold fRet retO;cases f ρ<;>rfl
theorem a4Z:retO (some (.v d,ρ))=some (.rt (.v d) ρ):=rfl
theorem a4n:retO (some (.o d,ρ))=some (.rt (.o d) ρ):=rfl
theorem a4F:retO (some (.r i,ρ))=retS ρ ρ[i]?:=by unfold retO retS;first|(dsimp only[retW];done)|(dsimp only[retW];rfl)
theorem a2W:retS ρ (some (some (.o d)))=some (.rt (.o d) ρ):=rfl
theorem r_retS_v:retS ρ (some (some (.v d)))=some (.rt (.v d) ρ):=rfl
def ifO (F G:FS):Option (Bool×Ev)->Option R
 | some (true,ρ)=>F ρ
 | some (false,ρ)=>G ρ
 | none=>none
theorem r_ifS:fIfS t F G ρ=ifO F G (t ρ):=by unfold fIfS ifO;cases t ρ with
 | none=>rfl
 | some p=>obtain⟨k,ρ⟩:=p;cases k<;>rfl
theorem a4T:ifO F G (some (true,ρ))=F ρ:=id rfl
theorem a4A:ifO F G (some (false,ρ))=G ρ:=id rfl
def asgO (i:Nat):Option (W×Ev)->Option R
 | some p=>(bindW p.2 i p.1).map .nx
 | none=>none
def bndO (i j:Nat):Option Ev->Option R
 | some ρ1=>match ρ1[j]? with
  | some (some (.v d))=>if freeSlot ρ1 i=true then some (.nx (ρ1.set i (some (.v d)))) else none
  | _=>none
 | none=>none
def bndS (i:Nat) (ρ:Ev):Option (Option W)->Option R
 | some (some (.v d))=>if freeSlot ρ i=true then some (.nx (ρ.set i (some (.v d)))) else none
 | _=>none
theorem b0b:fAsg i f ρ=asgO i (f ρ):=by unfold fAsg asgO;cases f ρ<;>rfl
theorem a5k:asgO i (some (.v d,ρ))=if freeSlot ρ i=true then some (.nx (ρ.set i (some (.v d)))) else none:=by unfold asgO;dsimp only[bindW];split<;>rfl
theorem a4t:asgO i (some (.o d,ρ))=if freeSlot ρ i=true then some (.nx (ρ.set i (some (.o d)))) else none:=by unfold asgO;dsimp only[bindW];split<;>rfl
theorem a4O:asgO i (some (.r j,ρ))=bndO i j (frzAt ρ j):=by
 unfold asgO bndO;dsimp only[bindW];cases frzAt ρ j with
 | none=>rfl
 | some ρ1=>
  simp only[bind_some];cases q:ρ1[j]? with
  | none=>rfl
  | some o=>
   cases o with
   | none=>rfl
   | some w=>
    cases w with
    | v d=>dsimp only;split<;>rfl
    | _=>rfl
theorem a8i:bndO i j (some ρ)=bndS i ρ ρ[j]?:=by
 unfold bndO bndS;rfl
theorem a6L:bndS i ρ (some (some (.v d)))=if freeSlot ρ i=true then some (.nx (ρ.set i (some (.v d)))) else none:=rfl
def agO2 (gf:FG):Option (W×Ev)->Option R
 | some p=>(takeAll p.2 [p.1.fz]).bind fun q=>match q.1 with
  | [d]=>(gf d q.2).map .nx
  | _=>none
 | none=>none
def agO3 (gf:FG):Option (List D×Ev)->Option R
 | some ([d],ρ)=>(gf d ρ).map .nx
 | _=>none
def nxO:Option Ev->Option R
 | some ρ=>some (.nx ρ)
 | none=>none
theorem r_ag {gf:FG}:fAsgG f gf ρ=agO2 gf (f ρ):=by unfold fAsgG agO2;cases f ρ<;>rfl
theorem b0z {gf:FG}:agO2 gf (some (w,ρ))=agO3 gf (takeAll ρ [w.fz]):=by
 unfold agO2 agO3;dsimp only;cases takeAll ρ [w.fz] with
 | none=>rfl
 | some p=>
  obtain⟨ds,ρ⟩:=p
  match ds with
  | []=>rfl
  | [_]=>rfl
  | _::_::_=>rfl
theorem a9J {gf:FG}:agO3 gf (some ([d],ρ))=nxO (gf d ρ):=by unfold agO3 nxO;dsimp only;cases gf d ρ<;>rfl
theorem b0j:nxO (some ρ)=some (.nx ρ):=rfl
theorem a4p:gfName i d ρ=if freeSlot ρ i=true then some (ρ.set i (some (.v d))) else none:=rfl
def gcO (gs:FGs) (ds:List D):Option Ev->Option Ev
 | some ρ=>gs ds ρ
 | none=>none
theorem a75:gfNil [] ρ=some ρ:=rfl
theorem a4P {gf:FG}{gs:FGs}:gfCons gf gs (d::ds) ρ=gcO gs ds (gf d ρ):=by unfold gfCons gcO;dsimp only;cases gf d ρ<;>rfl
theorem b0K {gs:FGs}:gcO gs ds (some ρ)=gs ds ρ:=id rfl
theorem a8o {gs:FGs}:gfTup gs (.tup ds) ρ=gs ds ρ:=rfl
def gs2 (g:FX) (d:D):Option (W×Ev)->Option Ev
 | some (.r j,ρ)=>(g ρ).bind fun q=>(dr q.2 q.1.fz).bind fun k=>match k,ownAt q.2 j with
  | .int k,some (.lst xs)=>(ixN xs.length k).map fun n=>setOwn q.2 j (.lst (xs.set n d))
  | _,_=>none
 | _=>none
def gs3 (j:Nat) (d:D):Option (W×Ev)->Option Ev
 | some q=>(dr q.2 q.1.fz).bind fun k=>match k,ownAt q.2 j with
  | .int k,some (.lst xs)=>(ixN xs.length k).map fun n=>setOwn q.2 j (.lst (xs.set n d))
  | _,_=>none
 | none=>none
def gs4 (j:Nat) (d:D) (ρ:Ev):Option D->Option D->Option Ev
 | some (.int k),some (.lst xs)=>(ixN xs.length k).map fun n=>setOwn ρ j (.lst (xs.set n d))
 | _,_=>none
theorem r_gs:gfSub f g d ρ=gs2 g d (f ρ):=by
 unfold gfSub gs2;cases f ρ with
 | none=>rfl
 | some p=>obtain⟨w,ρ⟩:=p;cases w<;>rfl
theorem b0p:gs2 g d (some (.r j,ρ))=gs3 j d (g ρ):=by unfold gs2 gs3;dsimp only;cases g ρ<;>rfl
theorem a9H:gs3 j d (some (w,ρ))=gs4 j d ρ (dr ρ w.fz) (ownAt ρ j):=by
 unfold gs3 gs4;dsimp only;cases dr ρ w.fz with
 | none=>rfl
 | some k=>
  simp only[bind_some];cases k with
  | int n=>cases ownAt ρ j with
   | none=>rfl
   | some c=>cases c<;>rfl
  | _=>rfl
theorem b0r {n:Int}:gs4 j d ρ (some (.int n)) (some (.lst xs))=(ixN xs.length n).map fun n=>setOwn ρ j (.lst (xs.set n d)):=rfl
def dropO:Option (W×Ev)->Option R
 | some p=>some (.nx p.2)
 | none=>none
theorem a8p:fDrop f ρ=dropO (f ρ):=by unfold fDrop dropO;cases f ρ<;>rfl
theorem a4g:dropO (some (w,ρ))=some (.nx ρ):=rfl
def par2 (i j:Nat):Option (List W×Ev)->Option R
 | some p=>(takeAll p.2 p.1).bind fun q=>match q.1 with
  | [d,d']=>if freeSlot q.2 i=true/\freeSlot (q.2.set i (some (.v d))) j=true then some (.nx ((q.2.set i (some (.v d))).set j (some (.v d')))) else none
  | _=>none
 | none=>none
def par3 (i j:Nat):Option (List D×Ev)->Option R
 | some ([d,d'],ρ)=>if freeSlot ρ i=true/\freeSlot (ρ.set i (some (.v d))) j=true then some (.nx ((ρ.set i (some (.v d))).set j (some (.v d')))) else none
 | _=>none
theorem r_par:fPar i j fa ρ=par2 i j (fa ρ):=by unfold fPar par2;cases fa ρ<;>rfl
theorem r_par2:par2 i j (some (ws,ρ))=par3 i j (takeAll ρ ws):=by
 unfold par2 par3;dsimp only;cases takeAll ρ ws with
 | none=>rfl
 | some p=>
  obtain⟨ds,ρ⟩:=p
  match ds with
  | []=>rfl
  | [_]=>rfl
  | [_,_]=>rfl
  | _::_::_::_=>rfl
theorem r_par3:par3 i j (some ([d,e],ρ))=if freeSlot ρ i=true/\freeSlot (ρ.set i (some (.v d))) j=true then some (.nx ((ρ.set i (some (.v d))).set j (some (.v e)))) else none:=rfl
def is2:Option (W×Ev)->Option (List D×Ev)
 | some p=>(takeAll p.2 [p.1.fz]).bind fun q=>match q.1 with
  | [d]=>(items d).map fun xs=>(xs,q.2)
  | _=>none
 | none=>none
def is3:Option (List D×Ev)->Option (List D×Ev)
 | some ([.tup xs],ρ)=>some (xs,ρ)
 | some ([.lst xs],ρ)=>some (xs,ρ)
 | _=>none
theorem r_is:fiSeq f ρ=is2 (f ρ):=by unfold fiSeq is2;cases f ρ<;>rfl
theorem b0E:is2 (some (w,ρ))=is3 (takeAll ρ [w.fz]):=by
 unfold is2 is3;dsimp only;cases takeAll ρ [w.fz] with
 | none=>rfl
 | some p=>
  obtain⟨ds,ρ⟩:=p
  match ds with
  | []=>rfl
  | [d]=>cases d<;>rfl
  | _::_::_=>simp
theorem a6U:is3 (some ([.tup xs],ρ))=some (xs,ρ):=rfl
theorem a8q:is3 (some ([.lst xs],ρ))=some (xs,ρ):=rfl
def forO (gf:FG) (b:FS):Option (List D×Ev)->Option R
 | some p=>loopF (turnF gf b) p.1 p.2
 | none=>none
theorem a9D {fi:FI}{gf:FG}:fFor fi gf F ρ=forO gf F (fi ρ):=by unfold fFor forO;cases fi ρ<;>rfl
theorem a8j {gf:FG}:forO gf F (some (xs,ρ))=loopF (turnF gf F) xs ρ:=id rfl
def turnO (b:FS):Option Ev->Option R
 | some ρ=>b ρ
 | none=>none
theorem a6u {gf:FG}:turnF gf F d ρ=turnO F (gf d ρ):=by unfold turnF turnO;cases gf d ρ<;>rfl
theorem a4M:turnO F (some ρ)=F ρ:=id rfl
def mu2 (op:List D->List D->Option (W×List D)) (fa:FA):Option (W×Ev)->Option (W×Ev)
 | some (.r i,ρ)=>if isLst (ownAt ρ i)=true then(fa ρ).bind fun q=>(takeAll q.2 q.1).bind fun z=>match ownAt z.2 i with
  | some (.lst xs)=>(op xs z.1).map fun y=>(y.1,setOwn z.2 i (.lst y.2))
  | _=>none
  else none
 | _=>none
def mu3 (op:List D->List D->Option (W×List D)) (i:Nat):Option (List W×Ev)->Option (W×Ev)
 | some q=>(takeAll q.2 q.1).bind fun z=>match ownAt z.2 i with
  | some (.lst xs)=>(op xs z.1).map fun y=>(y.1,setOwn z.2 i (.lst y.2))
  | _=>none
 | none=>none
def mu4 (op:List D->List D->Option (W×List D)) (i:Nat):Option (List D×Ev)->Option (W×Ev)
 | some z=>match ownAt z.2 i with
  | some (.lst xs)=>(op xs z.1).map fun y=>(y.1,setOwn z.2 i (.lst y.2))
  | _=>none
 | none=>none
def mu5 (op:List D->List D->Option (W×List D)) (i:Nat) (ds:List D) (ρ:Ev):Option D->Option (W×Ev)
 | some (.lst xs)=>(op xs ds).map fun y=>(y.1,setOwn ρ i (.lst y.2))
 | _=>none
def mu6 (i:Nat) (ρ:Ev):Option (W×List D)->Option (W×Ev)
 | some y=>some (y.1,setOwn ρ i (.lst y.2))
 | none=>none
variable {om:List D->List D->Option (W×List D)}
theorem r_mu:fMut om f fa ρ=mu2 om fa (f ρ):=by
 unfold fMut mu2;cases f ρ with
 | none=>rfl
 | some p=>obtain⟨w,ρ⟩:=p;cases w<;>rfl
theorem a99:mu2 om fa (some (.r i,ρ))=if isLst (ownAt ρ i)=true then mu3 om i (fa ρ) else none:=by unfold mu2 mu3;dsimp only;cases fa ρ<;>rfl
theorem a96:mu3 om i (some (ws,ρ))=mu4 om i (takeAll ρ ws):=by unfold mu3 mu4;dsimp only;cases takeAll ρ ws<;>rfl
theorem b0t:mu4 om i (some (ds,ρ))=mu5 om i ds ρ (ownAt ρ i):=by unfold mu4 mu5;rfl
theorem b0a:mu5 om i ds ρ (some (.lst xs))=mu6 i ρ (om xs ds):=by unfold mu5 mu6;dsimp only;cases om xs ds<;>rfl
theorem b0G:mu6 i ρ (some (w,xs))=some (w,setOwn ρ i (.lst xs)):=rfl
theorem a91:mApp xs [d]=if xs.length<lim then some (.v .non,xs++[d]) else none:=rfl
def runO:Option R->Option W
 | some (.rt w _)=>some w
 | some (.nx _)=>some (.v .non)
 | _=>none
theorem a9S {np n:Nat}:runD np n G ds=if ds.length=np then runO (G (start0 n ds)) else none:=by
 unfold runD runO
 split
 ·cases G (start0 n ds) with
  | none=>rfl
  | some r=>cases r<;>rfl
 ·rfl
theorem a2P:runO (some (.rt w ρ))=some w:=rfl
theorem a29:runO (some (.nx ρ))=some (.v .non):=rfl
def runLO:Option R->Option (W×D)
 | some (.rt w ρ)=>(ownAt ρ 0).map fun c=>(w,c)
 | some (.nx ρ)=>(ownAt ρ 0).map fun c=>(.v .non,c)
 | _=>none
theorem a60 {np n:Nat}:runL np n G d ds=if ds.length+1=np then runLO (G (some (.l d)::start0 (n-1) ds)) else none:=by
 unfold runL runLO
 split
 ·cases G (some (.l d)::start0 (n-1) ds) with
  | none=>rfl
  | some r=>cases r<;>rfl
 ·rfl
theorem a1B:runLO (some (.rt w ρ))=(ownAt ρ 0).map fun c=>(w,c):=rfl
theorem b1Z:runLO (some (.nx ρ))=(ownAt ρ 0).map fun c=>(.v .non,c):=rfl
variable {m n:Int}
theorem o_i0 {g:Int->Int->D}:oI0 g (.int m) (.int n)=some (.v (g m n)):=rfl
theorem o_i {C:Int->Int->Prop} [∀i j,Decidable (C i j)] {g:Int->Int->D}:oI C g (.int m) (.int n)=if C m n then some (.v (g m n)) else none:=rfl
theorem a4r:oAdd (.int m) (.int n)=some (.v (.int (m+n))):=rfl
theorem a4G:oAdd (.lst xs) (.lst ys)=if xs.length+ys.length<=lim then some (.o (.lst (xs++ys))) else none:=rfl
theorem o_add_t:oAdd (.tup xs) (.tup ys)=if xs≠[]/\xs.length+ys.length<=lim then some (.v (.tup (xs++ys))) else none:=by
 by_cases h:xs≠[]/\xs.length+ys.length<=lim
 ·rw[if_pos h];exact if_pos h
 ·rw[if_neg h];exact if_neg h
theorem a9V:oNeg (.int m)=some (.v (.int (-m))):=rfl
theorem a7A:oLtT (.int m) (.int n)=some (.v (.bl (decide (m<n)))):=rfl
theorem a76:oIx (.tup xs) (.int n)=(atI xs n).map .v:=rfl
theorem a8E:oIx (.lst xs) (.int n)=(atI xs n).map .v:=rfl
theorem o_len_t:gLen (.tup xs)=some (.v (.int xs.length)):=rfl
theorem a5i:gLen (.lst xs)=some (.v (.int xs.length)):=rfl
theorem o_abs:gAbs (.int m)=some (.v (.int (if m<0 then -m else m))):=rfl
theorem o_int:gInt (.bl b)=some (.v (.int (if b then 1 else 0))):=rfl
theorem b10:gTuple (.tup xs)=some (.v (.tup xs)):=rfl
theorem a1Z:gTuple (.lst xs)=some (.v (.tup xs)):=rfl
theorem o_list_t:gList (.tup xs)=some (.o (.lst xs)):=rfl
theorem o_list_l:gList (.lst xs)=some (.o (.lst xs)):=rfl
theorem o_d2 {q:D->D->Option Bool}{neg:Bool}:oD2 q neg x y=(q x y).map fun k=>.v (.bl (if neg then !k else k)):=rfl
theorem a_0:atI (d::ds) 0=some d:=p6 (j:=0) rfl
theorem a_1:atI (d::e::ds) 1=some e:=p6 (j:=1) rfl
theorem a_2:atI (d::e::x::ds) 2=some x:=p6 (j:=2) rfl
end
open PySem PySem.Spec PyProof.Rows L2
section
variable {prog:Program}{w:World}{A:Around}{E:Value->Shared->Prop}{s:Shared}
theorem a33 {c t:Addr}{k:Nat}{its:Array Value}{x:Value}{Q:Value->Shared->Prop}(hc:IsTupIter s.heap c t k)(ht:IsTup s.heap t its)(hx:its[k]? =some x)
  (q:∀h',IsTupIter h' c t (k+1)->Heap.SameBut c s.heap h'->Q x {s with heap:=h'}):wpAny (model prog w) A (Builtin.SmallTypes.nextOf (.ref c)) Q E s:=by
 have T:=hc.typeIs;obtain⟨o,e1,e2,e3⟩:=hc;obtain⟨o2,g1,_,m,g3⟩:=ht;unfold Builtin.SmallTypes.nextOf;refine zA (qJ (name:=Str.ofString "__next__") T slot_tupleiter_next (qR slot_tupleiter_next T entry_tupleiter_next ?_ (args_tupleiter_next _)));have step:wpAny (model prog w) A.in1 (setField (.ref c) 1 (rawInt ((k:Nat)+1:Nat))) (fun _ s'=>wpAny (model prog w) A.in1 (ret x) (fun fin s''=>∃v,fin= .done (.ret v)/\wpAny (model prog w) A (pure v) Q E s'') E s') E s:=by
  refine wpAny_setField e1 e3 (by simp) (zB ⟨x,rfl,zB (q _ ⟨_,xA _ e1 (Obj.isFreed_of_fields (Obj.data_mapFields e3 _)),(Obj.cls_mapFields ..).trans e2,?_⟩ (qQ ..))⟩)
  rw[Obj.data_mapFields e3];simp[rawInt]
 refine zA (m:=field (.ref c) 0) (jC e1 e3 (x:=.ref t) rfl ?_);show wpAny _ _ (if(Value.ref t==Value.none)=true then _ else _) _ _ s;have nn:¬((Value.ref t==Value.none)=true):=zT;rw[if_neg nn];refine zA (m:=field (.ref c) 1) (jC e1 e3 (x:=.int k 0) rfl (zA (m:=seqItems? (.ref t)) (xB g1 g3 ?_)));simp only[qN,hx];exact zA step
theorem a5A {c t:Addr}{k:Nat}{its:Array Value}{Q:Value->Shared->Prop}(hh:A.handled=none)(hc:IsTupIter s.heap c t k)(ht:IsTup s.heap t its)(hx:its[k]? =none)
  (q:∀h' x,Heap.ExtBut c s.heap h'->(∃o,h'.get? x=some o/\o.cls= .type "StopIteration")->E (.ref x) {s with heap:=h'}):wpAny (model prog w) A (Builtin.SmallTypes.nextOf (.ref c)) Q E s:=by
 have T:=hc.typeIs;obtain⟨o,e1,e2,e3⟩:=hc;obtain⟨o2,g1,_,m,g3⟩:=ht;unfold Builtin.SmallTypes.nextOf;refine zA (qJ (name:=Str.ofString "__next__") T slot_tupleiter_next (qR slot_tupleiter_next T entry_tupleiter_next ?_ (args_tupleiter_next _)));refine zA (m:=field (.ref c) 0) (jC e1 e3 (x:=.ref t) rfl ?_);show wpAny _ _ (if(Value.ref t==Value.none)=true then _ else _) _ _ s;have nn:¬((Value.ref t==Value.none)=true):=zT;rw[if_neg nn];refine zA (m:=field (.ref c) 1) (jC e1 e3 (x:=.int k 0) rfl (zA (m:=seqItems? (.ref t)) (xB g1 g3 ?_)));simp only[qN,hx];refine zA (xY (zA (wpAny_setField e1 e3 (by simp) ?_)))
 refine zA (m:=newExc (.type "StopIteration") []) ?_;simp only[newExc,newTuple];refine zA (qV ?_ (by size_fits))
 refine zA (m:=firstArgMember _ _) (wpAny_of_eq (a:=Value.none) (by first|rfl|(simp only[firstArgMember];rfl)) (qV ?_ (by size_fits)))
 simp only[raiseNew];refine zA (wpAny_handled ?_)
 first|rw[show A.in1.handled=none from hh]|rw[hh]
 exact zA (zB (wpAny_throw (q _ _ (((qQ ..).extBut.push _).push _) ⟨_,zW _ rfl,rfl⟩)))
end
def SIt (k:Bool) (h:Heap) (c t:Addr) (i:Nat):Prop:=match k with
 | true=>h.IsListIter c t i
 | false=>IsTupIter h c t i
def SSq (k:Bool) (h:Heap) (t:Addr) (its:Array Value):Prop:=match k with
 | true=>h.IsList t its
 | false=>IsTup h t its
def SqK (k:Bool) (K:PySem.W.Frag) (H:Hp) (a:Addr) (xs:List V):Prop:=match k with
 | true=>SqL K H a xs
 | false=>SqT K H a xs
def itN (k:Bool):String:=if k then "list_iterator" else "tuple_iterator"
theorem A1 {b:Bool}{h h':Heap}{c t:Addr}{k:Nat}(i:SIt b h c t k)(kp:∀o,h.get? c=some o->h'.get? c=some o):SIt b h' c t k:=by
 cases b<;>(obtain⟨o,e,r⟩:=i;exact⟨o,kp o e,r⟩)
theorem V6 {b:Bool}{h h':Heap}{c:Addr}{its:Array Value}(i:SSq b h c its)(kp:∀o,h.get? c=some o->h'.get? c=some o):SSq b h' c its:=by
 cases b<;>(obtain⟨o,e,r⟩:=i;exact⟨o,kp o e,r⟩)
theorem O1 {b:Bool}{h:Heap}{c t:Addr}{k:Nat}(i:SIt b h c t k):∃o,h.get? c=some o/\∀v,o.data≠.cell v:=by
 cases b<;>(obtain⟨o,e,r,d⟩:=i;exact⟨o,e,fun v z=>by rw[d] at z;cases z⟩)
theorem a5e {b:Bool}{h:Heap}{c l:Addr}(e:h.get? c=some {cls:=.type (itN b),data:=.fields #[.ref l,.int 0 0]}):SIt b h c l 0:=by
 cases b<;>exact⟨_,e,rfl,rfl⟩
theorem sqk {X:Cx}{k:Bool}{pins:List (Addr×PySem.Obj)}{σ:L2.St}{H:Hp}{s:Shared}{a:Addr}{xs:List V}(I:Inv X pins σ H s)(h:SqK k X.K H a xs):∃its,Vals xs its/\SSq k s.heap a its.toArray:=by
 cases k
 ·obtain⟨its,r,p,_⟩:=I.tuple h;exact⟨its,r,p⟩
 ·obtain⟨its,r,p,_⟩:=I.list h;exact⟨its,r,p.isList⟩
theorem a4Q {X:Cx}{k:Bool}{pins:List (Addr×PySem.Obj)}{σ:L2.St}{H:Hp}{s:Shared}{a:Addr}{xs ys:List V}(I:Inv X pins σ H s)(h:SqK k X.K H a xs)(h':SqK k X.K H a ys):xs=ys:=by
 cases k
 ·exact I.tuple_inj h h'
 ·exact I.list_inj h h'
theorem a6w {b:Bool}{h:Heap}{c:Addr}{its:Array Value}(i:SSq b h c its):c<h.objs.size:=by
 cases b<;>(obtain⟨o,e,r⟩:=i;exact zX e)
section
variable {prog:Program}{w:World}{A:Around}{E:Value->Shared->Prop}{s:Shared}
theorem R7 {b:Bool}{c t:Addr}{k:Nat}{its:Array Value}{x:Value}{Q:Value->Shared->Prop}(hc:SIt b s.heap c t k)(ht:SSq b s.heap t its)(hx:its[k]? =some x)
  (q:∀h',SIt b h' c t (k+1)->Heap.SameBut c s.heap h'->Q x {s with heap:=h'}):wpAny (model prog w) A (Builtin.SmallTypes.nextOf (.ref c)) Q E s:=by
 cases b
 ·exact a33 hc ht hx q
 ·exact wpAny_nextOf_list_item hc ht hx q
theorem a1r {b:Bool}{c t:Addr}{k:Nat}{its:Array Value}{Q:Value->Shared->Prop}(hh:A.handled=none)(hc:SIt b s.heap c t k)(ht:SSq b s.heap t its)(hx:its[k]? =none)
  (q:∀h' x,Heap.ExtBut c s.heap h'->(∃o,h'.get? x=some o/\o.cls= .type "StopIteration")->E (.ref x) {s with heap:=h'}):wpAny (model prog w) A (Builtin.SmallTypes.nextOf (.ref c)) Q E s:=by
 cases b
 ·exact a5A hh hc ht hx q
 ·exact wpAny_nextOf_list_end hh hc ht hx q
theorem iterS {b:Bool}{l:Addr}{its:Array Value}{Q:Value->Shared->Prop}(ht:SSq b s.heap l its)(q:Q (.ref s.heap.objs.size) {s with heap:=s.heap.push {cls:=.type (itN b),data:=.fields #[.ref l,.int 0 0]}}):wpAny (model prog w) A (pyIter (.ref l)) Q E s:=by
 cases b
 ·exact iter_tuple ht q
 ·exact wpAny_pyIter_list ht q
end
section
variable {prog:Program}{w:World}{A:Around}{E:Value->Shared->Prop}{s:Shared}{c1 c2:Bool}{z TI TO i1 i2 l1 l2:Addr}{k1 k2:Nat}{xs ys:Array Value}{x y a b:Value}
theorem a5M {Q:Value->Shared->Prop}(D:ZipApart z TI TO i1 i2 l1 l2)(hz:IsZip s.heap z TI TO .none)(hTI:IsPair s.heap TI (.ref i1) (.ref i2))(hTO:IsPair s.heap TO a b)
  (h1:SIt c1 s.heap i1 l1 k1) (h2:SIt c2 s.heap i2 l2 k2) (t1:SSq c1 s.heap l1 xs) (t2:SSq c2 s.heap l2 ys) (hx:xs[k1]? =some x) (hy:ys[k2]? =some y)
  (q:∀h',IsZip h' z TI TO (rawInt s.heap.objs.size)->IsPair h' TO x y->SIt c1 h' i1 l1 (k1+1)->SIt c2 h' i2 l2 (k2+1)->IsPair h' s.heap.objs.size x y->h'.objs.size=s.heap.objs.size+1->
   (∀c o,c≠z->c≠TO->c≠i1->c≠i2->s.heap.get? c=some o->h'.get? c=some o)->Q (.ref s.heap.objs.size) {s with heap:=h'}):
  wpAny (model prog w) A (Builtin.«zip.__next__» ⟨[.ref z],[]⟩) (fun fin s'=>∃v,fin= .done (.ret v)/\Q v s') E s:=by
 refine zA (m:=field (.ref z) 2) (jC hz rfl (x:=.bool false) rfl ?_);refine zA (m:=field (.ref z) 3) (jC hz rfl (x:=.ref TI) rfl (zA (xB hTI rfl ?_)));refine zA (m:=Builtin.SmallTypes.ownedTupleIsFree (.ref z)) ?_;unfold Builtin.SmallTypes.ownedTupleIsFree;refine zA (jC hz rfl (x:=.none) rfl (zB ?_));simp only[jF];refine zA (xY (zA (jC hz rfl (x:=.ref TO) rfl (zA (xE hz (by simp) fun ha za sa=>?_)))))
 have za':IsZip ha z TI TO .ellipsis:=za;have ka:∀c o,c≠z->s.heap.get? c=some o->ha.get? c=some o:=fun c o n e=>sa.extBut c o n e;refine zA ?_;simp only[List.zipIdx_cons,List.zipIdx_nil,forIn_cons,forIn_nil];refine zA (zA (wpAny_onRaise (zA (m:=Builtin.SmallTypes.nextOf (.ref i1)) (R7 (A1 h1 fun o e=>ka _ o D.i1z e) (V6 t1 fun o e=>ka _ o D.l1z e) hx fun hb ib sb=>zB ?_))));have kb:∀c o,c≠z->c≠i1->s.heap.get? c=some o->hb.get? c=some o:=fun c o n n1 e=>sb.extBut c o n1 (ka c o n e);have ob:IsPair hb TO a b:=kb _ _ D.TOz D.TOi1 hTO;refine zA (xB ob rfl (zA (wpAny_updateSeq_pair ob fun hc oc sc=>?_)));have oc':IsPair hc TO x b:=oc;have kc:∀c o,c≠z->c≠i1->c≠TO->s.heap.get? c=some o->hc.get? c=some o:=fun c o n n1 n2 e=>sc.extBut c o n2 (kb c o n n1 e);refine zA (wpAny_letGo (zB ?_));refine zA (zA (wpAny_onRaise (zA (m:=Builtin.SmallTypes.nextOf (.ref i2)) (R7 (A1 h2 fun o e=>kc _ o D.i2z D.i12.symm D.TOi2.symm e) (V6 t2 fun o e=>kc _ o D.l2z D.l2i1 D.l2TO e) hy fun hd id' sd=>zB ?_))));have od:IsPair hd TO x b:=sd.extBut _ _ D.TOi2 oc';refine zA (xB od rfl (zA (wpAny_updateSeq_pair od fun he oe se=>?_)));have oe':IsPair he TO x y:=oe;refine zA (wpAny_letGo (zB (zB ?_)));refine zA (xB oe' rfl (zA (wpAny_newTuple ?_)));have size:he.objs.size=s.heap.objs.size:=by rw[se.1,sd.1,sc.1,sb.1,sa.1]
 have ke:∀c o,c≠z->c≠TO->c≠i1->c≠i2->s.heap.get? c=some o->he.get? c=some o:=fun c o n n1 n2 n3 e=>se.extBut c o n1 (sd.extBut c o n3 (kc c o n n2 n1 e));have ze:IsZip he z TI TO .ellipsis:=se.extBut _ _ D.TOz.symm (sd.extBut _ _ D.i2z.symm (sc.extBut _ _ D.TOz.symm (sb.extBut _ _ D.i1z.symm za')));have ie1:SIt c1 he i1 l1 (k1+1):=A1 ib fun o e=>se.extBut _ o D.TOi1.symm (sd.extBut _ o D.i12 (sc.extBut _ o D.TOi1.symm e));have ie2:SIt c2 he i2 l2 (k2+1):=A1 id' fun o e=>se.extBut _ o D.TOi2.symm e;have zlt:z<he.objs.size:=zX ze;refine zA (m:=Builtin.SmallTypes.ownedTupleHandOut (.ref z) (.ref he.objs.size)) ?_;unfold Builtin.SmallTypes.ownedTupleHandOut;have zp:IsZip (he.push {cls:=.type "tuple",data:=.seq #[x,y]}) z TI TO .ellipsis:=zD _ ze;refine zA (xE zp (by simp) fun hf zf sf=>?_)
 have zf':IsZip hf z TI TO (rawInt he.objs.size):=zf;refine xE zf' (by simp) fun hg zg sg=>?_
 have zg':IsZip hg z TI TO (rawInt he.objs.size):=zg;have up:∀c o,c≠z->he.get? c=some o->hg.get? c=some o:=fun c o n e=>sg.extBut c o n (sf.extBut c o n (zD _ e));have pg:IsPair hg he.objs.size x y:=sg.extBut _ _ (Nat.ne_of_gt zlt) (sf.extBut _ _ (Nat.ne_of_gt zlt) (zW _ rfl));have szg:hg.objs.size=he.objs.size+1:=by rw[sg.1,sf.1,size_push]
 rw[size] at zg' pg szg;refine zB ⟨_,rfl,?_⟩;show Q (.ref he.objs.size) _;rw[size];exact q hg zg' (up _ _ D.TOz oe') (A1 ie1 fun o e=>up _ o D.i1z e) (A1 ie2 fun o e=>up _ o D.i2z e) pg szg fun c o n n1 n2 n3 e=>up c o n (ke c o n n1 n2 n3 e)
end
section
variable {prog:Program}{w:World}{A:Around}{E:Value->Shared->Prop}{s:Shared}{c1 c2:Bool}{z TI TO i1 i2 l1 l2:Addr}{k1 k2:Nat}{xs ys:Array Value}{x y a b:Value}
theorem a6K {Q:Fin->Shared->Prop}(hh:A.handled=none)(D:ZipApart z TI TO i1 i2 l1 l2)(hz:IsZip s.heap z TI TO .none)(hTI:IsPair s.heap TI (.ref i1) (.ref i2))(hTO:IsPair s.heap TO a b)
  (h1:SIt c1 s.heap i1 l1 k1) (h2:SIt c2 s.heap i2 l2 k2) (t1:SSq c1 s.heap l1 xs) (t2:SSq c2 s.heap l2 ys) (hend:xs[k1]? =none\/ys[k2]? =none)
  (q:∀h' c,(∀c o,c≠z->c≠TO->c≠i1->c≠i2->s.heap.get? c=some o->h'.get? c=some o)->(∃o,h'.get? c=some o/\o.cls= .type "StopIteration")->E (.ref c) {s with heap:=h'}):
  wpAny (model prog w) A (Builtin.«zip.__next__» ⟨[.ref z],[]⟩) Q E s:=by
 refine zA (m:=field (.ref z) 2) (jC hz rfl (x:=.bool false) rfl ?_);refine zA (m:=field (.ref z) 3) (jC hz rfl (x:=.ref TI) rfl (zA (xB hTI rfl ?_)));refine zA (m:=Builtin.SmallTypes.ownedTupleIsFree (.ref z)) ?_;unfold Builtin.SmallTypes.ownedTupleIsFree;refine zA (jC hz rfl (x:=.none) rfl (zB ?_));simp only[jF];refine zA (xY (zA (jC hz rfl (x:=.ref TO) rfl (zA (xE hz (by simp) fun ha za sa=>?_)))))
 have za':IsZip ha z TI TO .ellipsis:=za;have ka:∀c o,c≠z->s.heap.get? c=some o->ha.get? c=some o:=fun c o n e=>sa.extBut c o n e;have apart:∀{h:Heap} {c:Addr} {v:Value},IsZip h z TI TO v->(∃o,h.get? c=some o/\o.cls= .type "StopIteration")->c≠z:=fun{h c v} hz' ⟨o,e1,e2⟩ n=>by
  subst n;rw[hz'] at e1;cases e1;simp at e2
 refine zA ?_;simp only[List.zipIdx_cons,List.zipIdx_nil,forIn_cons,forIn_nil];cases hx:xs[k1]? with
 | none=>
  refine zA (zA (wpAny_onRaise (zA (m:=Builtin.SmallTypes.nextOf (.ref i1)) (a1r hh (A1 h1 fun o e=>ka _ o D.i1z e) (V6 t1 fun o e=>ka _ o D.l1z e) hx fun hb c kb hc=>?_))));have zb:IsZip hb z TI TO .ellipsis:=kb _ _ D.i1z.symm za';have nz:=apart zb hc;obtain⟨o,eo,co⟩:=hc;exact xE zb (by simp) fun hd _ sd=>q hd c (fun d o' n _ n2 _ e=>sd.extBut d o' n (kb d o' n2 (ka d o' n e))) ⟨o,sd.extBut _ _ nz eo,co⟩
 | some x=>
  have hy:ys[k2]? =none:=hend.resolve_left (by rw[hx];exact fun n=>nomatch n)
  refine zA (zA (wpAny_onRaise (zA (m:=Builtin.SmallTypes.nextOf (.ref i1)) (R7 (A1 h1 fun o e=>ka _ o D.i1z e) (V6 t1 fun o e=>ka _ o D.l1z e) hx fun hb ib sb=>zB ?_))));have kb:∀c o,c≠z->c≠i1->s.heap.get? c=some o->hb.get? c=some o:=fun c o n n1 e=>sb.extBut c o n1 (ka c o n e);have ob:IsPair hb TO a b:=kb _ _ D.TOz D.TOi1 hTO;refine zA (xB ob rfl (zA (wpAny_updateSeq_pair ob fun hc oc sc=>?_)));have kc:∀c o,c≠z->c≠i1->c≠TO->s.heap.get? c=some o->hc.get? c=some o:=fun c o n n1 n2 e=>sc.extBut c o n2 (kb c o n n1 e);refine zA (wpAny_letGo (zB ?_));refine zA (zA (wpAny_onRaise (zA (m:=Builtin.SmallTypes.nextOf (.ref i2)) (a1r hh (A1 h2 fun o e=>kc _ o D.i2z D.i12.symm D.TOi2.symm e) (V6 t2 fun o e=>kc _ o D.l2z D.l2i1 D.l2TO e) hy fun hd c kd hc'=>?_))));have zd:IsZip hd z TI TO .ellipsis:=kd _ _ D.i2z.symm (sc.extBut _ _ D.TOz.symm (sb.extBut _ _ D.i1z.symm za'));have nz:=apart zd hc';obtain⟨o,eo,co⟩:=hc';exact xE zd (by simp) fun hf _ sf=>q hf c (fun d o' n n1 n2 n3 e=>sf.extBut d o' n (kd d o' n3 (kc d o' n n2 n1 e))) ⟨o,sf.extBut _ _ nz eo,co⟩
theorem a3G {Q:Option Value->Shared->Prop}(D:ZipApart z TI TO i1 i2 l1 l2)(hz:IsZip s.heap z TI TO .none)(hTI:IsPair s.heap TI (.ref i1) (.ref i2))(hTO:IsPair s.heap TO a b)
  (h1:SIt c1 s.heap i1 l1 k1) (h2:SIt c2 s.heap i2 l2 k2) (t1:SSq c1 s.heap l1 xs) (t2:SSq c2 s.heap l2 ys) (hx:xs[k1]? =some x) (hy:ys[k2]? =some y)
  (q:∀h',IsZip h' z TI TO (rawInt s.heap.objs.size)->IsPair h' TO x y->SIt c1 h' i1 l1 (k1+1)->SIt c2 h' i2 l2 (k2+1)->IsPair h' s.heap.objs.size x y->h'.objs.size=s.heap.objs.size+1->
   (∀c o,c≠z->c≠TO->c≠i1->c≠i2->s.heap.get? c=some o->h'.get? c=some o)->Q (some (.ref s.heap.objs.size)) {s with heap:=h'}):
  wpAny (model prog w) A (pyNext (.ref z)) Q E s:=by
 have T:s.TypeIs (.ref z) "zip":=⟨_,hz,rfl⟩;unfold pyNext
 exact zA (wpAny_attempt (qJ (name:=Str.ofString "__next__") T F.slot_zip_next
  (qR F.slot_zip_next T F.entry_zip_next (a5M D hz hTI hTO h1 h2 t1 t2 hx hy fun h' b1 b2 b3 b4 b5 b6 b7=>zB (q h' b1 b2 b3 b4 b5 b6 b7)) (F.args_zip_next_1 _))))
theorem a5L {Q:Option Value->Shared->Prop}(hh:A.handled=none)(D:ZipApart z TI TO i1 i2 l1 l2)(hz:IsZip s.heap z TI TO .none)(hTI:IsPair s.heap TI (.ref i1) (.ref i2))(hTO:IsPair s.heap TO a b)
  (h1:SIt c1 s.heap i1 l1 k1) (h2:SIt c2 s.heap i2 l2 k2) (t1:SSq c1 s.heap l1 xs) (t2:SSq c2 s.heap l2 ys) (hend:xs[k1]? =none\/ys[k2]? =none)
  (q:∀h',(∀c o,c≠z->c≠TO->c≠i1->c≠i2->s.heap.get? c=some o->h'.get? c=some o)->Q none {s with heap:=h'}):wpAny (model prog w) A (pyNext (.ref z)) Q E s:=by
 have T:s.TypeIs (.ref z) "zip":=⟨_,hz,rfl⟩;unfold pyNext;refine zA (wpAny_attempt (qJ (name:=Str.ofString "__next__") T F.slot_zip_next (qR F.slot_zip_next T F.entry_zip_next (a6K hh D hz hTI hTO h1 h2 t1 t2 hend fun h' c kp hc=>?_) (F.args_zip_next_1 _))));obtain⟨o,eo,co⟩:=hc;exact zA (wpAny_isInstance (T:="StopIteration") (b:=true) ⟨o,eo,co⟩ isSubtype_stop (zB (q _ kp)))
abbrev zp1 (b:Bool) (h:Heap) (l:Addr):Heap:=h.push {cls:=.type (itN b),data:=.fields #[.ref l,.int 0 0]}
abbrev zp3 (c1 c2:Bool) (h:Heap) (l m:Addr):Heap:=(zp1 c2 (zp1 c1 h l) m).push {cls:=.type "tuple",data:=.seq #[.ref h.objs.size,.ref (zp1 c1 h l).objs.size]}
abbrev zp4 (c1 c2:Bool) (h:Heap) (l m:Addr):Heap:=(zp3 c1 c2 h l m).push {cls:=.type "tuple",data:=.seq #[.none,.none]}
abbrev zp5 (c1 c2:Bool) (h:Heap) (l m:Addr):Heap:=(zp4 c1 c2 h l m).push {cls:=.type "zip",data:=.fields #[.none,.bool false,.bool false,.ref (zp1 c2 (zp1 c1 h l) m).objs.size,.ref (zp3 c1 c2 h l m).objs.size]}
theorem a6X (c1 c2:Bool)(l m:Addr)(xs ys:Array Value):Meets (Builtin.«zip.__new__» ⟨[.type "zip",.ref l,.ref m],[]⟩) (fun _ R s=>SSq c1 s.heap l xs/\SSq c2 s.heap m ys/\R (.ok (.ret (.ref (zp4 c1 c2 s.heap l m).objs.size))) {s with heap:=zp5 c1 c2 s.heap l m}):=
 .of_wp fun prog w A R s hh=>by
  obtain⟨hp,g,d,tk,os⟩:=s;obtain⟨p1,p2,hr⟩:=hh;have hsub:=sub_zip;have q1:SSq c1 (Shared.heap ⟨hp,g,d,tk,os⟩) l xs:=p1;have q2:SSq c2 (Shared.heap ⟨zp1 c1 hp l,g,d,tk,os⟩) m ys:=V6 p2 fun o e=>zD _ e
  wp_walk using iterS q1,iterS q2
  exact⟨_,rfl,hr⟩
theorem a5t {Q:Value->Shared->Prop}(p1:SSq c1 s.heap l1 xs)(p2:SSq c2 s.heap l2 ys)
  (q:∀h',IsZip h' (s.heap.objs.size+4) (s.heap.objs.size+2) (s.heap.objs.size+3) .none->IsPair h' (s.heap.objs.size+2) (.ref s.heap.objs.size) (.ref (s.heap.objs.size+1))->IsPair h' (s.heap.objs.size+3) .none .none->
   SIt c1 h' s.heap.objs.size l1 0->SIt c2 h' (s.heap.objs.size+1) l2 0->(∀c o,s.heap.get? c=some o->h'.get? c=some o)->Q (.ref (s.heap.objs.size+4)) {s with heap:=h'}):
  wpAny (model prog w) A (call (.type "zip") [.ref l1,.ref l2]) Q E s:=by
 refine callType_new F.called_zip (by decide) (F.typeCall_zip_2 _ _) (F.newCall_zip_2 _ _) (fun obj=>F.args_object_init_3 obj _ _) F.entry_zip_new (a6X c1 c2 l1 l2 xs ys) ⟨p1,p2,?_⟩
 have n1:(zp1 c1 s.heap l1).objs.size=s.heap.objs.size+1:=size_push ..;have n2:(zp1 c2 (zp1 c1 s.heap l1) l2).objs.size=s.heap.objs.size+2:=by rw[size_push,n1]
 have n3:(zp3 c1 c2 s.heap l1 l2).objs.size=s.heap.objs.size+3:=by rw[size_push,n2]
 have n4:(zp4 c1 c2 s.heap l1 l2).objs.size=s.heap.objs.size+4:=by rw[size_push,n3]
 have up:∀{h:Heap} {c:Addr} {o p:PySem.Obj},h.get? c=some o->(h.push p).get? c=some o:=fun e=>zD _ e;have r5:(zp5 c1 c2 s.heap l1 l2).get? (zp4 c1 c2 s.heap l1 l2).objs.size=some _:=zW _ rfl;have r4:(zp5 c1 c2 s.heap l1 l2).get? (zp3 c1 c2 s.heap l1 l2).objs.size=some _:=up (zW _ rfl);have r3:(zp5 c1 c2 s.heap l1 l2).get? (zp1 c2 (zp1 c1 s.heap l1) l2).objs.size=some _:=up (up (zW _ rfl));have r2:(zp5 c1 c2 s.heap l1 l2).get? (zp1 c1 s.heap l1).objs.size=some _:=up (up (up (zW _ rfl)));have r1:(zp5 c1 c2 s.heap l1 l2).get? s.heap.objs.size=some _:=up (up (up (up (zW _ rfl))));rw[n2,n3,n4] at r5;rw[n1,n2] at r3;rw[n3] at r4;rw[n1] at r2;show _/\_;rw[n4];exact⟨⟨_,r5,rfl⟩,q _ r5 r3 r4 (a5e r1) (a5e r2) fun c o e=>up (up (up (up (up e))))⟩
end
theorem a1N {xs:List V}{us:List Value}{i:Nat}(r:Vals xs us)(e:xs[i]? =none):us.toArray[i]? =none:=by
 have:=r.length
 rw[xL] at e;rw[List.getElem?_toArray,xL];walk_at "o"
def ItzT (c1 c2:Bool) (K:PySem.W.Frag) (l1 l2:Addr):It:=
 ⟨fun i H=>∃xs ys x y,SqK c1 K H l1 xs/\SqK c2 K H l2 ys/\xs[i]? =some x/\ys[i]? =some y,
  fun i H v H'=>∃T x y,v= .ref T/\H T=none/\H'=upd H T (.tup [x,y])/\(∀xs,SqK c1 K H l1 xs->xs[i]? =some x)/\∀ys,SqK c2 K H l2 ys->ys[i]? =some y,
  fun i H=>∃xs ys,SqK c1 K H l1 xs/\SqK c2 K H l2 ys/\(xs[i]? =none\/ys[i]? =none)⟩
def zipTt (c1 c2:Bool) (z TI TO i1 i2 l1 l2:Addr) (i:Nat) (h:Heap):Prop:=IsZip h z TI TO .none/\IsPair h TI (.ref i1) (.ref i2)/\(∃a b,IsPair h TO a b)/\SIt c1 h i1 l1 i/\SIt c2 h i2 l2 i
theorem a55 {P:Program}{w:World}{K:PySem.W.Frag}{es:List Expr}{kt:Nat}{pt:Pos}{c1 c2:Bool}{z TI TO i1 i2 l1 l2:Addr}(D:ZipApart z TI TO i1 i2 l1 l2):
  Turn P w K (.Tuple es kt pt) (ItzT c1 c2 K l1 l2) [z,TI,TO,i1,i2] z (zipTt c1 c2 z TI TO i1 i2 l1 l2) where
 mem:=by simp
 obj:=fun i h st b hb=>by
  obtain⟨hz,hTI,⟨a,b',hTO⟩,s1,s2⟩:=st;obtain⟨o1,e1,d1⟩:=O1 s1;obtain⟨o2,e2,d2⟩:=O1 s2;simp only[zK,yD,or_false] at hb;rcases hb with rfl|rfl|rfl|rfl|rfl
  ·exact⟨_,hz,fun v z=>nomatch z⟩
  ·exact⟨_,hTI,fun v z=>nomatch z⟩
  ·exact⟨_,hTO,fun v z=>nomatch z⟩
  ·exact⟨_,e1,d1⟩
  ·exact⟨_,e2,d2⟩
 keep:=fun i h h' st k=>by
  obtain⟨hz,hTI,⟨a,b',hTO⟩,h1,h2⟩:=st;exact⟨k z (by simp) _ hz,k TI (by simp) _ hTI,⟨a,b',k TO (by simp) _ hTO⟩,A1 h1 fun o e=>k i1 (by simp) o e,A1 h2 fun o e=>k i2 (by simp) o e⟩
 item:=by
  intro X hP hw hK hc i pins s σ H E I hf st hg;subst hP hw hK;obtain⟨xs,ys,x,y,q1,q2,ex,ey⟩:=hg;obtain⟨its1,r1,p1⟩:=sqk I q1;obtain⟨its2,r2,p2⟩:=sqk I q2;obtain⟨u,hu,ru⟩:=r1.get ex;obtain⟨v,hv,rv⟩:=r2.get ey;obtain⟨hz,hTI,⟨a,b,hTO⟩,h1,h2⟩:=st;have l1:∀{c o},s.heap.get? c=some o->c≠s.heap.objs.size:=fun e=>zY (zX e);refine a3G D hz hTI hTO h1 h2 p1 p2 (x:=u) (y:=v) (by simpa using hu) (by simpa using hv) fun h' a1 a2 a3 a4 a5 a6 hk=>⟨_,rfl,?_⟩
  refine wpAny_letOwnedTupleGo_zip a1 fun h2' b1 b2=>?_;have ez:z<s.heap.objs.size:=zX hz;have nT:s.heap.objs.size≠z:=Nat.ne_of_gt ez;have kp:∀c o,c∉[z,TI,TO,i1,i2]->s.heap.get? c=some o->h2'.get? c=some o:=fun c o hc e=>by
   simp only[zK,yD,or_false,not_or] at hc;exact(b2.2 c hc.1).trans (hk c o hc.1 hc.2.2.1 hc.2.2.2.1 hc.2.2.2.2 e)
  have fr:H s.heap.objs.size=none:=I.hok.fresh (zF _);have tr:∀c w,H c=some w->c∉[z,TI,TO,i1,i2]:=fun c w e hc=>by rw[(hf c hc).1] at e;cases e
  have st':zipTt c1 c2 z TI TO i1 i2 _ _ (i+1) h2':=⟨b1,(b2.2 _ D.TIz).trans (hk _ _ D.TIz D.TITO D.TIi1 D.TIi2 hTI),⟨_,_,(b2.2 _ D.TOz).trans a2⟩,A1 a3 fun o e=>(b2.2 _ D.i1z).trans e,A1 a4 fun o e=>(b2.2 _ D.i2z).trans e⟩;have five:∀c∈[z,TI,TO,i1,i2],∃o,h2'.get? c=some o:=fun c hc=>by
   obtain⟨q1,q2,⟨_,_,q3⟩,s4,s5⟩:=st';obtain⟨_,q4,_⟩:=O1 s4;obtain⟨_,q5,_⟩:=O1 s5;simp only[zK,yD,or_false] at hc;rcases hc with rfl|rfl|rfl|rfl|rfl
   ·exact⟨_,q1⟩
   ·exact⟨_,q2⟩
   ·exact⟨_,q3⟩
   ·exact⟨_,q4⟩
   ·exact⟨_,q5⟩
  have hb5:h2'.get? s.heap.objs.size=some {cls:=.type "tuple",data:=.seq #[u,v]}:=(b2.2 _ nT).trans a5
  have un:Un (frs X.stack) [z,TI,TO,i1,i2] H (upd H s.heap.objs.size (.tup [x,y])) s.heap h2':=⟨fun c o e n hfs hx=>kp c o hx e,fun c o e n hfs hx=>⟨o.slots,kp c o hx e⟩,fun c o e n hx=>by rw[c7 (l1 e)];exact n,fun c o e hx=>⟨o,kp c o hx e⟩,
   fun c ws e=>by rw[c7 (l0 e fr)];exact e,fun c o w e=>by rw[c7 (l0 e fr)];exact e,fun c ps e=>⟨#[],by rw[c7 (l0 e fr),e];simp⟩⟩
  have hok:HOk X.prog X.w (upd H s.heap.objs.size (.tup [x,y])) h2':=fun c w e=>by
   by_cases hc:c=s.heap.objs.size
   ·subst hc;rw[j9] at e;cases e;exact⟨by show 2<=sizeLine;rw[jO];decide,[u,v],.cons ru (.cons rv .nil),⟨_,hb5,rfl,⟨_,rfl⟩,rfl⟩⟩
   ·rw[c7 hc] at e
    refine(I.hok c w e).stay (fun c' o hc' e'=>kp c' o (by
     rcases hc' with rfl|hc'
     ·exact tr _ _ e
     ·exact tr _ _ hc') e') (fun c' q=>by rw[c7 (l0 q fr)];exact q) fun c' ws q=>by rw[c7 (l0 q fr)];exact q
  have I1:Inv X pins σ (upd H s.heap.objs.size (.tup [x,y])) {s with heap:=h2'}:=I.call' (s':={s with heap:=h2'}) (ch:=[z,TI,TO,i1,i2]) rfl un hok I.bare fun c hc=>⟨(hf c hc).2.2.2.1,(hf c hc).2.1,(hf c hc).2.2.2.2.1,(hf c hc).2.2.2.2.2⟩
  exact⟨.ref s.heap.objs.size,_,I1,rfl,⟨_,x,y,rfl,fr,rfl,fun ws hw=>by rw[a4Q I hw q1];exact ex,fun ws hw=>by rw[a4Q I hw q2];exact ey⟩,st',fun c hc=>by
   obtain⟨o,e⟩:=five c hc
   have:c≠s.heap.objs.size:=fun z=>by
    subst z
    have:=(hf _ hc)
    obtain⟨q1,q2,⟨_,_,q3⟩,s4,s5⟩:=(⟨hz,hTI,⟨a,b,hTO⟩,h1,h2⟩:zipTt c1 c2 z TI TO i1 i2 _ _ i s.heap);obtain⟨_,q4,_⟩:=O1 s4;obtain⟨_,q5,_⟩:=O1 s5;simp only[zK,yD,or_false] at hc;rcases hc with rfl|rfl|rfl|rfl|rfl
    ·exact l1 q1 rfl
    ·exact l1 q2 rfl
    ·exact l1 q3 rfl
    ·exact l1 q4 rfl
    ·exact l1 q5 rfl
   rw[c7 this];exact(hf c hc).1⟩
 done:=by
  intro X hP hw hK hc i pins s σ H E I hf st hg;subst hP hw hK;obtain⟨xs,ys,q1,q2,hend⟩:=hg;obtain⟨its1,r1,p1⟩:=sqk I q1;obtain⟨its2,r2,p2⟩:=sqk I q2;obtain⟨hz,hTI,⟨a,b,hTO⟩,h1,h2⟩:=st;refine a5L (I.ok.hd hc) D hz hTI hTO h1 h2 p1 p2 (hend.imp (a1N r1) (a1N r2)) fun h' hk=>⟨rfl,?_⟩;have kp:∀c o,c∉[z,TO,i1,i2]->s.heap.get? c=some o->h'.get? c=some o:=fun c o hc e=>by
   simp only[zK,yD,or_false,not_or] at hc;exact hk c o hc.1 hc.2.1 hc.2.2.1 hc.2.2.2 e
  have sub:∀c∈[z,TO,i1,i2],c∈[z,TI,TO,i1,i2]:=fun c hc=>by simp at hc ⊢;rcases hc with h|h|h|h<;>simp[h]
  have un:Un (frs X.stack) [z,TO,i1,i2] H H s.heap h':=⟨fun c o e n hfs hx=>kp c o hx e,fun c o e n hfs hx=>⟨o.slots,kp c o hx e⟩,fun c o e n hx=>n,fun c o e hx=>⟨o,kp c o hx e⟩,fun c ws e=>e,fun c o w e=>e,fun c ps e=>⟨#[],by rw[e];simp⟩⟩
  have tr:∀c w,H c=some w->c∉[z,TO,i1,i2]:=fun c w e hc=>by rw[(hf c (sub c hc)).1] at e;cases e
  have hok:HOk X.prog X.w H h':=fun c w e=>(I.hok c w e).stay (fun c' o hc' e'=>kp c' o (by
   rcases hc' with rfl|hc'
   ·exact tr _ _ e
   ·exact tr _ _ hc') e') (fun _ q=>q) fun _ _ q=>q
  exact I.call' (s':={s with heap:=h'}) (ch:=[z,TO,i1,i2]) rfl un hok I.bare fun c hc=>⟨(hf c (sub c hc)).2.2.2.1,(hf c (sub c hc)).2.1,(hf c (sub c hc)).2.2.2.2.1,(hf c (sub c hc)).2.2.2.2.2⟩
 self:=fun _ _ _ _ _ st h=>wpAny_pyIter_zip st.1 h
def kd:D->Bool
 | .lst _=>true
 | _=>false
theorem a2g {K:PySem.W.Frag}{A:Av}{H:Hp}{d:D}{v:V}{xs:List D}(e:items d=some xs)(h:Den K A H d v):∃a vs,v= .ref a/\SqK (kd d) K H a vs/\DenL K A H xs vs:=by
 cases d with
 | tup zs=>cases e;rw[Den] at h;exact h
 | lst zs=>cases e;obtain⟨a,vs,e,hq,l⟩:=B3 h;exact⟨a,vs,e,hq,l⟩
 | _=>cases e
section
variable {X:Cx}{a b:Expr}{p pos:Pos}{fa:FA}{es:List Expr}{kt:Nat}{pt:Pos}
def iZip (K:PySem.W.Frag) (ta:TA):TI:=fun σ H R=>ta σ H fun vs H1=>∃c1 c2 l1 l2,vs=[.ref l1,.ref l2]/\(∃xs,SqK c1 K H1 l1 xs)/\(∃ys,SqK c2 K H1 l2 ys)/\R (ItzT c1 c2 K l1 l2) H1
theorem b1P {ta:TA}(hg:Gl X "zip")(hm:X.mg "zip"=none)(ha:PA X [a,b] ta)(hs:starEach [a,b] X.env=(false,eval a X.env)::starEach [b] X.env:=by rfl)(hpl:(backTo pos (starEach [b] X.env)).any (·.1)=false:=by rfl)(hbt:bootBuiltins "zip"=some (.type "zip"):=by rfl):
  PI X (.Tuple es kt pt) (.Call (.Name "zip" p) [a,b] [] pos) (iZip X.K ta):=by
 intro pins s σ H R I h;refine Call_ (K8 I hg hm hbt (jD (thn (ha pos pins s σ H _ I h) fun us s1 ⟨vs,H1,I1,r1,q1⟩=>?_) hs hpl) (by decide) (by decide))
 obtain⟨c1,c2,l1,l2,rfl,⟨xs,h1⟩,⟨ys,h2⟩,q⟩:=q1;obtain⟨u1,u2,rfl,ru1,ru2⟩:=vals2 r1;cases ru1;cases ru2;obtain⟨its1,_,p1⟩:=sqk I1 h1;obtain⟨its2,_,p2⟩:=sqk I1 h2;refine a5t p1 p2 fun h' d1 d2 d3 d4 d5 d7=>?_;refine wpAny_pyIter_zip d1 ?_;refine⟨_,[s1.heap.objs.size+4,s1.heap.objs.size+2,s1.heap.objs.size+3,s1.heap.objs.size,s1.heap.objs.size+1],_,_,H1,rfl,I1.kept (t':=s1.toks) fun c o e0=>d7 c o e0,a55 (zipApart_new (a6w p1) (a6w p2)),⟨d1,d2,⟨_,_,d3⟩,d4,d5⟩,fun c hc=>?_,q⟩;have le:s1.heap.objs.size<=c:=by simp only[zK,yD,or_false] at hc;rcases hc with h|h|h|h|h<;>(rw[h];first|exact Nat.le_add_right _ _|exact zF _)
 exact I1.fpOk le (I1.hok.fresh le)
def zipD (xs ys:List D):List D:=List.zipWith (fun x y=>.tup [x,y]) xs ys
def enumD (xs:List D):List D:=xs.mapIdx fun(i:Nat) x=>.tup [.int i,x]
def fiZip (fa:FA):FI:=fun ρ=>(fa ρ).bind fun p=>(takeAll p.2 p.1).bind fun q=>match q.1 with
 | [x,y]=>(items x).bind fun xs=>(items y).map fun ys=>(zipD xs ys,q.2)
 | _=>none
def fiEnum (fa:FA):FI:=fun ρ=>(fa ρ).bind fun p=>(takeAll p.2 p.1).bind fun q=>match q.1 with
 | [x]=>(items x).map fun xs=>(enumD xs,q.2)
 | _=>none
theorem b1o (hm:X.mg "zip"=none)(ha:QA X [a,b] fa)(hg:Gl X "zip":=by rfl)(hs:starEach [a,b] X.env=(false,eval a X.env)::starEach [b] X.env:=by rfl)(hpl:(backTo pos (starEach [b] X.env)).any (·.1)=false:=by rfl)(hbt:bootBuiltins "zip"=some (.type "zip"):=by rfl):
  QI X (.Tuple es kt pt) (.Call (.Name "zip" p) [a,b] [] pos) (fiZip fa):=⟨PI.weak (b1P hg hm ha.to hs hpl hbt) fun σ H R h0=>tIe h0 fun P O L ρ xs ρ' r e q=>by
 unfold fiZip at e;obtain⟨⟨ws,ρ1⟩,e1,e⟩:=obs e;dsimp only at e;obtain⟨⟨ds,ρ2⟩,e2,e⟩:=obs e;dsimp only at e;split at e
 ·rename_i x y;cases e3:items x with
  | none=>rw[e3] at e;cases e
  | some xs'=>
   cases e4:items y with
   | none=>rw[e3,e4] at e;cases e
   | some ys'=>
    rw[e3,e4] at e;cases e;refine⟨P,O,L,ρ,ws,ρ1,r,e1,fun vs H1 r1 l1=>?_⟩;obtain⟨r2,l2,_⟩:=k8 r1 e2 l1;obtain⟨v,u,rfl,hv,hu⟩:=denL2 l2;obtain⟨a1,vs1,rfl,s1,m1⟩:=a2g e3 hv;obtain⟨a2,vs2,rfl,s2,m2⟩:=a2g e4 hu;have r3:=(r2.more (p:=(y,.ref a2)) hu).more (p:=(x,.ref a1)) hv;refine⟨kd x,kd y,a1,a2,rfl,⟨vs1,s1⟩,⟨vs2,s2⟩,q _ H1 _ r3 (fun p hp=>zJ _ (zJ _ hp)) fun Y O' L' ρ' σ' Hh hY rr=>?_⟩;have z1:=rr.prot _ zG;have z2:=rr.prot _ (zJ _ zG);rw[hY] at z1 z2;obtain⟨b1,ws1,ev1,q1,n1⟩:=a2g e3 z1;obtain⟨b2,ws2,ev2,q2,n2⟩:=a2g e4 z2;cases ev1;cases ev2;refine⟨fun i z ez=>?_,ws1,ws2,q1,q2,?_⟩
    ·unfold zipD at ez;rw[List.getElem?_zipWith] at ez;cases g1:xs'[i]? with
     | none=>rw[g1] at ez;cases ez
     | some x0=>
      cases g2:ys'[i]? with
      | none=>rw[g1,g2] at ez;cases ez
      | some y0=>
       rw[g1,g2] at ez;cases ez;obtain⟨v1,k1,t1⟩:=t8 n1 g1;obtain⟨v2,k2,t2⟩:=t8 n2 g2;refine⟨⟨ws1,ws2,v1,v2,q1,q2,k1,k2⟩,fun w H' ⟨T,x1,y1,ew,hT,eH,f1,f2⟩=>?_⟩;subst ew eH;have g3:=f1 ws1 q1;have g4:=f2 ws2 q2;rw[k1] at g3;cases g3;rw[k2] at g4;cases g4;have sm:=j4 hT (.tup [v1,v2]);refine⟨sm,?_⟩;rw[Den];exact⟨T,[v1,v2],rfl,.inl (.inl j9),g7 (S1 sm t1) (g7 (S1 sm t2) j3)⟩
    ·have k1:=b8 n1;have k2:=b8 n2;unfold zipD;rw[List.length_zipWith,xL,xL];walk_at "o"
 ·cases e⟩
end
section
variable {X:Cx}{a b e e' o:Expr}{es:List Expr}{pos p p2 p3:Pos}{f h:FX}{t u:FT}{fa:FA}
theorem a2A:CallR X (.builtin "divmod") (fun xs H Q=>∃i j:Int,xs=[.int i,.int j]/\dOk j/\∀l,H l=none->Q (.ref l) (upd H l (.tup [.int (i/j),.int (i%j)]))):=by
 intro pins s σ H xs us Q I r h;obtain⟨i,j,rfl,hj,q⟩:=h;obtain⟨u,u',rfl,r1,r2⟩:=vals2 r;obtain⟨t,rfl⟩:=r1;obtain⟨t',rfl⟩:=r2;have e1:i.fdiv j=i/j:=Int.fdiv_eq_ediv_of_nonneg i (Int.le_of_lt hj.1);have e2:i.fmod j=i%j:=Int.fmod_eq_emod_of_nonneg i (Int.le_of_lt hj.1);refine divmod_int (Int.ne_of_gt hj.1) ?_ (.inl (PyProof.noPylong_of_log2 ?_))
 ·rw[e1,e2];have I2:Inv X pins σ (upd H s.heap.objs.size (.tup [.int (i/j),.int (i%j)])) {s with heap:=s.heap.push {cls:=.type "tuple",data:=.seq #[.int (i/j) s.toks,.int (i%j) (s.toks+1)]},toks:=s.toks+1+1}:=
   I.laid (fun b o e=>zD _ e) (zF _) (show ObjOk X.prog X.w _ _ _ (.tup [.int (i/j),.int (i%j)]) from⟨by rw[jO];show 2<=16777216;decide,[.int (i/j) s.toks,.int (i%j) (s.toks+1)],.cons ⟨_,rfl⟩ (.cons ⟨_,rfl⟩ .nil),TupN.new _ _⟩)
  exact⟨.ref s.heap.objs.size,_,I2,rfl,q _ (I.hok.fresh (zF _))⟩
 ·by_cases z:j.natAbs=0
  ·rw[z];decide
  ·exact zI ((Nat.log2_lt z).mpr (show j.natAbs<2^8000 from hj.2)) (by decide)
def gDivmod:List D->Option W
 | [.int i,.int j]=>if dOk j then some (.v (.tup [.int (i/j),.int (i%j)])) else none
 | _=>none
theorem a5y:PrA X gDivmod (fun xs H Q=>∃i j:Int,xs=[.int i,.int j]/\dOk j/\∀l,H l=none->Q (.ref l) (upd H l (.tup [.int (i/j),.int (i%j)]))):=fun A ds w vs H Q _ e l q=>by
 unfold gDivmod at e;split at e
 ·rename_i i j;split at e
  ·rename_i hj;cases e;obtain⟨v,v',rfl,h1,h2⟩:=denRL2 l;exact⟨i,j,by rw[g8 h1,g8 h2],hj,fun l hl=>q _ _ (j4 hl _) (F0 hl (B7 [i/j,i%j]))⟩
  ·cases e
 ·cases e
theorem a5D (hm:X.mg "divmod"=none)(ha:QA X (e::es) fa)(hv:bootBuiltins "divmod"=some (.builtin "divmod"):=by rfl)(hg:Gl X "divmod":=by rfl)
  (he:starEach (e::es) X.env=(false,eval e X.env)::starEach es X.env:=by rfl) (hpl:(backTo pos (starEach es X.env)).any (·.1)=false:=by rfl):QX X (.Call (.Name "divmod" p) (e::es) [] pos) (fCall gDivmod fa):=a0r a2A a5y hv hm ha hg (by decide) (by decide) he hpl
theorem a3N {acc:Array Value}{n:Nat}(h:ItemsOf (fun i v=>∃t,v= .int (0+(i:Int)*1) t) acc n):Vals (((List.range n).map fun(i:Nat)=>(i:Int)).map V.int) acc.toList:=by
 have key:∀(l:List Value) (k:Nat),(∀i v,l[i]? =some v->∃t,v=Value.int ((k+i:Nat):Int) t)->Vals (((List.range' k l.length).map fun i=>((i:Nat):Int)).map V.int) l:=by
  intro l
  induction l with
  | nil=>intro k _;exact .nil
  | cons v l ih=>
   intro k hv;rw[qC,List.range'_succ,zH,zH];refine .cons ?_ (ih (k+1) fun i u e=>?_)
   ·obtain⟨t,e⟩:=hv 0 v rfl;exact⟨t,e⟩
   ·obtain⟨t,e'⟩:=hv (i+1) u (by simpa using e)
    exact⟨t,by rw[e'];congr 2;walk_at "o"⟩
 have z:=key acc.toList 0 fun i v e=>by
  obtain⟨t,ev⟩:=h.2 i v (by rw[<-Array.getElem?_toList];exact e)
  exact⟨t,by rw[ev];congr 1;walk_at "o"⟩
 rw[List.range_eq_range'];rw[qZ,h.1] at z;exact z
def fListR (fa:FA):FX:=fun ρ=>(fa ρ).bind fun p=>match p.1 with
 | [.v (.int n)]=>if 0<=n/\n<=1000 then some (.o (.lst (rngD 0 n.toNat)),p.2) else none
 | _=>none
theorem a6e (n:Nat):rngD 0 n=((List.range n).map fun(i:Nat)=>(i:Int)).map D.int:=by
 unfold rngD;rw[qS];apply jG;intro i _;simp
theorem a8x (hc:X.calm=true)(hmL:X.mg "list"=none)(hmR:X.mg "range"=none)(ha:QA X [a] fa)(hbL:bootBuiltins "list"=some (.type "list"):=by rfl)(hgL:Gl X "list":=by rfl)(hgR:Gl X "range":=by rfl)
  (h1:starEach [.Call (.Name "range" p2) [a] [] p3] X.env=[(false,eval (.Call (.Name "range" p2) [a] [] p3) X.env)]:=by rfl) (h2:starEach [a] X.env=[(false,eval a X.env)]:=by rfl):
  QX X (.Call (.Name "list" p) [.Call (.Name "range" p2) [a] [] p3] [] pos) (fListR fa):=⟨fun pins s σ H Q I h0=>tXe h0 fun P O L ρ w ρ' rp e q=>by
 unfold fListR at e;obtain⟨⟨ws,ρ1⟩,e1,e⟩:=obs e;dsimp only at e;split at e
 ·rename_i n;split at e
  ·rename_i hn;cases e;refine xW (K8 I hgL hmL hbL ?_ (by decide) (by decide))
   refine jD ?_ h1 rfl;rw[h1];refine Calls.spliced_cons ?_;refine xW (K8 I hgR hmR boot_range ?_ (by decide) (by decide))
   refine jD (zR (ha.to p3 pins s σ H (fun vs H1=>Rep X P O L ρ' σ H1/\vs=[.int n]) I ⟨P,O,L,ρ,_,_,rp,e1,fun vs H1 r1 l1=>⟨r1,?_⟩⟩) (fun us s1 ⟨vs,H1,I1,r1,rp1,l1⟩=>?_) fun _ _ z=>z) h2 rfl
   ·obtain⟨v,rs,rfl,h1,l1⟩:=l1;have l1:rs=[]:=l1;have h1:Den X.K (AvO O ρ' σ) H1 (.int n) v:=h1;subst l1;rw[v6.mp h1]
   subst l1;obtain⟨u,rfl,t,rfl⟩:=vals1 r1;refine call_range_1 (Calls.spliced_nil ?_);have I2:Inv X pins σ H1 {s1 with heap:=s1.heap.push {cls:=.type "range",data:=.fields #[.int 0 s1.toks,.int n t,.int 1 (s1.toks+1)]},toks:=s1.toks+1+1}:=I1.kept fun b o e=>zD _ e
   refine call_list_range (n:=n.toNat) (I.ok.hd hc) (IsRange.new ..) (small_one (by walk_at "o") (by walk_at "o") (by walk_at "o") (by walk_at "o")) (by rw[rangeSize_one];split<;>walk_at "o") (by walk_at "o") fun h' tk acc ep kp hl it=>?_
   have hv:=a3N it;refine⟨.ref _,_,I2.laid (t':=tk) (o:=.lst (((List.range n.toNat).map fun(i:Nat)=>(i:Int)).map V.int)) kp (zF _) ?_,rfl,q _ H1 _ rp1 (j4 (I2.hok.fresh (zF _)) _) (by rw[a6e];exact F6 (I2.hok.fresh (zF _)) (B7 _))⟩
   refine⟨?_,acc.toList,ep,hv,by rw[Array.toArray_toList];exact hl⟩
   rw[zC,zC,length_range,jO];walk_at "o"
  ·cases e
 ·cases e⟩
def fCnt (f:FX) (fa:FA):FX:=fun ρ=>(f ρ).bind fun p=>(dr p.2 p.1.fz).bind fun d=>match d with
 | .tup _=>(fa p.2).bind fun q=>(dr q.2 p.1.fz).bind fun y=>match y,q.1 with
  | .tup xs,[.v (.int i)]=>(intsOf xs).map fun ns=>(.v (.int (ns.count i:Nat)),q.2)
  | _,_=>none
 | _=>none
def fDNew:FX:=fun ρ=>some (.o (.dK [] []),ρ)
def fDNewT:FX:=fun ρ=>some (.o (.dT [] []),ρ)
theorem a9c:QX X (.Dict [] [] pos) fDNew:=⟨PE.weak a7Q fun σ H Q h0=>tXe h0 fun P O L ρ w ρ' r e q=>by
 cases e
 exact fun p hp=>q _ H _ r (j4 hp _) ⟨p,rfl,hp,[],j9,rfl,j3⟩⟩
end
section
variable {f g:FX}{t:FT}{fa:FA}{ρ ρ1 ρ2:Ev}{w z:W}{ws:List W}{d e x y:D}{xs ys:List D}{i k:Nat}{m n:Int}{b:Bool}
theorem it_t:items (.tup xs)=some xs:=rfl
theorem it_l:items (.lst xs)=some xs:=rfl
def iz2:Option (List W×Ev)->Option (List D×Ev)
 | some p=>(takeAll p.2 p.1).bind fun q=>match q.1 with
  | [x,y]=>(items x).bind fun xs=>(items y).map fun ys=>(zipD xs ys,q.2)
  | _=>none
 | none=>none
def iz3:Option (List D×Ev)->Option (List D×Ev)
 | some q=>match q.1 with
  | [x,y]=>(items x).bind fun xs=>(items y).map fun ys=>(zipD xs ys,q.2)
  | _=>none
 | none=>none
def iz4 (ρ:Ev):Option (List D)->Option (List D)->Option (List D×Ev)
 | some xs,some ys=>some (zipD xs ys,ρ)
 | _,_=>none
theorem r_iz:fiZip fa ρ=iz2 (fa ρ):=by unfold fiZip iz2;cases fa ρ<;>rfl
theorem a9C:iz2 (some (ws,ρ))=iz3 (takeAll ρ ws):=by unfold iz2 iz3;dsimp only;cases takeAll ρ ws<;>rfl
theorem a9P:iz3 (some ([x,y],ρ))=iz4 ρ (items x) (items y):=by unfold iz3 iz4;dsimp only;cases items x<;>cases items y<;>rfl
theorem b0J:iz4 ρ (some xs) (some ys)=some (zipD xs ys,ρ):=rfl
def ie2:Option (List W×Ev)->Option (List D×Ev)
 | some p=>(takeAll p.2 p.1).bind fun q=>match q.1 with
  | [x]=>(items x).map fun xs=>(enumD xs,q.2)
  | _=>none
 | none=>none
def ie3:Option (List D×Ev)->Option (List D×Ev)
 | some q=>match q.1 with
  | [x]=>(items x).map fun xs=>(enumD xs,q.2)
  | _=>none
 | none=>none
theorem r_ie:fiEnum fa ρ=ie2 (fa ρ):=by unfold fiEnum ie2;cases fa ρ<;>rfl
theorem r_ie2:ie2 (some (ws,ρ))=ie3 (takeAll ρ ws):=by unfold ie2 ie3;dsimp only;cases takeAll ρ ws<;>rfl
theorem r_ie3_t:ie3 (some ([.tup xs],ρ))=some (enumD xs,ρ):=rfl
theorem r_ie3_l:ie3 (some ([.lst xs],ρ))=some (enumD xs,ρ):=rfl
def jr1:Option (List W×Ev)->Option (List D×Ev)
 | some p=>match p.1 with
  | [.v (.int n)]=>if -(2^62)<=n/\n<2^62 then some (rngD 0 n.toNat,p.2) else none
  | _=>none
 | none=>none
def jr2:Option (List W×Ev)->Option (List D×Ev)
 | some p=>match p.1 with
  | [.v (.int m),.v (.int n)]=>if(-(2^62)<=m/\m<2^62)/\-(2^62)<=n/\n<2^62 then some (rngD m (n-m).toNat,p.2) else none
  | _=>none
 | none=>none
def lr2:Option (List W×Ev)->Option (W×Ev)
 | some p=>match p.1 with
  | [.v (.int n)]=>if 0<=n/\n<=1000 then some (.o (.lst (rngD 0 n.toNat)),p.2) else none
  | _=>none
 | none=>none
theorem r_r1:fiR1 fa ρ=jr1 (fa ρ):=by unfold fiR1 jr1;cases fa ρ<;>rfl
theorem a90:jr1 (some ([.v (.int n)],ρ))=if -(2^62)<=n/\n<2^62 then some (rngD 0 n.toNat,ρ) else none:=rfl
theorem r_r2:fiR2 fa ρ=jr2 (fa ρ):=by unfold fiR2 jr2;cases fa ρ<;>rfl
theorem a9U:jr2 (some ([.v (.int m),.v (.int n)],ρ))=if(-(2^62)<=m/\m<2^62)/\-(2^62)<=n/\n<2^62 then some (rngD m (n-m).toNat,ρ) else none:=rfl
theorem r_lr:fListR fa ρ=lr2 (fa ρ):=by unfold fListR lr2;cases fa ρ<;>rfl
theorem a9B:lr2 (some ([.v (.int n)],ρ))=if 0<=n/\n<=1000 then some (.o (.lst (rngD 0 n.toNat)),ρ) else none:=rfl
theorem r_dm (h:dOk n):gDivmod [.int m,.int n]=some (.v (.tup [.int (m/n),.int (m%n)])):=by unfold gDivmod;exact if_pos h
def cn2 (fa:FA):Option (W×Ev)->Option (W×Ev)
 | some p=>(dr p.2 p.1.fz).bind fun d=>match d with
  | .tup _=>(fa p.2).bind fun q=>(dr q.2 p.1.fz).bind fun y=>match y,q.1 with
   | .tup xs,[.v (.int i)]=>(intsOf xs).map fun ns=>(.v (.int (ns.count i:Nat)),q.2)
   | _,_=>none
  | _=>none
 | none=>none
def cn3 (fa:FA) (w:W) (ρ:Ev):Option D->Option (W×Ev)
 | some (.tup _)=>(fa ρ).bind fun q=>(dr q.2 w.fz).bind fun y=>match y,q.1 with
   | .tup xs,[.v (.int i)]=>(intsOf xs).map fun ns=>(.v (.int (ns.count i:Nat)),q.2)
   | _,_=>none
 | _=>none
def cn4 (w:W):Option (List W×Ev)->Option (W×Ev)
 | some q=>(dr q.2 w.fz).bind fun y=>match y,q.1 with
   | .tup xs,[.v (.int i)]=>(intsOf xs).map fun ns=>(.v (.int (ns.count i:Nat)),q.2)
   | _,_=>none
 | _=>none
def cn5 (ws:List W) (ρ:Ev):Option D->Option (W×Ev)
 | some y=>match y,ws with
   | .tup xs,[.v (.int i)]=>(intsOf xs).map fun ns=>(.v (.int (ns.count i:Nat)),ρ)
   | _,_=>none
 | _=>none
theorem r_cn:fCnt f fa ρ=cn2 fa (f ρ):=by unfold fCnt cn2;cases f ρ<;>rfl
theorem r_cn2:cn2 fa (some (w,ρ))=cn3 fa w ρ (dr ρ w.fz):=by
 unfold cn2 cn3;dsimp only;cases dr ρ w.fz with
 | none=>rfl
 | some d=>cases d<;>rfl
theorem r_cn3:cn3 fa w ρ (some (.tup xs))=cn4 w (fa ρ):=by unfold cn3 cn4;cases fa ρ<;>rfl
theorem r_cn4:cn4 w (some (ws,ρ))=cn5 ws ρ (dr ρ w.fz):=by unfold cn4 cn5;dsimp only;cases dr ρ w.fz<;>rfl
theorem a73:fDNew ρ=some (.o (.dK [] []),ρ):=rfl
def ch2 (o o':D->D->Option W) (g h:FX):Option (W×Ev)->Option (W×Ev)
 | some p=>fChain o o' (fun _=>some p) g h p.2
 | none=>none
def ch3 (o o':D->D->Option W) (w:W) (h:FX):Option (W×Ev)->Option (W×Ev)
 | some q=>(dr q.2 w.fz).bind fun x=>(dr q.2 q.1.fz).bind fun y=>(o x y).bind fun d=>match d with
  | .v (.bl k)=>if k=true then(h q.2).bind fun z=>(dr z.2 q.1.fz).bind fun y=>(dr z.2 z.1.fz).bind fun z'=>(o' y z').map fun w=>(w,z.2) else some (.v (.bl false),q.2)
  | _=>none
 | none=>none
def ch4 (o o':D->D->Option W) (h:FX) (w:W) (ρ:Ev):Option D->Option D->Option (W×Ev)
 | some x,some y=>(o x y).bind fun d=>match d with
  | .v (.bl k)=>if k=true then(h ρ).bind fun z=>(dr z.2 w.fz).bind fun y=>(dr z.2 z.1.fz).bind fun z'=>(o' y z').map fun w=>(w,z.2) else some (.v (.bl false),ρ)
  | _=>none
 | _,_=>none
def ch5 (o':D->D->Option W) (h:FX) (w:W) (ρ:Ev):Option W->Option (W×Ev)
 | some (.v (.bl k))=>if k=true then bin3 o' w (h ρ) else some (.v (.bl false),ρ)
 | _=>none
theorem r_ch {o o':D->D->Option W}{h:FX}:fChain o o' f g h ρ=ch2 o o' g h (f ρ):=by unfold ch2;cases e:f ρ with
 | none=>unfold fChain;rw[e];rfl
 | some p=>unfold fChain;rw[e]
theorem a9X {o o':D->D->Option W}{h:FX}:ch2 o o' g h (some (w,ρ))=ch3 o o' w h (g ρ):=by unfold ch2 ch3 fChain;dsimp only[bind_some];cases g ρ<;>rfl
theorem a9I {o o':D->D->Option W}{h:FX}:ch3 o o' w h (some (z,ρ))=ch4 o o' h z ρ (dr ρ w.fz) (dr ρ z.fz):=by
 unfold ch3 ch4;dsimp only;cases dr ρ w.fz<;>cases dr ρ z.fz<;>rfl
theorem b0C {o o':D->D->Option W}{h:FX}:ch4 o o' h w ρ (some x) (some y)=ch5 o' h w ρ (o x y):=by
 unfold ch4 ch5 bin3;dsimp only;cases o x y with
 | none=>rfl
 | some d=>
  dsimp only[bind_some];cases d with
  | v d=>cases d with
   | bl k=>cases h ρ<;>rfl
   | _=>rfl
  | _=>rfl
theorem a5d {o':D->D->Option W}{h:FX}:ch5 o' h w ρ (some (.v (.bl true)))=bin3 o' w (h ρ):=rfl
theorem a4Y {o':D->D->Option W}{h:FX}:ch5 o' h w ρ (some (.v (.bl false)))=some (.v (.bl false),ρ):=rfl
def tc2 (k:Nat) (t:FT) (fe:FX):Option Ev->Option Ev
 | some ρ1=>(t ρ1).bind fun p=>if p.1=true then(fe p.2).bind (appTo k) else some p.2
 | none=>none
def tc3 (k:Nat) (fe:FX):Option (Bool×Ev)->Option Ev
 | some p=>if p.1=true then(fe p.2).bind (appTo k) else some p.2
 | none=>none
def tc4 (k:Nat):Option (W×Ev)->Option Ev
 | some p=>appTo k p
 | none=>none
def ap2 (k:Nat):Option (List D×Ev)->Option Ev
 | some q=>match q.1,ownAt q.2 k with
  | [d],some (.lst zs)=>if zs.length<lim then some (setOwn q.2 k (.lst (zs++[d]))) else none
  | _,_=>none
 | none=>none
def ap3 (k:Nat) (d:D) (ρ:Ev):Option D->Option Ev
 | some (.lst zs)=>if zs.length<lim then some (setOwn ρ k (.lst (zs++[d]))) else none
 | _=>none
theorem r_tc {gf:FG}{fe:FX}:turnC k gf t fe d ρ=tc2 k t fe (gf d ρ):=by unfold turnC tc2;cases gf d ρ<;>rfl
theorem r_tc2 {fe:FX}:tc2 k t fe (some ρ)=tc3 k fe (t ρ):=by unfold tc2 tc3;dsimp only;cases t ρ<;>rfl
theorem r_tc3_t {fe:FX}:tc3 k fe (some (true,ρ))=tc4 k (fe ρ):=by unfold tc3 tc4;simp only[jF];cases fe ρ<;>rfl
theorem r_tc3_f {fe:FX}:tc3 k fe (some (false,ρ))=some ρ:=rfl
theorem r_tc4:tc4 k (some (w,ρ))=ap2 k (takeAll ρ [w.fz]):=by
 unfold tc4 appTo ap2;dsimp only;cases takeAll ρ [w.fz]<;>rfl
theorem r_ap2:ap2 k (some ([d],ρ))=ap3 k d ρ (ownAt ρ k):=by
 unfold ap2 ap3;dsimp only;cases ownAt ρ k with
 | none=>rfl
 | some x=>cases x<;>rfl
theorem r_ap3:ap3 k d ρ (some (.lst xs))=if xs.length<lim then some (setOwn ρ k (.lst (xs++[d]))) else none:=rfl
theorem N5 {C:Prop}{b:D->FS}{r:Option R}(e:loopF b xs ρ=r)(I:List D->Ev->Prop)(h0:I [] ρ)(st:∀d x ρ,x∈xs->d.length<xs.length->I d ρ->∃ρ',b x ρ=some (.nx ρ')/\I (d++[x]) ρ')(c:∀ρ',r=some (.nx ρ')->I xs ρ'->C):C:=by
 have key:∀(ys done:List D) (ρ:Ev),(∀y∈ys,y∈xs)->done.length+ys.length=xs.length->I done ρ->∃ρ',loopF b ys ρ=some (.nx ρ')/\I (done++ys) ρ':=by
  intro ys
  induction ys with
  | nil=>intro done ρ _ _ h;exact⟨ρ,rfl,by rw[jP];exact h⟩
  | cons y ys ih=>
   intro done ρ hm hl h;rw[qC] at hl;obtain⟨ρ1,e1,i1⟩:=st done y ρ (hm y zG) (by walk_at "o") h
   obtain⟨ρ2,e2,i2⟩:=ih (done++[y]) ρ1 (fun a ha=>hm a (zJ _ ha)) (by rw[qB,xM];walk_at "o") i1
   exact⟨ρ2,by rw[loopF,e1];exact e2,by rw[yH] at i2;exact i2⟩
 obtain⟨ρ',e',i⟩:=key xs [] ρ (fun _ h=>h) (by simp) h0
 exact c ρ' (e.symm.trans e') (by simpa using i)
theorem m4 (ns:List Int):lfL (ns.map D.int)=true:=by
 induction ns with
 | nil=>rfl
 | cons n ns ih=>rw[zH,lfL,ih];rfl
theorem U9 (m:Int)(n:Nat):(rngD m n).length=n:=by unfold rngD;simp
theorem a0e {m:Int}{n:Nat}(h:x∈rngD m n):∃i:Int,x= .int i/\m<=i/\i<m+n:=by
 unfold rngD at h;obtain⟨i,hi,rfl⟩:=zE.mp h;rw[xU] at hi;exact⟨_,rfl,by walk_at "o",by walk_at "o"⟩
theorem v3 (h:0<n)(h2:n.natAbs<2^64):dOk n:=⟨h,zI h2 (jE (by decide) (by decide))⟩
end
theorem a2K {o:Option D}:freeO (o.map W.v)=true:=by cases o<;>rfl
def isI:D->Bool
 | .int _=>true
 | .bl _=>true
 | _=>false
def isB:D->Bool
 | .bl _=>true
 | _=>false
def whole:D->Bool
 | .int _=>true
 | _=>false
theorem a8a {d:D}(h:isX d=false):oIsi "int" d=some (.v (.bl (isI d))):=by cases d<;>first|rfl|cases h
theorem a48 {d:D}(h:isX d=false):oIsi "bool" d=some (.v (.bl (isB d))):=by cases d<;>first|rfl|cases h
def rise:List Int->Bool
 | a::b::r=>decide (a<b)&&rise (b::r)
 | _=>true
def lt2:D->Bool
 | .tup [.int a,.int b]=>decide (a<b)
 | _=>false
theorem b1g {xs:List D}{i:Int}{d:D}(h:0<=i)(e:xs[i.toNat]? =some d):atI xs i=some d:=by
 have:=p6 (j:=i.toNat) e
 rwa [show((i.toNat:Nat):Int)=i by walk_at "o"] at this
theorem a11 {ns:List Int}{i:Int}(h:0<=i)(l:i<ns.length):atI (ns.map D.int) i=some (.int (ns.getD i.toNat 0)):=by
 refine b1g h ?_;rw[qH,zS,qL (by walk_at "o")]
 rfl
theorem t4:∀{xs:List D},(∀x∈xs,lf x=true)->lfL xs=true
 | [],_=>rfl
 | x::xs,h=>by rw[lfL,h x zG,t4 fun y hy=>h y (zJ _ hy)];rfl
section
variable {d:D}{ds:List D}{x0:D}{x1:D}{x2:D}{x3:D}{x4:D}{x5:D}{x6:D}{x7:D}{x8:D}{x9:D}{x10:D}{x11:D}{x12:D}
theorem a_3:atI (x0::x1::x2::d::ds) 3=some d:=p6 (j:=3) rfl
theorem a_4:atI (x0::x1::x2::x3::d::ds) 4=some d:=p6 (j:=4) rfl
theorem a_5:atI (x0::x1::x2::x3::x4::d::ds) 5=some d:=p6 (j:=5) rfl
theorem a_6:atI (x0::x1::x2::x3::x4::x5::d::ds) 6=some d:=p6 (j:=6) rfl
theorem a_7:atI (x0::x1::x2::x3::x4::x5::x6::d::ds) 7=some d:=p6 (j:=7) rfl
theorem a_8:atI (x0::x1::x2::x3::x4::x5::x6::x7::d::ds) 8=some d:=p6 (j:=8) rfl
theorem a_9:atI (x0::x1::x2::x3::x4::x5::x6::x7::x8::d::ds) 9=some d:=p6 (j:=9) rfl
theorem a_10:atI (x0::x1::x2::x3::x4::x5::x6::x7::x8::x9::d::ds) 10=some d:=p6 (j:=10) rfl
theorem a_11:atI (x0::x1::x2::x3::x4::x5::x6::x7::x8::x9::x10::d::ds) 11=some d:=p6 (j:=11) rfl
theorem a_12:atI (x0::x1::x2::x3::x4::x5::x6::x7::x8::x9::x10::x11::d::ds) 12=some d:=p6 (j:=12) rfl
theorem a_13:atI (x0::x1::x2::x3::x4::x5::x6::x7::x8::x9::x10::x11::x12::d::ds) 13=some d:=p6 (j:=13) rfl
theorem ix_0 {n:Nat}:ixN (n+1) 0=some 0:=by unfold ixN;rw[if_pos (jS _),if_pos (by walk_at "o")];rfl
end
def dkey:D->Option Key
 | .int i=>some (Sum.inl i)
 | .str x=>some (Sum.inr x)
 | _=>none
def dkeys:List D->Option (List Key)
 | []=>some []
 | d::ds=>(dkey d).bind fun k=>(dkeys ds).map fun ks=>k::ks
def tkey:D->Option (List Key)
 | .tup ds=>dkeys ds
 | _=>none
def look {κ:Type} [DecidableEq κ]:List κ->List D->κ->Option D
 | k'::ks,x::xs,k=>if k'=k then some x else look ks xs k
 | _,_,_=>none
def putKs {κ:Type} [DecidableEq κ] (ks:List κ) (k:κ):List κ:=if k∈ks then ks else ks++[k]
def putX {κ α:Type} [DecidableEq κ] (ks:List κ) (xs:List α) (k:κ) (d:α):List α:=if k∈ks then List.zipWith (fun k' x=>if k'=k then d else x) ks xs else xs++[d]
theorem a0x {K:PySem.W.Frag}{A:Av}{H:Hp}{d:D}{k:Key}{v:V}(e:dkey d=some k)(h:DenR K A H d v):v=kV k:=by
 cases d with
 | int i=>cases e;exact g8 h
 | str x=>cases e;exact a22 h
 | _=>cases e
theorem X8 {K:PySem.W.Frag}{A:Av}{H:Hp}:∀{ds:List D} {ks:List Key} {vs:List V},dkeys ds=some ks->DenL K A H ds vs->vs=ks.map kV
 | [],ks,vs,e,l=>by cases e;rw[DenL] at l;rw[l];rfl
 | d::ds,ks,vs,e,l=>by
  rw[DenL] at l;obtain⟨v,r,rfl,h,l⟩:=l;rw[dkeys] at e;cases e1:dkey d with
  | none=>rw[e1] at e;cases e
  | some k=>
   cases e2:dkeys ds with
   | none=>rw[e1,e2] at e;cases e
   | some js=>
    rw[e1,e2] at e;cases e;rw[zH,<-a0x e1 (B3 h),<-X8 e2 l]
theorem a7n {K:PySem.W.Frag}{A:Av}{H:Hp}{d:D}{k:List Key}{v:V}(e:tkey d=some k)(h:DenR K A H d v):∃b,v= .ref b/\SqT K H b (k.map kV):=by
 cases d with
 | tup ds=>
  obtain⟨b,vs,ev,hq,l⟩:=z0 h;rw[X8 e l] at hq;exact⟨b,ev,hq⟩
 | _=>cases e
theorem a00 {κ:Type} [DecidableEq κ] {K:PySem.W.Frag}{A:Av}{H:Hp}:∀{ks:List κ} {xs:List D} {vs:List V} {k:κ} {x:D},DenL K A H xs vs->look ks xs k=some x->∃v,valV (ks.zip vs) k=some v/\Den K A H x v
 | [],_,_,_,_,_,e=>by simp[look] at e
 | _::_,[],_,_,_,_,e=>by simp[look] at e
 | k'::ks,x0::xs,vs,k,x,l,e=>by
  rw[DenL] at l;obtain⟨v,r,rfl,h,l⟩:=l;simp only[look] at e;rw[jX];split at e
  ·rename_i q;cases e;exact⟨v,U7 (by simpa using q),h⟩
  ·rename_i q;rw[L4 (by simpa using q)]
   exact a00 l e
theorem X2 {κ:Type} [DecidableEq κ] {K:PySem.W.Frag}{A:Av}{H:Hp}:∀{ks:List κ} {xs:List D} {vs:List V} {k:κ},DenL K A H xs vs->ks.length=xs.length->look ks xs k=none->valV (ks.zip vs) k=none
 | [],_,_,_,_,_,_=>by simp[valV]
 | _::_,[],_,_,_,hl,_=>by simp at hl
 | k'::ks,x0::xs,vs,k,l,hl,e=>by
  rw[DenL] at l;obtain⟨v,r,rfl,h,l⟩:=l;simp only[look] at e;rw[jX];split at e
  ·cases e
  ·rename_i q;rw[L4 (by simpa using q)]
   exact X2 l (by simpa using hl) e
theorem a3b {κ:Type} [DecidableEq κ]:∀{ks:List κ} {xs:List D} {k:κ},ks.length=xs.length->(look ks xs k).isSome=decide (k∈ks)
 | [],_,_,_=>by simp[look]
 | _::_,[],_,hl=>by simp at hl
 | k'::ks,x::xs,k,hl=>by
  rw[look]
  by_cases q:k'=k
  ·rw[if_pos q];simp[q]
  ·have q2:¬k=k':=fun z=>q z.symm;rw[if_neg q,a3b (by simpa using hl)];simp[q2]
theorem a4d {κ:Type} [DecidableEq κ]:∀{ks:List κ} {vs:List V} {k:κ},ks.length=vs.length->((ks.zip vs).any fun kv=>decide (kv.1=k))=decide (k∈ks)
 | [],_,_,_=>by simp
 | _::_,[],_,hl=>by simp at hl
 | k'::ks,v::vs,k,hl=>by
  rw[jX,any_cons,a4d (by simpa using hl)]
  by_cases q:k'=k
  ·simp[q]
  ·have q2:¬k=k':=fun z=>q z.symm;simp[q,q2]
theorem a4V {κ:Type} [DecidableEq κ] {ks:List κ}{vs:List V}{k:κ}{v:V}(hl:ks.length=vs.length):putK (ks.zip vs) k v=(putKs ks k).zip (putX ks vs k v):=by
 unfold putK putKs putX;rw[a4d hl]
 by_cases q:k∈ks
 ·rw[if_pos (by simpa using q),if_pos q,if_pos q]
  clear q
  induction ks generalizing vs with
  | nil=>simp
  | cons k' ks ih=>
   cases vs with
   | nil=>simp at hl
   | cons w vs=>
    have ih':=ih (vs:=vs) (by simpa using hl)
    rw[jX,zH,List.zipWith_cons_cons,jX,ih']
    by_cases q:k'=k
    ·simp[q]
    ·simp[q]
 ·rw[if_neg (by simpa using q),if_neg q,if_neg q,List.zip_append hl]
  rfl
theorem Y9 {κ α:Type} [DecidableEq κ] {ks:List κ}{xs:List α}{k:κ}{d:α}(hl:ks.length=xs.length):(putKs ks k).length=(putX ks xs k d).length:=by
 unfold putKs putX
 split
 ·rw[List.length_zipWith,hl];simp
 ·simp[hl]
theorem a2M {κ:Type} [DecidableEq κ] {K:PySem.W.Frag}{A:Av}{H:Hp}{ks:List κ}{xs:List D}{vs:List V}{k:κ}{d:D}{v:V}(l:DenL K A H xs vs)(h:Den K A H d v):DenL K A H (putX ks xs k d) (putX ks vs k v):=by
 unfold putX
 split
 ·rename_i q;clear q
  induction ks generalizing xs vs with
  | nil=>simp;exact j3
  | cons k' ks ih=>
   cases xs with
   | nil=>rw[DenL] at l;subst l;simp;exact j3
   | cons x xs=>
    rw[DenL] at l;obtain⟨u,r,rfl,hx,l⟩:=l;rw[List.zipWith_cons_cons,List.zipWith_cons_cons];refine g7 ?_ (ih l)
    split
    ·exact h
    ·exact hx
 ·exact p5 l (g7 h j3)
section
variable {X:Cx}{a b c e o:Expr}{es:List Expr}{pos p apos:Pos}{f g h:FX}{t u:FT}{fa:FA}{x:Str}
theorem a0a {pins:List (Addr×PySem.Obj)}{σ:L2.St}{H:Hp}{s:Shared}{b:Addr}{ks:List Key}(I:Inv X pins σ H s)(q:SqT X.K H b (ks.map kV)):(tupleKind (mixKind X.prog X.w)).is s.heap ks b:=by
 obtain⟨its,r,⟨o,h1,h2,n,h3⟩,_⟩:=I.tuple q;exact⟨o,its.toArray,n,h1,h2,h3,by simpa using W8 r⟩
def DGe (K:PySem.W.Frag) (H:Hp) (a:Addr) (y:V) (r:Option V):Prop:=
 (∃kvs k,H a=some (.dK kvs)/\y=kV k/\r=valV kvs k)\/∃kvs k b,H a=some (.dT kvs)/\y= .ref b/\SqT K H b (k.map kV)/\r=valV kvs k
def lookG (x y:D):Option (Option D):=match x with
 | .dT ks xs=>(tkey y).map fun k=>look ks xs k
 | .dK ks xs=>(dkey y).map fun k=>look ks xs k
 | _=>none
def LkOk (K:PySem.W.Frag) (A:Av) (H:Hp):Option D->Option V->Prop
 | some d,w=>∃z,w=some z/\Den K A H d z
 | none,w=>w=none
theorem X7 {A:Av}{H:Hp}{x y:D}{r:Option D}{v u:V}(e:lookG x y=some r)(hx:DenR X.K A H x v)(hy:DenR X.K A H y u):∃a w,v= .ref a/\DGe X.K H a u w/\LkOk X.K A H r w:=by
 cases x with
 | dT ks xs=>
  simp only[lookG] at e;cases e1:tkey y with
  | none=>rw[e1] at e;cases e
  | some k=>
   rw[e1] at e;obtain⟨b,rfl,hb⟩:=a7n e1 hy;obtain⟨a,vs,rfl,ha,hl,l⟩:=hx;refine⟨a,_,rfl,.inr ⟨_,k,b,ha,rfl,hb,rfl⟩,?_⟩;cases(show look ks xs k=r from qU e);cases e2:look ks xs k with
   | none=>exact X2 l hl e2
   | some d=>exact a00 l e2
 | dK ks xs=>
  simp only[lookG] at e;cases e1:dkey y with
  | none=>rw[e1] at e;cases e
  | some k=>
   rw[e1] at e;obtain⟨a,vs,rfl,ha,hl,l⟩:=hx;refine⟨a,_,rfl,.inl ⟨_,k,ha,a0x e1 hy,rfl⟩,?_⟩;cases(show look ks xs k=r from qU e);cases e2:look ks xs k with
   | none=>exact X2 l hl e2
   | some d=>exact a00 l e2
 | _=>cases e
def rIxD (K:PySem.W.Frag):R2:=fun x y H Q=>∃a v,x= .ref a/\DGe K H a y (some v)/\Q v H
theorem a9v {k:Nat}(hr:Room k X.A):IxR X (rIxD X.K):=by
 intro value slice pins s σ H x y v u Q I rx ry h hs;obtain⟨a,z,rfl,hg,q⟩:=h;cases rx;rcases hg with ⟨kvs,k,ha,rfl,hv⟩|⟨kvs,k,b,ha,rfl,hq,hv⟩
 ·obtain⟨_,hd,vs,rel,dd⟩:=a5g I.hok ha;obtain⟨w',hw,rw'⟩:=RelO.some_of (v:=z) (o:=valueAt vs k) (by rw[hv];exact rel.val k)
  refine yC (x:=w') dd.typeIs PySem.F.slot_dict_getitem.lookup ?_ hs;exact wpAny_getItem_of (a0M ry) dd.mapOf hw ⟨rfl,z,H,I.tok _,rw',q⟩
 ·cases(show u=Value.ref b from ry);obtain⟨_,hd,xs,rel,dd⟩:=a5m I.hok ha;obtain⟨w',hw,rw'⟩:=RelO.some_of (v:=z) (o:=(atKey xs k).map (·.2)) (by rw[hv];exact rel.val k)
  obtain⟨p,hp,hp2⟩:=Option.map_eq_some_iff.mp hw;refine yC (x:=w') dd.typeIs PySem.F.slot_dict_getitem.lookup ?_ hs;refine wpAny_getItem_heap (xZ (a1P hr)) (a0a I hq) dd hp ?_;rw[hp2];exact⟨rfl,z,H,I.tok _,rw',q⟩
def isDi:D->Bool
 | .dT _ _=>true
 | .dK _ _=>true
 | _=>false
def oIxG (x y:D):Option W:=if isDi x=true then(lookG x y).bind fun r=>r.map .v else oIx x y
theorem j0 {k:Nat}(hr:Room k X.A)(ha:QX X a f)(hb:QX X b g)(hs:PlainIx b:=by intro _ _;rfl):QX X (.Subscript a b pos) (fBin oIxG f g):=⟨PE.weak (pe_ix (b1y.or (a9v hr)) ha.to hb.to hs) (S8 (by
 intro A x y w v u H Q hA e hx hy q;unfold oIxG at e;split at e
 ·obtain⟨r,e1,e⟩:=obs e;obtain⟨a,w',rfl,hg,hm⟩:=X7 e1 hx hy;cases r with
  | none=>cases e
  | some d=>
   cases e;obtain⟨z,rfl,dz⟩:=hm;exact .inr ⟨a,z,rfl,hg,q z H (Same.refl H) dz⟩
 ·exact .inl (k_ix A x y w v u H Q hA e hx hy q)))⟩
def rInD (K:PySem.W.Frag) (neg:Bool):R2:=fun y x H Q=>∃a r,x= .ref a/\DGe K H a y r/\Q (.bl (if neg then !r.isSome else r.isSome)) H
theorem a7D {k:Nat}(hr:Room k X.A):OpR X (compareOp .In) (rInD X.K false):=by
 intro pins s σ H y x u v Q I ry rx h;obtain⟨a,r,rfl,hg,q⟩:=h;cases rx;rcases hg with ⟨kvs,k,e,rfl,rfl⟩|⟨kvs,k,b,e,rfl,hq,rfl⟩
 ·obtain⟨_,hd,vs,rel,dd⟩:=a5g I.hok e;refine wpAny_in_of (a0M ry) hd dd.mapOf ?_;rw[<-(rel.val k).isSome_eq];exact⟨.bl _,H,I.tok _,rfl,q⟩
 ·cases(show u=Value.ref b from ry);obtain⟨_,hd,xs,rel,dd⟩:=a5m I.hok e;refine wpAny_in_heap (xZ (a1P hr)) (a0a I hq) hd dd ?_;have z:=(rel.val k).isSome_eq;rw[isSome_map] at z;rw[<-z];exact⟨.bl _,H,I.tok _,rfl,q⟩
theorem a5G {k:Nat}(hr:Room k X.A):OpR X (compareOp .NotIn) (rInD X.K true):=by
 intro pins s σ H y x u v Q I ry rx h;obtain⟨a,r,rfl,hg,q⟩:=h;cases rx;rcases hg with ⟨kvs,k,e,rfl,rfl⟩|⟨kvs,k,b,e,rfl,hq,rfl⟩
 ·obtain⟨_,hd,vs,rel,dd⟩:=a5g I.hok e;refine wpAny_notIn_of (a0M ry) hd dd.mapOf ?_;rw[<-(rel.val k).isSome_eq];exact⟨.bl _,H,I.tok _,rfl,q⟩
 ·cases(show u=Value.ref b from ry);obtain⟨_,hd,xs,rel,dd⟩:=a5m I.hok e;refine wpAny_notIn_heap (xZ (a1P hr)) (a0a I hq) hd dd ?_;have z:=(rel.val k).isSome_eq;rw[isSome_map] at z;rw[<-z];exact⟨.bl _,H,I.tok _,rfl,q⟩
def intV:Value->Int
 | .int i _=>i
 | _=>0
def readI (h:Heap):Value->Option (List Int)
 | .ref a=>match h.get? a with
  | some o=>match o.data with
   | .seq its _=>some (its.toList.map intV)
   | _=>none
  | none=>none
 | _=>none
theorem a1w:∀{k:List Int} {its:List Value},Vals (k.map V.int) its->its.map intV=k
 | [],_,r=>by cases r;rfl
 | i::k,_,r=>by
  cases r with
  | cons r1 r2=>
   obtain⟨t,rfl⟩:=r1;rw[zH,a1w r2];rfl
theorem E9 {m:Nat}:∀(a b:List Int),deqL (deq m) (a.map D.int) (b.map D.int)=some (decide (a=b))
 | [],[]=>rfl
 | [],_::_=>rfl
 | _::_,[]=>rfl
 | x::a,y::b=>by
  have ih:=E9 (m:=m) a b;have e:deq m (.int x) (.int y)=some (x==y):=by cases m<;>rfl
  simp only[zH,deqL,e,ih,bind_some,jH];congr 1
  by_cases h:x=y
  ·simp[h]
  ·simp[h]
def tupI (k:List Int):D:=.tup (k.map D.int)
theorem a7G {m:Nat}(a b:List Int):deq (m+1) (tupI a) (tupI b)=some (decide (a=b)):=E9 a b
def tupsOf:List D->Option (List (List Int))
 | []=>some []
 | .tup ds::xs=>(intsOf ds).bind fun k=>(tupsOf xs).map fun ks=>k::ks
 | _=>none
theorem a1e:∀{ds:List D} {ks:List (List Int)},tupsOf ds=some ks->ds=ks.map tupI
 | [],ks,e=>by cases e;rfl
 | .tup d::ds,ks,e=>by
  rw[tupsOf] at e;cases e1:intsOf d with
  | none=>rw[e1] at e;cases e
  | some k=>
   cases e2:tupsOf ds with
   | none=>rw[e1,e2] at e;cases e
   | some js=>rw[e1,e2] at e;cases e;rw[zH,<-a1e e2,p4 e1];rfl
 | .non::ds,_,e=>by cases e
 | .bl _::ds,_,e=>by cases e
 | .int _::ds,_,e=>by cases e
 | .str _::ds,_,e=>by cases e
 | .lst _::ds,_,e=>by cases e
 | .dT _ _::ds,_,e=>by cases e
 | .dK _ _::ds,_,e=>by cases e
 | .exn _::ds,_,e=>by cases e
theorem C3:∀ks:List (List Int),tupsOf (ks.map tupI)=some ks
 | []=>rfl
 | k::ks=>by rw[zH,show tupI k= .tup (k.map D.int) from rfl,tupsOf,n5,C3 ks];rfl
def rInT (K:PySem.W.Frag) (neg:Bool):R2:=fun x y H Q=>∃(A:Av) (k:List Int) (ks:List (List Int)) (p:Addr) (vs:List V),DenR K A H (tupI k) x/\y= .ref p/\(SqL K H p vs\/SqT K H p vs)/\DenL K A H (ks.map tupI) vs/\Q (.bl (if neg then !decide (k∈ks) else decide (k∈ks))) H
theorem K6 {k0:Nat}{A:Av}(hr:Room k0 X.A){pins:List (Addr×PySem.Obj)}{σ:L2.St}{H:Hp}{s:Shared}(I:Inv X pins σ H s){k:List Int}{x:V}{v:Value}(hx:DenR X.K A H (tupI k) x)(rx:RelV x v):∀{ks:List (List Int)} {vs:List V} {us:List Value},DenL X.K A H (ks.map tupI) vs->Vals vs us->
  (∀y∈us,SeqAt.EqAt X.A.in1 s y v (decide (readI s.heap y=some k)))/\(us.any fun y=>decide (readI s.heap y=some k))=decide (k∈ks)
 | [],vs,us,l,r=>by
  rw[xT,DenL] at l;subst l;cases r;exact⟨fun y hy=>by simp at hy,by simp⟩
 | k'::ks,vs,us,l,r=>by
  rw[zH,DenL] at l;obtain⟨z,rs,rfl,hz,l⟩:=l;cases r with
  | cons r1 r2=>
   rename_i u us;obtain⟨i1,i2⟩:=K6 hr I hx rx l r2;have hz':=hz;rw[show tupI k'= .tup (k'.map D.int) from rfl,Den] at hz';obtain⟨c,ws,rfl,hq,lw⟩:=hz';rw[k6 lw] at hq;cases(show u=Value.ref c from r1);obtain⟨its,r3,⟨o,ho,_,n,hd⟩,_⟩:=I.tuple hq;have er:readI s.heap (.ref c)=some k':=by
    unfold readI;dsimp only;rw[ho];dsimp only;rw[hd];dsimp only;rw[a1w r3]
   have eq:SeqAt.EqAt X.A.in1 s (.ref c) v (decide (readI s.heap (.ref c)=some k)):=by
    rw[er];have z:=(a2e I 20 X.A.in1 (by have:=hr.units;show X.A.units+1+20+1<_;walk_at "o") (tupI k') (tupI k) (.ref c) x (.ref c) v _ (a7G k' k) (B3 hz) hx rfl rx).1
    have e2:decide (some k'=some k)=decide (k'=k):=by simp
    rw[e2];exact z
   refine⟨fun y hy=>?_,?_⟩
   ·rcases zK.mp hy with rfl|hy
    ·exact eq
    ·exact i1 y hy
   ·rw[any_cons,i2,er]
    by_cases h:k'=k
    ·simp[h]
    ·have h':¬k=k':=fun z=>h z.symm;simp[h,h']
theorem a8e {k0:Nat}(hr:Room k0 X.A):OpR X (compareOp .In) (rInT X.K false):=by
 intro pins s σ H x y v u Q I rx ry ⟨A,k,ks,p,vs,hx,ey,hq,l,q⟩;subst ey;cases ry;rcases hq with hq|hq
 ·obtain⟨its,r,pl,hz⟩:=I.list hq;obtain⟨c1,c2⟩:=K6 hr I hx rx l r;refine SeqAt.in_listAt (fun y=>decide (readI s.heap y=some k)) pl.isList (fun w hw=>c1 w (by simpa using hw)) ⟨.bl _,H,I,rfl,?_⟩
  rw[show(its.toArray.any fun y=>decide (readI s.heap y=some k))=(its.any fun y=>decide (readI s.heap y=some k)) by simp,c2]
  exact q
 ·obtain⟨its,r,pl,hz⟩:=I.tuple hq;obtain⟨c1,c2⟩:=K6 hr I hx rx l r;refine SeqAt.in_tupleAt (fun y=>decide (readI s.heap y=some k)) pl (fun w hw=>c1 w (by simpa using hw)) ⟨.bl _,H,I,rfl,?_⟩
  rw[show(its.toArray.any fun y=>decide (readI s.heap y=some k))=(its.any fun y=>decide (readI s.heap y=some k)) by simp,c2]
  exact q
theorem a52 {k0:Nat}(hr:Room k0 X.A):OpR X (compareOp .NotIn) (rInT X.K true):=by
 intro pins s σ H x y v u Q I rx ry ⟨A,k,ks,p,vs,hx,ey,hq,l,q⟩;subst ey;cases ry;rcases hq with hq|hq
 ·obtain⟨its,r,pl,hz⟩:=I.list hq;obtain⟨c1,c2⟩:=K6 hr I hx rx l r;refine SeqAt.notIn_listAt (fun y=>decide (readI s.heap y=some k)) pl.isList (fun w hw=>c1 w (by simpa using hw)) ⟨.bl _,H,I,rfl,?_⟩
  rw[show(its.toArray.any fun y=>decide (readI s.heap y=some k))=(its.any fun y=>decide (readI s.heap y=some k)) by simp,c2]
  exact q
 ·obtain⟨its,r,pl,hz⟩:=I.tuple hq;obtain⟨c1,c2⟩:=K6 hr I hx rx l r;refine SeqAt.notIn_tupleAt (fun y=>decide (readI s.heap y=some k)) pl (fun w hw=>c1 w (by simpa using hw)) ⟨.bl _,H,I,rfl,?_⟩
  rw[show(its.toArray.any fun y=>decide (readI s.heap y=some k))=(its.any fun y=>decide (readI s.heap y=some k)) by simp,c2]
  exact q
def nb (neg k:Bool):W:=.v (.bl (if neg then !k else k))
def oInG (neg:Bool) (x y:D):Option W:=if isDi y=true then(lookG y x).map fun r=>nb neg r.isSome else match x with
 | .int i=>(items y).bind fun ys=>(intsOf ys).map fun ns=>nb neg (decide (i∈ns))
 | .tup ds=>(intsOf ds).bind fun k=>(items y).bind fun ys=>(tupsOf ys).map fun ks=>nb neg (decide (k∈ks))
 | _=>none
theorem kInG {neg:Bool}:Pr2 X (oInG neg) (fun x y H Q=>rIn X.K neg x y H Q\/rInD X.K neg x y H Q\/rInT X.K neg x y H Q):=by
 intro A x y w v u H Q hA e hx hy q;unfold oInG at e;split at e
 ·obtain⟨r,e1,e⟩:=oms e;cases e;obtain⟨a,w',rfl,hg,hm⟩:=X7 e1 hy hx;have es:w'.isSome=r.isSome:=by
   cases r with
   | none=>rw[show w'=none from hm];rfl
   | some d=>obtain⟨z,rfl,_⟩:=hm;rfl
  refine .inr (.inl ⟨a,w',rfl,hg,?_⟩);rw[es];exact q _ H (Same.refl H) v4
 ·split at e
  ·rename_i i;refine .inl (kInI A (.int i) y w v u H Q hA ?_ hx hy q);unfold oInI;exact e
  ·rename_i ds;cases e1:intsOf ds with
   | none=>rw[e1] at e;cases e
   | some k=>
    rw[e1] at e;simp only[bind_some] at e;cases e2:items y with
    | none=>rw[e2] at e;cases e
    | some ys=>
     rw[e2] at e;simp only[bind_some] at e;obtain⟨ks,e3,e⟩:=oms e;cases e;obtain⟨p,vs,rfl,hq,l⟩:=B6 e2 hy;rw[a1e e3] at l;rw[p4 e1] at hx;exact .inr (.inr ⟨A,k,ks,p,vs,hx,rfl,hq,l,q _ H (Same.refl H) v4⟩)
  ·cases e
theorem b1C {k:Nat}(hr:Room k X.A)(ha:QX X a f)(hb:QX X b g)(hm:behindInMarks .In b=false:=by rfl):QX X (.Compare a [.In] [b] pos) (fBin (oInG false) f g):=a2v (W9.or ((a7D hr).or (a8e hr))) kInG ha hb hm
theorem a8k {k:Nat}(hr:Room k X.A)(ha:QX X a f)(hb:QX X b g)(hm:behindInMarks .In b=false:=by rfl):QT X (.Compare a [.In] [b] pos) (fTest (fBin (oInG false) f g)):=P5 (W9.or ((a7D hr).or (a8e hr))) kInG ha hb hm
theorem V7 {k:Nat}(hr:Room k X.A)(ha:QX X a f)(hb:QX X b g)(hm:behindInMarks .NotIn b=false:=by rfl):QT X (.Compare a [.NotIn] [b] pos) (fTest (fBin (oInG true) f g)):=P5 (S5.or ((a5G hr).or (a52 hr))) kInG ha hb hm
def rGet (K:PySem.W.Frag):V->List V->Hp->VK->Prop:=fun x vs H Q=>∃a y r w,x= .ref a/\vs=[y,w]/\DGe K H a y r/\Q (r.getD w) H
theorem a8X {k0:Nat}(hr:Room k0 X.A):MtR X "dict.get" (rGet X.K):=by
 intro pins s σ H x xs v us Q I rx rv ⟨a,y,r,w,ex,evs,hg,q⟩;subst ex evs;cases rx;obtain⟨u,w',rfl,ru,rw'⟩:=vals2 rv;rcases hg with ⟨kvs,k,e,rfl,rfl⟩|⟨kvs,k,b,e,rfl,hq,rfl⟩
 ·obtain⟨z,hd,ys,rel,dd⟩:=a5g I.hok e;refine call_meetsIn PySem.F.slot_dict_get dd.typeIs PySem.F.entry_dict_get (PySem.F.args_dict_get_3 _ _ _) (meets_dict_get_default (mixKind X.prog X.w) a (a0M ru) hd w') ⟨_,dd.mapOf,?_⟩;exact⟨_,H,I.tok _,(rel.val k).getD rw',q⟩
 ·cases(show u=Value.ref b from ru);obtain⟨z,hd,ys,rel,dd⟩:=a5m I.hok e;refine call_meetsIn PySem.F.slot_dict_get dd.typeIs PySem.F.entry_dict_get (PySem.F.args_dict_get_3 _ _ _) (meetsH_dict_get_default (tupleKind (mixKind X.prog X.w)) a b hd w') ⟨xZ (a1P hr),k,ys,a0a I hq,dd,?_⟩;exact⟨_,H,I.tok _,(rel.val k).getD rw',q⟩
def fGet (f:FX) (fa:FA):FX:=fun ρ=>(f ρ).bind fun p=>(dr p.2 p.1.fz).bind fun d=>if isDi d=true then(fa p.2).bind fun q=>(takeAll q.2 q.1).bind fun z=>(dr z.2 p.1.fz).bind fun x=>match z.1 with
  | [y,e]=>(lookG x y).map fun r=>(.v (r.getD e),z.2)
  | _=>none
 else none
theorem a6A {k0:Nat}(hr:Room k0 X.A)(ha:QX X o f)(hb:QA X (e::es) fa)(hbase:attributeBase o "get" X.env (eval o X.env)=eval o X.env:=by rfl)
  (hfew:((backTo pos (starEach (e::es) X.env)).all (fun x=>!x.1)&&(backToKw pos (keywordEach [] X.env)).all (fun x=>x.1.isSome)&&decide ((e::es).length+([]:List Keyword).length+(if([]:List Keyword).isEmpty then 0 else 1)<30))=true:=by rfl)
  (hline:(apos.endLine==pos.line)=true:=by rfl) (hs:starEach (e::es) X.env=(false,eval e X.env)::starEach es X.env:=by rfl) (hpl:(backTo pos (starEach es X.env)).any (·.1)=false:=by rfl):
  QX X (.Call (.Attribute o "get" apos) (e::es) [] pos) (fGet f fa):=
 ⟨PE.weak (a6D PySem.F.plainAttrs_dict PySem.F.slot_dict_get PySem.F.type_dict_get (a8X hr) ha.to hb.to hbase hfew hline hs hpl) fun σ H Q h0=>tXe h0 fun P O L ρ w ρ' rp e q=>by
 unfold fGet at e;obtain⟨⟨w1,ρ1⟩,e1,e⟩:=obs e;dsimp only at e;cases e2:dr ρ1 w1.fz with
 | none=>rw[e2] at e;cases e
 | some d=>
  rw[e2] at e;simp only[bind_some] at e;split at e
  ·rename_i hdi;obtain⟨⟨ws,ρ2⟩,e3,e⟩:=obs e;dsimp only at e;obtain⟨⟨ds,ρ3⟩,e5,e⟩:=obs e;dsimp only at e;cases e4:dr ρ3 w1.fz with
   | none=>rw[e4] at e;cases e
   | some x=>
    rw[e4] at e;simp only[bind_some] at e;split at e
    ·rename_i y e0;obtain⟨r,e6,e⟩:=oms e;cases e;refine⟨P,O,L,ρ,w1,ρ1,rp,e1,fun v H1 H1' r1 s1 d1=>?_⟩;have r1g:=r1.grow s1;have dd:=w9 r1g e2 (d1.fz r1 s1);obtain⟨P',r1',k1⟩:=hold r1g (d1.fz r1 s1);refine⟨?_,P',O,L,ρ1,_,_,r1',e3,fun vs H2 r2 l2=>?_⟩
     ·cases d with
      | dT ks xs=>obtain⟨a,us,rfl,ha,_⟩:=dd;exact .inr (.inr (.inl ⟨rfl,.inr ⟨_,ha⟩⟩))
      | dK ks xs=>obtain⟨a,us,rfl,ha,_⟩:=dd;exact .inr (.inr (.inl ⟨rfl,.inl ⟨_,ha⟩⟩))
      | _=>cases hdi
     ·obtain⟨r4,l4,_⟩:=k8 r2 e5 l2;obtain⟨r3,d3⟩:=k1 _ H2 r4;have dx:=w9 r3 e4 d3;obtain⟨v1,v2,rfl,g1,g2⟩:=denL2 l4;obtain⟨a,w',rfl,hg,hm⟩:=X7 e6 dx (B3 g1);refine⟨a,v1,w',v2,rfl,rfl,hg,q _ H2 H2 r3 (Same.refl _) ?_⟩;cases r with
      | none=>rw[show w'=none from hm];exact g2
      | some d=>obtain⟨z,rfl,dz⟩:=hm;exact dz
    ·cases e
  ·cases e⟩
end
open PySem PySem.W PyProof.Rows
def TWp {α:Type} (n:Nat) (lt:Nat->Nat->Bool):KasT α->(α->Prop)->Prop
 | .ret a,Q=>Q a
 | .ask i j k,Q=>i<n/\j<n/\TWp n lt (k (lt i j)) Q
theorem F5 {α β:Type}{n:Nat}{lt:Nat->Nat->Bool}{g:α->KasT β}{Q:β->Prop}:∀(t:KasT α),TWp n lt t (fun a=>TWp n lt (g a) Q)->TWp n lt (t.bind g) Q
 | .ret _,h=>h
 | .ask i j k,⟨h1,h2,h⟩=>⟨h1,h2,F5 (k (lt i j)) h⟩
theorem a4s {α:Type}{n:Nat}{lt:Nat->Nat->Bool}{cmp:Nat->Nat->(Bool->Shared->Prop)->Shared->Prop}{s:Shared}{Q:α->Shared->Prop}
  (hc:∀i j (C:Bool->Shared->Prop),i<n->j<n->C (lt i j) s->cmp i j C s):∀(t:KasT α),TWp n lt t (fun a=>Q a s)->t.kasWp cmp Q s
 | .ret a,h=>h
 | .ask i j k,⟨h1,h2,h⟩=>hc i j _ h1 h2 (a4s hc (k (lt i j)) h)
section
variable {O:KeyOrd}{f:Nat->O.α}{n:Nat}
def Ky (f:Nat->O.α) (p:Array Nat) (i:Nat):O.α:=f (p.getD i 0)
def SoTo (f:Nat->O.α) (p:Array Nat) (k:Nat):Prop:=∀i j,i<=j->j<k->O.kle (Ky f p i) (Ky f p j)
def NoIn (f:Nat->O.α) (p:Array Nat) (k:Nat):Prop:=∀i j,i<=j->j<k->O.kle (Ky f p j) (Ky f p i)
structure PB (n:Nat) (p:Array Nat):Prop where
 perm:p.Perm (List.toArray (List.range n))
 pos:0<n
theorem PB.size {p:Array Nat}(h:PB n p):p.size=n:=by rw[h.perm.size_eq];simp
theorem PB.lt {p:Array Nat}(h:PB n p)(i:Nat):p.getD i 0<n:=by
 by_cases q:i<p.size
 ·have e:p.getD i 0=p[i]:=by simp[Array.getD,q]
  rw[e];have m:p[i]∈p.toList:=by simp
  have:=(Array.perm_iff_toList_perm.mp h.perm).mem_iff.mp m
  simpa using this
 ·have e:p.getD i 0=0:=by simp[Array.getD,q]
  rw[e];exact h.pos
theorem L1 {p q:Array Nat}{i j:Nat}(h:p[i]? =q[j]?):Ky f p i=Ky f q j:=by
 unfold Ky;congr 1;rw[Array.getD_eq_getD_getElem?,Array.getD_eq_getD_getElem?,h]
theorem a1n {xs:Array Nat}{src d:Nat}(hs:src<xs.size)(hd:d<=src)(k:Nat):
  Ky f (bubble xs src d) k=if k=src-d then Ky f xs src else if src-d<k/\k<=src then Ky f xs (k-1) else Ky f xs k:=by
 have e:=getElem?_bubble hs d hd k
 by_cases h1:k=src-d
 ·rw[if_pos h1] at e ⊢;exact L1 e
 ·rw[if_neg h1] at e ⊢
  by_cases h2:src-d<k/\k<=src
  ·rw[if_pos h2] at e ⊢;exact L1 e
  ·rw[if_neg h2] at e ⊢;exact L1 e
theorem X3 {xs:Array Nat}{i j:Nat}(hj:j<=xs.size)(k:Nat):
  Ky f (kas_rev xs i j) k=if i<=k/\k<j then Ky f xs (i+j-1-k) else Ky f xs k:=by
 have e:=getElem?_mirror_all (i:=i) hj k;unfold kas_rev
 by_cases h1:i<=k/\k<j
 ·rw[if_pos h1] at e ⊢;exact L1 e
 ·rw[if_neg h1] at e ⊢;exact L1 e
theorem p9 {xs:Array Nat}{i j:Nat}(hj:j<=xs.size)(heq:∀k,i<=k->k<j->Ky f xs k=Ky f xs (j-1))(k:Nat):Ky f (kas_rev xs i j) k=Ky f xs k:=by
 rw[X3 hj]
 split
 ·rw[heq _ (by omega) (by omega),heq k (by omega) (by omega)]
 ·rfl
theorem PB.rev {p:Array Nat}(h:PB n p)(i j:Nat):PB n (kas_rev p i j):=⟨(mirror_perm _ _ _ _).trans h.perm,h.pos⟩
theorem PB.bub {p:Array Nat}(h:PB n p)(i j:Nat):PB n (bubble p i j):=⟨(bubble_perm _ _ _).trans h.perm,h.pos⟩
abbrev ltK (f:Nat->O.α):Nat->Nat->Bool:=fun i j=>O.blt (f i) (f j)
theorem a19 {p:Array Nat}(hB:PB n p){Q:Nat->Prop}:∀(c a:Nat),1<=a->SoTo f p a->(∀m,a<=m->m<=a+c->SoTo f p m->(m=a+c\/O.klt (Ky f p m) (Ky f p (m-1)))->Q m)->TWp n (ltK f) (kas_asc p c a) Q
 | 0,a,_,hs,h=>h a (zF _) (zF _) hs (.inl rfl)
 | c+1,a,h1,hs,h=>by
  refine⟨hB.lt _,hB.lt _,?_⟩;cases hless:O.blt (Ky f p a) (Ky f p (a-1))
  case true=>
   rw[show ltK f (p.getD a 0) (p.getD (a-1) 0)=true from hless];dsimp only;rw[if_pos rfl];exact h a (zF _) (by walk_at "o") hs (.inr hless)
  case false=>
   rw[show ltK f (p.getD a 0) (p.getD (a-1) 0)=false from hless];dsimp only;rw[if_neg (by simp)]
   refine a19 hB c (a+1) (by walk_at "o") (fun i j hij hj=>?_) fun m x1 x2 x3 x4=>h m (by walk_at "o") (by walk_at "o") x3 (x4.imp (fun q=>by walk_at "o") id)
   by_cases hjx:j<a
   ·exact hs i j hij hjx
   ·have hj':j=a:=by walk_at "o"
    subst hj'
    by_cases hi':i=j
    ·subst hi';exact jV _
    ·exact KeyOrd.kle_trans (hs i (j-1) (by walk_at "o") (by walk_at "o")) hless
theorem a1Q {p:Array Nat}(hB:PB n p){Q:Nat×Array Nat->Prop}{a m:Nat}(h1:1<=a)(ha:a<=m)(hm:m<=n)(hs:NoIn f p a)(h:∀k q,PB n q->1<=k->k<=m->SoTo f q k->Q (k,q)):TWp n (ltK f) (kas_tail3 a m p) Q:=by
 have hsz:a<=p.size:=by rw[hB.size];walk_at "o"
 refine F5 _ (a19 (hB.rev 0 a) (m-a) a h1 (fun i j hij hj=>?_) fun k x1 x2 x3 _=>h k _ (hB.rev 0 a) (by walk_at "o") (by walk_at "o") x3)
 rw[X3 hsz,X3 hsz,if_pos (by walk_at "o"),if_pos (by walk_at "o")]
 exact hs _ _ (by walk_at "o") (by walk_at "o")
theorem U8 {Q:Array Nat×Nat×Nat->Prop}{m:Nat}(hm:m<=n):∀(c:Nat) (p:Array Nat) (a q:Nat),a+c=m->PB n p->1<=a->NoIn f p a->q+1<=a->(∀i,a-(q+1)<=i->i<a->Ky f p i=Ky f p (a-1))->
  (∀k r p',PB n p'->a<=k->k<=m->NoIn f p' k->r+1<=k->(∀i,k-(r+1)<=i->i<k->Ky f p' i=Ky f p' (k-1))->Q (p',k,r))->TWp n (ltK f) (kas_desc c p a q) Q
 | 0,p,a,q,hc,hB,h1,hs,hq,he,h=>h a q p hB (zF _) (by walk_at "o") hs hq he
 | c+1,p,a,q,hc,hB,h1,hs,hq,he,h=>by
  have hsz:a<=p.size:=by rw[hB.size];walk_at "o"
  refine⟨hB.lt _,hB.lt _,?_⟩;cases hless:O.blt (Ky f p a) (Ky f p (a-1))
  case true=>
   rw[show ltK f (p.getD a 0) (p.getD (a-1) 0)=true from hless];dsimp only;rw[if_pos rfl];have step1:∀xs:Array Nat,(∀k,Ky f xs k=Ky f p k)->NoIn f xs (a+1):=by
    intro xs hk i j hij hj;rw[hk,hk]
    by_cases hjx:j<a
    ·exact hs i j hij hjx
    ·have hj':j=a:=by walk_at "o"
     subst hj'
     by_cases hi':i=j
     ·subst hi';exact jV _
     ·exact KeyOrd.kle_trans (KeyOrd.kle_of_klt hless) (hs i (j-1) (by walk_at "o") (by walk_at "o"))
   by_cases hneq:q>0
   ·rw[if_pos hneq];exact U8 hm c _ (a+1) 0 (by walk_at "o") (hB.rev _ _) (by walk_at "o") (step1 _ (p9 hsz he)) (by walk_at "o") (fun i h1 h2=>by congr 1;walk_at "o") fun k r p' x1 x2=>h k r p' x1 (by walk_at "o")
   ·rw[if_neg hneq];exact U8 hm c _ (a+1) 0 (by walk_at "o") hB (by walk_at "o") (step1 _ (fun _=>rfl)) (by walk_at "o") (fun i h1 h2=>by congr 1;walk_at "o") fun k r p' x1 x2=>h k r p' x1 (by walk_at "o")
  case false=>
   rw[show ltK f (p.getD a 0) (p.getD (a-1) 0)=false from hless];dsimp only;rw[if_neg (by simp)]
   refine⟨hB.lt _,hB.lt _,?_⟩;cases hlarger:O.blt (Ky f p (a-1)) (Ky f p a)
   case true=>
    rw[show ltK f (p.getD (a-1) 0) (p.getD a 0)=true from hlarger];dsimp only;rw[if_pos rfl];exact h a q p hB (zF _) (by walk_at "o") hs hq he
   case false=>
    rw[show ltK f (p.getD (a-1) 0) (p.getD a 0)=false from hlarger];dsimp only;rw[if_neg (by simp)]
    have heqx:Ky f p a=Ky f p (a-1):=KeyOrd.kle_antisymm hlarger hless;refine U8 hm c p (a+1) (q+1) (by walk_at "o") hB (by walk_at "o") (fun i j hij hj=>?_) (by walk_at "o") (fun i h1 h2=>?_) fun k r p' x1 x2=>h k r p' x1 (by walk_at "o")
    ·by_cases hjx:j<a
     ·exact hs i j hij hjx
     ·have hj':j=a:=by walk_at "o"
      subst hj'
      by_cases hi':i=j
      ·subst hi';exact jV _
      ·rw[heqx];exact hs i (j-1) (by walk_at "o") (by walk_at "o")
    ·rw[show a+1-1=a by walk_at "o"]
     by_cases hix:i=a
     ·subst hix;rfl
     ·rw[heqx];exact he i (by walk_at "o") (by walk_at "o")
theorem V0 {p:Array Nat}(hB:PB n p){Q:Nat×Array Nat->Prop}{a m:Nat}(ha:a+1<=m)(hm:m<=n)(hs:NoIn f p (a+1))(h:∀k q,PB n q->1<=k->k<=m->SoTo f q k->Q (k,q)):TWp n (ltK f) (kas_descPart a m p) Q:=by
 refine F5 _ (U8 hm (m-(a+1)) p (a+1) 0 (by walk_at "o") hB (by walk_at "o") hs (by walk_at "o") (fun i h1 h2=>by congr 1;walk_at "o") fun k r p' hB' x2 x3 hs' x5 he=>?_)
 have hsz:k<=p'.size:=by rw[hB'.size];walk_at "o"
 dsimp only
 by_cases hneq:r>0
 ·rw[if_pos hneq];refine a1Q (hB'.rev _ _) (by walk_at "o") x3 hm (fun i j hij hj=>?_) h
  rw[p9 hsz he,p9 hsz he];exact hs' i j hij hj
 ·rw[if_neg hneq];exact a1Q hB' (by walk_at "o") x3 hm hs' h
theorem a58 {p:Array Nat}(hB:PB n p){Q:Nat×Array Nat->Prop}{m:Nat}(h1:1<=m)(hm:m<=n)(h:∀k q,PB n q->1<=k->k<=m->SoTo f q k->Q (k,q)):TWp n (ltK f) (kas_count m p) Q:=by
 refine F5 _ (a19 hB (m-1) 1 (zF 1) (fun i j hij hj=>by have:i=j:=(by walk_at "o");subst this;exact jV _) fun a ha1 ha2 hsn hor=>?_)
 by_cases hnn:a=m
 ·rw[if_pos (by simpa using hnn)]
  exact h a p hB ha1 (by walk_at "o") hsn
 ·rw[if_neg (by simpa using hnn)]
  have hlt:O.klt (Ky f p a) (Ky f p (a-1)):=hor.resolve_left (by walk_at "o")
  by_cases hgt:a>1
  ·rw[if_pos hgt];refine⟨hB.lt _,hB.lt _,?_⟩;cases hrose:O.blt (Ky f p 0) (Ky f p (a-1))
   case true=>
    rw[show ltK f (p.getD 0 0) (p.getD (a-1) 0)=true from hrose];dsimp only;rw[if_pos rfl];exact h a p hB ha1 (by walk_at "o") hsn
   case false=>
    rw[show ltK f (p.getD 0 0) (p.getD (a-1) 0)=false from hrose];dsimp only;rw[if_neg (by simp)]
    have hsz:a<=p.size:=by rw[hB.size];walk_at "o"
    have hall:∀k,0<=k->k<a->Ky f p k=Ky f p (a-1):=by
     intro k _ hk;have a1:=hsn 0 k (by walk_at "o") hk
     have a2:=hsn k (a-1) (by walk_at "o") (by walk_at "o")
     exact KeyOrd.kle_antisymm a2 (KeyOrd.kle_trans hrose a1)
    refine V0 (hB.rev _ _) (by walk_at "o") hm (fun i j hij hj=>?_) h
    rw[p9 hsz hall,p9 hsz hall]
    by_cases hjn:j<a
    ·rw[hall i (by walk_at "o") (by walk_at "o"),hall j (by walk_at "o") hjn];exact jV _
    ·have hj':j=a:=by walk_at "o"
     subst hj'
     by_cases hi':i=j
     ·subst hi';exact jV _
     ·rw[hall i (by walk_at "o") (by walk_at "o")];exact KeyOrd.kle_of_klt hlt
  ·rw[if_neg hgt];have hn1':a=1:=by walk_at "o"
   subst hn1';refine V0 hB (by walk_at "o") hm (fun i j hij hj=>?_) h
   by_cases hi':i=j
   ·subst hi';exact jV _
   ·have hi0:i=0:=by walk_at "o"
    have hj1:j=1:=by walk_at "o"
    subst hi0;subst hj1;exact KeyOrd.kle_of_klt hlt
theorem X9 {p:Array Nat}(hB:PB n p){Q:Nat->Prop}{k:Nat}(hk:k<n)(hs:SoTo f p k)
  (h:∀l,l<=k->(∀i,i<l->O.kle (Ky f p i) (Ky f p k))->(∀i,l<=i->i<k->O.klt (Ky f p k) (Ky f p i))->Q l):
  ∀(c l r:Nat),l<=r->r<=k->r-l<=c->(∀i,i<l->O.kle (Ky f p i) (Ky f p k))->(∀i,r<=i->i<k->O.klt (Ky f p k) (Ky f p i))->TWp n (ltK f) (kas_place p k c l r) Q
 | 0,l,r,hlr,hrk,hc,hlo,hhi=>h l (by omega) hlo (fun i h1 h2=>hhi i (by omega) h2)
 | c+1,l,r,hlr,hrk,hc,hlo,hhi=>by
  unfold kas_place
  by_cases hge:l≥r
  ·rw[if_pos hge]
   have:l=r:=by omega
   subst this;exact h l hrk hlo hhi
  ·rw[if_neg hge];refine⟨hB.lt _,hB.lt _,?_⟩;cases hless:O.blt (Ky f p k) (Ky f p ((l+r)/2))
   case true=>
    rw[show ltK f (p.getD k 0) (p.getD ((l+r)/2) 0)=true from hless];dsimp only;rw[if_pos rfl];exact X9 hB hk hs h c l ((l+r)/2) (by omega) (by omega) (by omega) hlo fun i h1 h2=>KeyOrd.klt_of_klt_of_kle hless (hs _ _ h1 h2)
   case false=>
    rw[show ltK f (p.getD k 0) (p.getD ((l+r)/2) 0)=false from hless];dsimp only;rw[if_neg (by simp)]
    exact X9 hB hk hs h c ((l+r)/2+1) r (by omega) (by omega) (by omega) (fun i h1=>KeyOrd.kle_trans (hs i ((l+r)/2) (by omega) (by omega)) (show O.kle _ _ from hless)) hhi
theorem a5j {Q:Array Nat->Prop}(h:∀p,PB n p->SoTo f p n->Q p):∀(c k:Nat) (p:Array Nat),c+k=n->PB n p->SoTo f p k->TWp n (ltK f) (kas_bin c p k) Q
 | 0,k,p,hc,hB,hs=>h p hB (by rw[<-hc];rw[Nat.zero_add];exact hs)
 | c+1,k,p,hc,hB,hs=>by
  refine F5 _ (X9 hB (by walk_at "o") hs (fun l hlk hlo hhi=>?_) k 0 k (by walk_at "o") (by walk_at "o") (by walk_at "o") (fun i hi=>by walk_at "o") fun i h1 h2=>by walk_at "o")
  refine a5j h c (k+1) _ (by walk_at "o") (hB.bub _ _) fun i j hij hj=>?_
  have hks:k<p.size:=by rw[hB.size];walk_at "o"
  rw[a1n hks (by walk_at "o"),a1n hks (by walk_at "o"),show k-(k-l)=l by walk_at "o"]
  repeat' split
  all_goals first
   | (exfalso;walk_at "o")
   | exact jV _
   | exact hlo _ (by walk_at "o")
   | exact KeyOrd.kle_of_klt (hhi _ (by walk_at "o") (by walk_at "o"))
   | exact hs _ _ (by walk_at "o") (by walk_at "o")
theorem a7a {Q:Array Nat->Prop}(hn:1<=n)(h:∀p,PB n p->SoTo f p n->Q p):TWp n (ltK f) (kas_sort n) Q:=by
 refine F5 _ (a58 ⟨Array.Perm.refl _,hn⟩ hn (zF _) fun k q hB x1 x2 hs=>?_);dsimp only
 split
 ·rw[show max k 1=k by walk_at "o"]
  exact a5j h (n-k) k q (by walk_at "o") hB hs
 ·exact h q hB (by rw[show n=k by walk_at "o"];exact hs)
end
def DRaw (h:Heap) (d:Addr) (es:Array DictEntry) (ep:Nat):Prop:=∃o,h.get? d=some o/\o.ExactDict/\o.data= .dict es ep
theorem DRaw.typeIs {s:Shared}{d:Addr}{es:Array DictEntry}{ep:Nat}(x:DRaw s.heap d es ep):s.TypeIs (.ref d) "dict":=let ⟨o,e,c,_⟩:=x;⟨o,e,c.1⟩
theorem DRaw.lt {h:Heap}{d:Addr}{es:Array DictEntry}{ep:Nat}(x:DRaw h d es ep):d<h.objs.size:=let ⟨_,e,_⟩:=x;zX e
theorem DRaw.on {h h':Heap}{d:Addr}{es:Array DictEntry}{ep:Nat}(x:DRaw h d es ep)(k:∀o,h.get? d=some o->h'.get? d=some o):DRaw h' d es ep:=let ⟨o,e,r⟩:=x;⟨o,k o e,r⟩
section
variable {prog:Program}{w:World}{A:Around}{E:Value->Shared->Prop}{s:Shared}{it d:Addr}{es:Array DictEntry}{i ep:Nat}
theorem a6l {Q:Value->Shared->Prop}(ns:(d==sysModules)=false)(hm:DRaw s.heap d es ep)
  (q:Q (.ref s.heap.objs.size) {s with heap:=s.heap.push {cls:=.type "dict_keyiterator",data:=.fields #[.ref d,.int 0 0,.int es.size 0,.int ep 0]}}):wpAny (model prog w) A (pyIter (.ref d)) Q E s:=by
 obtain⟨o,g0,gx,gd⟩:=id hm;have T:=hm.typeIs;refine wpAny_pyIter_slot T F.slot_dict_iter (qR F.slot_dict_iter T F.entry_dict_iter ?_ (F.args_dict_iter_1 _));unfold Builtin.«dict.__iter__»;refine zA ?_;unfold Builtin.Dict.dictSlotNone;refine zA (wpAny_notOrdered_dict T (zB ?_));show wpAny _ _ (Builtin.Dict.showsAll d >>=_) _ _ s;unfold Builtin.Dict.showsAll;rw[if_neg (by rw[ns];simp)]
 refine zA (zB (zA (wpAny_dictEntries g0 gd (zA (wpAny_dictEpoch g0 gd ?_)))));refine zA (qV (zB ⟨_,rfl,"dict_keyiterator",_,⟨_,zW _ rfl,rfl⟩,F.slot_dict_keyiterator_next.lookup,?_⟩));simpa [rawInt] using q
theorem a7W {Q:Option Value->Shared->Prop}{e:DictEntry}(hit:s.heap.IsKeyIter it d i es.size ep)(hm:DRaw s.heap d es ep)(he:es[i]? =some e)
  (q:∀h',h'.IsKeyIter it d (i+1) es.size ep->Heap.SameBut it s.heap h'->Q (some e.key) {s with heap:=h'}):wpAny (model prog w) A (pyNext (.ref it)) Q E s:=by
 obtain⟨o,t0,tc,td⟩:=id hit;obtain⟨od,g0,gx,gd⟩:=id hm;unfold pyNext;refine zA (wpAny_attempt (qJ (name:=Str.ofString "__next__") hit.typeIs jM (qR jM hit.typeIs F.entry_dict_keyiterator_next ?_ (F.args_dict_keyiterator_next_1 _))));refine zA (zB (zA (zA ?_)))
 first|refine zA (jY hit.typeIs (zB (zA (wpAny_fieldsOf t0 td ?_))))|refine zA (xO hit.typeIs (zB (zA (wpAny_fieldsOf t0 td ?_))))
 have own:Builtin.Dict_items.ownsTuple "dict_keyiterator"=false:=by decide
 simp only[own,jJ,xH];show wpAny _ _ (if(Value.ref d==Value.none)=true then _ else _) _ _ s;rw[if_neg (show ¬((Value.ref d==Value.none)=true) from zT)];refine zA (zB (zA (wpAny_dictEntries g0 gd ?_)));rw[if_neg (by simp)]
 refine zA (zB (zA (wpAny_dictEpoch g0 gd ?_)));rw[if_neg (by simp)]
 refine zB ?_;have lt:i<es.size:=by
  rcases Nat.lt_or_ge i es.size with z|z
  ·exact z
  ·rw[Array.getElem?_eq_none z] at he;cases he
 simp only[show ¬((i:Int)<0) from by walk_at "o",xH,qN,he]
 refine zA ?_
 first|refine zA (jY hit.typeIs (zB (zA (wpAny_isOneOf_keyiter hit.typeIs ?_))))|refine zA (xO hit.typeIs (zB (zA (wpAny_isOneOf_keyiter hit.typeIs ?_))))
 show wpAny _ _ (setField (.ref it) 1 (rawInt ((i:Int)+1)) >>=_) _ _ s;refine zA (wpAny_setField t0 td (by simp) ?_)
 have up:(s.heap.update it (PySem.Obj.mapFields (·.setIfInBounds 1 (rawInt ((i:Int)+1))))).IsKeyIter it d (i+1) es.size ep:=⟨_,xA _ t0 (Obj.isFreed_of_fields (Obj.data_mapFields td _)),(Obj.cls_mapFields ..).trans tc,by rw[Obj.data_mapFields td];simp[rawInt]⟩
 refine zA (qD (zA (wpAny_isOneOf_keyiter (s:={s with heap:=s.heap.update it (PySem.Obj.mapFields (·.setIfInBounds 1 (rawInt ((i:Int)+1))))}) up.typeIs ?_)))
 show wpAny _ _ (pure e.key) _ _ _;exact zB (zB ⟨_,rfl,zB (q _ up (qQ ..))⟩)
theorem a9a {Q:Option Value->Shared->Prop}(hh:A.handled=none)(hit:s.heap.IsKeyIter it d i es.size ep)(hm:DRaw s.heap d es ep)(he:es[i]? =none)
  (q:∀h',Heap.ExtBut it s.heap h'->Q none {s with heap:=h'}):wpAny (model prog w) A (pyNext (.ref it)) Q E s:=by
 obtain⟨o,t0,tc,td⟩:=id hit;obtain⟨od,g0,gx,gd⟩:=id hm;unfold pyNext;refine zA (wpAny_attempt (qJ (name:=Str.ofString "__next__") hit.typeIs jM (qR jM hit.typeIs F.entry_dict_keyiterator_next ?_ (F.args_dict_keyiterator_next_1 _))));refine zA (zB (zA (zA ?_)))
 first|refine zA (jY hit.typeIs (zB (zA (wpAny_fieldsOf t0 td ?_))))|refine zA (xO hit.typeIs (zB (zA (wpAny_fieldsOf t0 td ?_))))
 have own:Builtin.Dict_items.ownsTuple "dict_keyiterator"=false:=by decide
 simp only[own,jJ,xH];show wpAny _ _ (if(Value.ref d==Value.none)=true then _ else _) _ _ s;rw[if_neg (show ¬((Value.ref d==Value.none)=true) from zT)];refine zA (zB (zA (wpAny_dictEntries g0 gd ?_)));rw[if_neg (by simp)]
 refine zA (zB (zA (wpAny_dictEpoch g0 gd ?_)));rw[if_neg (by simp)]
 refine zB ?_;simp only[show ¬((i:Int)<0) from by walk_at "o",xH,qN,he]
 refine zA ?_
 first|refine zA (jY hit.typeIs (zB ?_))|refine zA (xO hit.typeIs (zB ?_))
 show wpAny _ _ (setField (.ref it) 0 .none >>=_) _ _ s;refine zA (wpAny_setField t0 td (by simp) ?_)
 show wpAny _ _ (newExc (.type "StopIteration") [] >>=_) _ _ _;refine zA ?_;simp only[newExc,newTuple];refine zA (qV ?_ (by size_fits))
 refine zA (m:=firstArgMember _ _) (wpAny_of_eq (a:=Value.none) (by first|rfl|(simp only[firstArgMember];rfl)) (qV ?_ (by size_fits)))
 simp only[raiseNew];refine zA (wpAny_handled ?_);rw[show A.in1.handled=none from hh];refine zA (zB (wpAny_throw ?_));refine zA (wpAny_isInstance (b:=true) (T:="StopIteration") ⟨_,zW _ rfl,rfl⟩ isSubtype_stop ?_);exact zB (q _ (((qQ ..).extBut.push _).push _))
theorem a53 (hh:A.handled=none)(I d:Addr)(hne:d≠I)(es:Array DictEntry)(ep:Nat):
  Walks prog w A I [I,d] [I] es.size (fun i v=>∃e,es[i]? =some e/\v=e.key) (fun i h=>h.IsKeyIter I d i es.size ep/\DRaw h d es ep) where
 sub:=fun b hb=>by simp at hb;simp[hb]
 frame:=fun _ _ _ st hk=>⟨st.1.at fun o e=>hk I (by simp) o e,st.2.on fun o e=>hk d (by simp) o e⟩
 item:=fun i s Q E hi st hQ=>a7W st.1 st.2 (e:=es[i]) (by simp[hi]) fun h' h1 h2=>hQ _ h' s.toks ⟨_,by simp[hi],rfl⟩ ⟨h1,st.2.on fun o e=>(h2.2 d hne).trans e⟩ fun b o hb e=>(h2.2 b (fun z=>hb (by simp[z]))).trans e
 done:=fun s Q E st hQ=>a9a hh st.1 st.2 (by simp) fun h' x=>hQ h' s.toks fun b o hb e=>x b o (fun z=>hb (by simp[z])) e
 self:=fun _ _ _ _ st hQ=>wpAny_pyIter_keyiter st.1 hQ
theorem a9l (ns:(d==sysModules)=false):KdlSrc prog w "dict" d d es.size (fun i v=>∃e,es[i]? =some e/\v=e.key) (fun h=>DRaw h d es ep) where
 type:=fun _ x=>x.typeIs
 there:=fun _ x=>⟨x.lt,x.lt⟩
 keep:=fun _ _ x hk=>x.on fun o e=>hk d (.inl rfl) o e
 notList:=by decide
 notTuple:=by decide
 hint:=fun _ _ _ _ x q=>kdl_hint_dict x.typeIs q
 iter:=fun _ _ hh x=>⟨_,_,(fun _ _ q=>a6l ns x q),a53 hh _ d (zY x.lt) es ep,⟨⟨_,zW _ rfl,rfl,rfl⟩,x.on fun o e=>zD _ e⟩⟩
end
theorem a4v:∀a:List Int,HT.lexLt a a=false
 | []=>rfl
 | x::a=>by rw[HT.lexLt_cons,if_pos rfl];exact a4v a
theorem a1I:∀a b c:List Int,HT.lexLt a b=true->HT.lexLt b c=true->HT.lexLt a c=true
 | [],[],_,h,_=>by cases h
 | [],_::_,[],_,h=>by cases h
 | [],_::_,_::_,_,_=>rfl
 | _::_,[],_,h,_=>by cases h
 | _::_,_::_,[],_,h=>by cases h
 | x::a,y::b,z::c,h,h'=>by
  rw[HT.lexLt_cons] at h h' ⊢
  by_cases e1:x=y
  ·by_cases e2:y=z
   ·rw[if_pos e1] at h;rw[if_pos e2] at h';rw[if_pos (e1.trans e2)];exact a1I a b c h h'
   ·rw[if_neg e2] at h';rw[if_neg (fun q=>e2 (e1.symm.trans q)),e1];exact h'
  ·rw[if_neg e1] at h;have h1:=qM h
   by_cases e2:y=z
   ·rw[if_neg (fun q=>e1 (q.trans e2.symm)),<-e2];exact h
   ·rw[if_neg e2] at h';have h2:=qM h';rw[if_neg (by omega)]
    exact zL (by omega)
theorem a4D:∀a b c:List Int,HT.lexLt a c=true->HT.lexLt a b=true\/HT.lexLt b c=true
 | [],[],_,h=>.inr h
 | [],_::_,_,_=>.inl rfl
 | _::_,_,[],h=>by cases h
 | _::_,[],_::_,_=>.inr rfl
 | x::a,y::b,z::c,h=>by
  rw[HT.lexLt_cons] at h ⊢;rw[HT.lexLt_cons]
  by_cases e1:x=y
  ·by_cases e2:y=z
   ·rw[if_pos (e1.trans e2)] at h;rw[if_pos e1,if_pos e2];exact a4D a b c h
   ·rw[if_neg (fun q=>e2 (e1.symm.trans q))] at h;rw[if_neg e2,<-e1];exact .inr h
  ·rw[if_neg e1]
   by_cases e2:x=z
   ·have e3:¬y=z:=fun q=>e1 (e2.trans q.symm);rw[if_neg e3];rcases Int.lt_or_gt_of_ne e1 with q|q
    ·exact .inl (zL q)
    ·exact .inr (zL (by omega))
   ·rw[if_neg e2] at h;have h1:=qM h;rcases Int.lt_or_gt_of_ne e1 with q|q
    ·exact .inl (zL q)
    ·rw[if_neg (show ¬y=z by omega)];exact .inr (zL (by omega))
theorem a2i:∀a b:List Int,HT.lexLt a b=false->HT.lexLt b a=false->a=b
 | [],[],_,_=>rfl
 | [],_::_,h,_=>by cases h
 | _::_,[],_,h=>by cases h
 | x::a,y::b,h,h'=>by
  rw[HT.lexLt_cons] at h h'
  by_cases e:x=y
  ·rw[if_pos e] at h;rw[if_pos e.symm] at h';rw[e,a2i a b h h']
  ·rw[if_neg e] at h;rw[if_neg (fun q=>e q.symm)] at h';have h1:=of_decide_eq_false h;have h2:=of_decide_eq_false h';walk_at "o"
def lexO:KeyOrd:=⟨List Int,HT.lexLt,a4v,a1I,a4D,a2i⟩
inductive Tups (h:Heap):List Value->List (List Int)->Prop where
 | nil:Tups h [] []
 | cons {a:Addr} {its:Array Value} {k:List Int} {vs:List Value} {ks:List (List Int)} (t:IsTup h a its) (i:IntsAre its.toList k) (ne:k≠[]) (r:Tups h vs ks):Tups h (.ref a::vs) (k::ks)
theorem Tups.len {h:Heap}{vs:List Value}{ks:List (List Int)}(t:Tups h vs ks):vs.length=ks.length:=by
 induction t with
 | nil=>rfl
 | cons _ _ _ _ ih=>simp[ih]
theorem Tups.on {h h':Heap}{vs:List Value}{ks:List (List Int)}(t:Tups h vs ks)(k:∀a o,(.ref a)∈vs->h.get? a=some o->h'.get? a=some o):Tups h' vs ks:=by
 induction t with
 | nil=>exact .nil
 | cons x i ne r ih=>
  obtain⟨o,e,c⟩:=x;exact .cons ⟨o,k _ o zG e,c⟩ i ne (ih fun a o m e=>k a o (zJ _ m) e)
theorem Tups.at {h:Heap}{vs:List Value}{ks:List (List Int)}(t:Tups h vs ks):∀{i:Nat},i<vs.length->∃a its,vs.getD i .none= .ref a/\IsTup h a its/\IntsAre its.toList (ks.getD i [])/\ks.getD i []≠[]:=by
 induction t with
 | nil=>intro i hi;simp at hi
 | cons x i ne r ih=>
  intro j hj;cases j with
  | zero=>exact⟨_,_,rfl,x,i,ne⟩
  | succ j=>exact ih (i:=j) (by simpa using hj)
section
variable {prog:Program}{w:World}{A:Around}{E:Value->Shared->Prop}{s:Shared}{h₀:Heap}{L D:Addr}{m:Str->Option Value}{vs:List Value}{ks:List (List Int)}
theorem a6Q {fin:Bool}{Q:Bool->Shared->Prop}:∀{us ws:List Value} {ns ms:List Int} {i:Nat},IntsAre us ns->IntsAre ws ms->fin=decide (us.length<ws.length)->
  Q (HT.lexLt ns ms) s->KatLex prog w A true fin Q (us.zip ws) i s
 | [],[],_,_,i,h1,h2,ef,q=>by
  cases h1;cases h2;rw[zip_nil_left];exact kat_nil (by rw[ef];exact q)
 | [],_::_,_,_,i,h1,h2,ef,q=>by
  cases h1;cases h2;rw[zip_nil_left];exact kat_nil (by rw[ef];simpa [HT.lexLt] using q)
 | _::_,[],_,_,i,h1,h2,ef,q=>by
  cases h1;cases h2;rw[List.zip_nil_right];exact kat_nil (by rw[ef];simpa [HT.lexLt] using q)
 | _::us,_::ws,_,_,i,h1,h2,ef,q=>by
  cases h1 with
  | cons a t h1=>
   cases h2 with
   | cons c u h2=>
    rw[jX];rw[HT.lexLt_cons] at q;refine kat_cons (SeqAt.EqAt.int_int a t c u prog w _ _ ?_)
    by_cases e:a=c
    ·rw[if_pos e] at q;rw[show(a==c)=true by simpa using e]
     exact kat_yes (a6Q h1 h2 (by rw[ef];simp) q)
    ·rw[if_neg e] at q;rw[show(a==c)=false by simpa using e]
     refine kat_no ?_;cases hb:(true&&i==0) with
     | true=>exact oneLt_int q
     | false=>exact kat_one _ _ (lt_int q)
theorem katTups {h:Heap}{vs:List Value}{ks:List (List Int)}(t:Tups h vs ks):∃fs,KatTups h vs fs/\fs.length=ks.length/\∀v∈fs,∃(i:Int) (u:Tok),v= .int i u:=by
 induction t with
 | nil=>exact⟨[],.nil,rfl,fun v hv=>by cases hv⟩
 | @cons a its k vs ks x i ne r ih=>
  obtain⟨fs,h1,h2,h3⟩:=ih;obtain⟨o,e,c,n,d⟩:=x;obtain⟨its⟩:=its;cases i with
  | nil=>exact absurd rfl ne
  | cons n0 t0 r'=>exact⟨_,.cons e c d (by rfl) h1,by simp[h2],fun v hv=>(zK.mp hv).elim (fun z=>⟨_,_,z⟩) (h3 v)⟩
theorem a86 {s:Shared}(T:Tups s.heap vs ks)(i j:Nat)(C:Bool->Shared->Prop)(hi:i<vs.length)(hj:j<vs.length)(q:C (HT.lexLt (ks.getD i []) (ks.getD j [])) s):kas_ask prog w A (tuples' true) vs i j C s:=by
 obtain⟨a,its,ea,⟨o,h1,h2,n,h3⟩,ia,_⟩:=T.at hi;obtain⟨b,its2,eb,⟨o2,g1,g2,n2,g3⟩,ib,_⟩:=T.at hj;unfold kas_ask;rw[ea,eb];exact kat_lt h1 h3 g1 g3 (a6Q ia ib (by simp) q)
theorem a5B {Q:Value->Shared->Prop}(F:Fr h₀ L s.heap m)(hD:s.heap.get? D=some (listOf vs.toArray 0))(hDL:D≠L)(hD0:h₀.get? D=none)(T:Tups s.heap vs ks)(nD:Value.ref D∉vs)(nL:Value.ref L∉vs)(k0:∀b o,h₀.get? b=some o->s.heap.get? b=some o)(h2:2<=vs.length)(h64:vs.length<64)
  (q:∀(h':Heap) (p:Array Nat) (e:Nat),Fr h₀ L h' m->(∀b o,b≠L->b≠D->s.heap.get? b=some o->h'.get? b=some o)->h'.get? D=some (listOf (p.toList.map fun i=>vs.getD i .none).toArray e)->PB vs.length p->SoTo (O:=lexO) (fun i=>ks.getD i []) p vs.length->Q .none {s with heap:=h'}):
  wpAny (model prog w) A (call (.builtin "list.sort") [.ref D]) Q E s:=by
 have kept:=fun{h':Heap} (F':Fr h₀ L h' m) (N':News h₀ L h' (L2.rest h₀ s.heap L D))=>L2.a15 (d:=D) k0 F' N';refine kat_lsort (vs:=vs) F (L2.a8Y hDL hD0 hD) (.head L2.a5h) (by simp) h2 h64 fun e1 h' F' N'=>?_
 have K':=kept F' fun p hp=>N' p (zJ _ hp);have T':Tups h' vs ks:=T.on fun a o ma e=>K' a o (fun z=>nL (z▸ma)) (fun z=>nD (z▸ma)) e;obtain⟨fs,f1,f2,f3⟩:=katTups T';refine kat_kind (s:={s with heap:=h'}) (T:=.type "int") f1 (by rw[f2,<-T.len];walk_at "o") (fun v hv=>by obtain⟨i,u,rfl⟩:=f3 v hv;exact Looks.of_pure rfl) (by decide) ?_
 have tb:(Value.type "int" != Value.type "tuple")=true:=by decide
 rw[tb];refine a4s (s:={s with heap:=h'}) (n:=vs.length) (lt:=ltK (O:=lexO) fun i=>ks.getD i []) (fun i j C hi hj c=>a86 (s:={s with heap:=h'}) T' i j C hi hj c) _ (a7a (by walk_at "o") fun p hp hs=>?_)
 refine KasFin.intro F' N' (.head L2.a5h) fun h3 c F3 N3=>?_;exact q h3 p c F3 (kept F3 fun p hp=>N3 p (zJ _ hp)) (N3 _ zG).1 hp hs
theorem a3M {Q:Value->Shared->Prop}(hD:s.heap.get? D=some (listOf vs.toArray 0))(h2:vs.length<2)
  (q:∀(h':Heap) (e:Nat),(∀b o,b≠D->s.heap.get? b=some o->h'.get? b=some o)->h'.get? D=some (listOf vs.toArray e)->Q .none {s with heap:=h'}):
  wpAny (model prog w) A (call (.builtin "list.sort") [.ref D]) Q E s:=by
 refine qR slot_list_sort ⟨_,hD,rfl⟩ entry_list_sort ?_ (args_list_sort _);rw[list_sort_plain];have lt:D<s.heap.objs.size:=zX hD;refine zA (listItems_at hD rfl (zA (listUpdate_at hD rfl ?_)));obtain⟨e1,k1⟩:∃e1,(s.heap.update D (PySem.Obj.mapSeq fun _=> #[])).get? D=some (seqObj "list" #[] e1):=⟨_,get?_update_seq hD (fun _=> #[])⟩;refine zA (seqEpoch_at k1 rfl (zA (wpAny_newTuple (zA (wpAny_newList (qD ?_))))));have k2:(((s.heap.update D (PySem.Obj.mapSeq fun _=> #[])).push (seqObj "tuple" vs.toArray 0)).push (seqObj "list" #[] 0)).get? D=some (seqObj "list" #[] e1):=zD _ (zD _ k1);show wpAny (model prog w) _ _ _ E {s with heap:=((s.heap.update D (PySem.Obj.mapSeq fun _=> #[])).push (seqObj "tuple" vs.toArray 0)).push (seqObj "list" #[] 0)}
 dsimp only;have sz:vs.toArray.size<2:=by simpa using h2
 rw[if_pos sz,if_pos sz];refine zA (zB ?_);rw[StateT.run_pure];refine zA (zB ?_);dsimp only;have out:(arrOf (SortSt.mk' general' (vs.toArray.zip vs.toArray) #[] 7 none)).map (·.2)=vs.toArray:=by
  show(vs.toArray.zip vs.toArray).map (·.2)=vs.toArray;have e:(vs.toArray.zip vs.toArray)=(vs.zip vs).toArray:=by simp
  rw[e,List.map_toArray];congr 1;exact List.map_snd_zip (zF _)
 rw[out];refine zA (seqEpoch_at k2 rfl (zA (listUpdate_at k2 rfl ?_ (hsz2:=by rw[jO];walk_at "o"))))
 simp only[bne_self_eq_false,jJ,xH];obtain⟨e2,k3⟩:∃e2,((((s.heap.update D (PySem.Obj.mapSeq fun _=> #[])).push (seqObj "tuple" vs.toArray 0)).push (seqObj "list" #[] 0)).update D (PySem.Obj.mapSeq fun _=>vs.toArray)).get? D=some (seqObj "list" vs.toArray e2):=⟨_,get?_update_seq k2 (fun _=>vs.toArray)⟩;refine zB ⟨_,rfl,q _ e2 (fun b o hb e=>?_) k3⟩;rw[yG _ _ _ _ hb];refine zD _ (zD _ ?_);rw[yG _ _ _ _ hb];exact e
end
abbrev kleB (a b:List Int):Bool:=!HT.lexLt b a
def sortK (ks:List (List Int)):List (List Int):=ks.mergeSort kleB
theorem g5 (ks:List (List Int)):(sortK ks).Perm ks:=List.mergeSort_perm ks _
theorem a2C (ks:List (List Int)):(sortK ks).Pairwise fun a b=>HT.lexLt b a=false:=by
 have:=List.pairwise_mergeSort (le:=kleB) (fun a b c h1 h2=>by
  simp only[kleB,yF] at *;exact KeyOrd.kle_trans (O:=lexO) h1 h2) (fun a b=>by
  simp only[kleB,Bool.or_eq_true,yF];cases q:HT.lexLt b a with
  | false=>exact .inl rfl
  | true=>exact .inr (KeyOrd.klt_asymm (O:=lexO) q)) ks
 exact this.imp fun h=>by simpa [kleB] using h
theorem a1S:∀{l1 l2:List (List Int)},l1.Perm l2->(l1.Pairwise fun a b=>HT.lexLt b a=false)->(l2.Pairwise fun a b=>HT.lexLt b a=false)->l1=l2
 | [],l2,h,_,_=>(List.nil_perm.mp h).symm
 | a::l1,[],h,_,_=>by have:=h.length_eq;simp at this
 | a::l1,b::l2,h,h1,h2=>by
  have h1':=List.pairwise_cons.mp h1;have h2':=List.pairwise_cons.mp h2;have e:a=b:=by
   have ma:a∈b::l2:=h.mem_iff.mp zG;have mb:b∈a::l1:=h.mem_iff.mpr zG;rcases zK.mp ma with z|z
   ·exact z
   ·rcases zK.mp mb with y|y
    ·exact y.symm
    ·exact a2i a b (h2'.1 a z) (h1'.1 b y)
  subst e;rw[a1S ((List.perm_cons a).mp h) h1'.2 h2'.2]
inductive Al (K:PySem.W.Frag) (H:Hp):List Addr->List (List Int)->Prop where
 | nil:Al K H [] []
 | cons {a:Addr} {k:List Int} {as:List Addr} {ks:List (List Int)} (q:SqT K H a (k.map V.int)) (r:Al K H as ks):Al K H (a::as) (k::ks)
section
variable {K:PySem.W.Frag}{H:Hp}
theorem Al.len {as:List Addr}{ks:List (List Int)}(h:Al K H as ks):as.length=ks.length:=by
 induction h with
 | nil=>rfl
 | cons _ _ ih=>simp[ih]
theorem Al.at {as:List Addr}{ks:List (List Int)}(h:Al K H as ks):∀{i:Nat},i<as.length->SqT K H (as.getD i 0) ((ks.getD i []).map V.int):=by
 induction h with
 | nil=>intro i hi;simp at hi
 | cons q r ih=>
  intro i hi;cases i with
  | zero=>exact q
  | succ i=>exact ih (i:=i) (by simpa using hi)
theorem Al.pick {as:List Addr}{ks:List (List Int)}(h:Al K H as ks):∀{l:List Nat},(∀i∈l,i<as.length)->Al K H (l.map fun i=>as.getD i 0) (l.map fun i=>ks.getD i [])
 | [],_=>.nil
 | i::l,hl=>.cons (h.at (hl i zG)) (h.pick fun j hj=>hl j (zJ _ hj))
theorem Al.den {O:Av}{as:List Addr}{ks:List (List Int)}(h:Al K H as ks):DenL K O H (ks.map tupI) (as.map V.ref):=by
 induction h with
 | nil=>exact j3
 | cons q r ih=>
  refine g7 ?_ ih;unfold tupI;rw[Den];exact⟨_,_,rfl,q,B7 _⟩
end
theorem a0t {K:PySem.W.Frag}{O:Av}{H:Hp}:∀{ds:List D} {ks:List (List Int)} {vs:List V},tupsOf ds=some ks->DenL K O H ds vs->∃as,vs=as.map V.ref/\Al K H as ks
 | [],ks,vs,e,l=>by rw[DenL] at l;subst l;cases e;exact⟨[],rfl,.nil⟩
 | d::ds,ks,vs,e,l=>by
  rw[DenL] at l;obtain⟨v,r,rfl,h,l⟩:=l;cases d<;>simp only[tupsOf] at e<;>try cases e
  rename_i xs;cases e1:intsOf xs with
  | none=>rw[e1] at e;cases e
  | some k=>
   rw[e1] at e;simp only[bind_some] at e;cases e2:tupsOf ds with
   | none=>rw[e2] at e;cases e
   | some ks'=>
    rw[e2] at e;cases e;obtain⟨as,rfl,a⟩:=a0t e2 l;rw[p4 e1,Den] at h;obtain⟨p,us,rfl,q,lu⟩:=h;rw[k6 lu] at q;exact⟨p::as,rfl,.cons q a⟩
section
variable {X:Cx}{pins:List (Addr×PySem.Obj)}{σ:L2.St}{H:Hp}{s:Shared}
theorem Al.tups {as:List Addr}{ks:List (List Int)}(I:Inv X pins σ H s)(h:Al X.K H as ks)(ne:∀k∈ks,k≠[]):Tups s.heap (as.map Value.ref) ks:=by
 induction h with
 | nil=>exact .nil
 | cons q r ih=>
  obtain⟨its,r1,p1,_⟩:=I.tuple q;exact .cons p1 (F9 r1) (ne _ zG) (ih fun k hk=>ne k (zJ _ hk))
theorem a1u:∀as:List Addr,Vals (as.map V.ref) (as.map Value.ref)
 | []=>.nil
 | a::as=>.cons rfl (a1u as)
theorem S9:∀{as:List Addr} {us:List Value},Vals (as.map V.ref) us->us=as.map Value.ref
 | [],us,r=>by cases r;rfl
 | a::as,us,r=>by
  cases r with
  | cons h t=>cases h;rw[S9 t];rfl
theorem a1s {A:Around}{E:Value->Shared->Prop}{as:List Addr}{ks:List (List Int)}{Q:VK}(I:Inv X pins σ H s)(a:Al X.K H as ks)(ne:∀k∈ks,k≠[])(h64:ks.length<64)
  (q:∀l bs,H l=none->Al X.K H bs (sortK ks)->Q (.ref l) (upd H l (.lst (bs.map V.ref)))):
  wpAny (model X.prog X.w) A (call (.builtin "list.sort") [.ref s.heap.objs.size]) (fun _ s'=>EP X pins σ Q (.ref s.heap.objs.size) s') E {s with heap:=s.heap.push (PySem.W.listOf (as.map Value.ref).toArray 0)}:=by
 have I2:Inv X pins σ H {s with heap:=s.heap.push (PySem.W.listOf (as.map Value.ref).toArray 0)}:=I.kept (t':=s.toks) fun b o e=>zD _ e
 obtain⟨m,F⟩:=I2.fr;have T:=a.tups I2 ne;have fr:H s.heap.objs.size=none:=I.hok.fresh (zF _);have hD:(s.heap.push (PySem.W.listOf (as.map Value.ref).toArray 0)).get? s.heap.objs.size=some (PySem.W.listOf (as.map Value.ref).toArray 0):=zW _ rfl;have dL:s.heap.objs.size≠X.env.locals:=Nat.ne_of_gt I.lt;have al:=a.len;have fin:∀(h':Heap) (p:List Nat) (ec:Nat),Fr X.base X.env.locals h' m->(∀b o,b≠X.env.locals->b≠s.heap.objs.size->(s.heap.push (PySem.W.listOf (as.map Value.ref).toArray 0)).get? b=some o->h'.get? b=some o)->
   h'.get? s.heap.objs.size=some (PySem.W.listOf (p.map fun i=>Value.ref (as.getD i 0)).toArray ec)->p.Perm (List.range ks.length)->((p.map fun i=>ks.getD i []).Pairwise fun a b=>HT.lexLt b a=false)->EP X pins σ Q (.ref s.heap.objs.size) {s with heap:=h'}:=fun h' p ec F' kp hD' pp ps=>by
  have lt:∀i∈p,i<as.length:=fun i hi=>by have:=pp.mem_iff.mp hi;rw[al];simpa using this
  have ek:(p.map fun i=>ks.getD i [])=sortK ks:=by
   refine a1S (((pp.map _).trans ?_).trans (g5 ks).symm) ps (a2C ks)
   have:(List.range ks.length).map (fun i=>ks.getD i [])=ks:=by
    apply ext_getElem?;intro i
    by_cases hi:i<ks.length
    ·rw[qH,getElem?_range hi];simp[hi]
    ·rw[jI (by simp;walk_at "o"),jI (by walk_at "o")]
   rw[this]
  have pk:=a.pick lt;rw[ek] at pk;have kept:∀b o,b≠X.env.locals->s.heap.get? b=some o->h'.get? b=some o:=fun b o hb e=>kp b o hb (zY (zX e)) (zD _ e);have nD:∀b o,s.heap.get? b=some o->b≠s.heap.objs.size:=fun b o e=>zY (zX e);have nH:∀b u,H b=some u->b≠s.heap.objs.size:=fun b u e=>l0 e fr;have nLH:∀b u,H b=some u->b≠X.env.locals:=fun b u e z=>by rw[z,I.free] at e;cases e
  refine⟨.ref s.heap.objs.size,upd H s.heap.objs.size (.lst ((p.map fun i=>as.getD i 0).map V.ref)),?_,rfl,q _ _ fr pk⟩;refine I.step (g':=s.gens) (t':=s.toks) (d':=s.drawn) (ch:=[]) (fun _ z=>nomatch z) (fun b o hL _ _ e _=>kept b o hL e) (fun b o hL _ _ e _=>⟨o.slots,kept b o hL e⟩) (fun b o _ e n=>by rw[c7 (nD b o e)];exact n) (fun b o _ e=>?_)
   (fun b xs e=>by rw[c7 (nH _ _ e)];exact e) (fun b o u e=>by rw[c7 (nH _ _ e)];exact e) (fun b ps e=>⟨#[],by rw[c7 (nH _ _ e),e];simp⟩) (fun m' hm=>?_) (fun b u e=>?_) I.bare
  ·by_cases hL:b=X.env.locals
   ·obtain⟨o',_,_,e',_⟩:=F'.ns;rw[hL];exact⟨o',e'⟩
   ·exact⟨o,kept b o hL e⟩
  ·have e1:m'=m:=by
    have z1:(s.heap.push (PySem.W.listOf (as.map Value.ref).toArray 0)).Ns X.env.locals m':=by
     obtain⟨o,es,ep,e,r⟩:=hm;exact⟨o,es,ep,zD _ e,r⟩
    rw[z1.eq_nsMap,F.ns.eq_nsMap]
   rw[e1];exact F'.ns
  ·by_cases hb:b=s.heap.objs.size
   ·subst hb;rw[j9] at e;cases e;refine⟨?_,(p.map fun i=>as.getD i 0).map Value.ref,ec,a1u _,?_⟩
    ·rw[zC,zC,pp.length_eq,length_range,jO];walk_at "o"
    ·rw[hD'];simp[qS,Function.comp_def]
   ·rw[c7 hb] at e
    refine(I.hok b u e).stay (fun c v hc z=>kept c v (by
     rcases hc with w|w
     ·rw[w];exact nLH b u e
     ·exact nLH c _ w) z) (fun c z=>by rw[c7 (nH _ _ z)];exact z) fun c ys z=>by rw[c7 (nH _ _ z)];exact z
 have gr:∀p:List Nat,(∀i∈p,i<as.length)->(p.map fun i=>(as.map Value.ref).getD i .none)=p.map fun i=>Value.ref (as.getD i 0):=fun p hp=>jG fun i hi=>by simp[hp i hi]
 have tp:∀{vs:List Value} {ks:List (List Int)},Tups s.heap vs ks->∀a,Value.ref a∈vs->∃its,IsTup s.heap a its:=fun{vs ks} t=>by
  induction t with
  | nil=>intro a z;cases z
  | cons x i ne r ih=>
   intro a z;rcases zK.mp z with z|z
   ·cases z;exact⟨_,x⟩
   ·exact ih a z
 have tp:=tp (a.tups I ne)
 by_cases h2:ks.length<2
 ·refine a3M hD (by rw[zC,al];exact h2) fun h' e kp hD'=>fin h' (List.range ks.length) e ⟨?_,fun b o eb=>kp b o (fun z=>?_) (F.keep b o eb),F.above⟩ (fun b o _ hb eb=>kp b o hb eb) ?_ (List.Perm.refl _) ?_
  ·obtain⟨o,es,ep,e1,r⟩:=F.ns;exact⟨o,es,ep,kp _ o (qX dL) e1,r⟩
  ·have:=I.bk b o eb
   exact absurd (zX this) (by rw[z];exact jL _)
  ·rw[hD',<-al];congr 3;apply ext_getElem?;intro i
   by_cases hi:i<as.length
   ·rw[qH,qH,getElem?_range hi];simp[hi]
   ·rw[jI (by simp;walk_at "o"),jI (by simp;walk_at "o")]
  ·match ks,h2 with
   | [],_=>exact .nil
   | [k],_=>exact List.pairwise_singleton _ _
 ·refine a5B F hD dL ?_ T (fun z=>?_) (fun z=>?_) F.keep (by rw[zC,al];walk_at "o") (by rw[zC,al];walk_at "o") fun h' p e F' kp hD' hp hs=>?_
  ·cases q0:X.base.get? s.heap.objs.size with
   | none=>rfl
   | some o=>exact absurd (zX (I.bk _ o q0)) (jL _)
  ·obtain⟨its,o,e1,_⟩:=tp _ z;exact absurd (zX e1) (jL _)
  ·obtain⟨its,o,e1,_,n,d1⟩:=tp _ z;obtain⟨m2,⟨o2,es,ep,e2,d2,_⟩,_⟩:=id I.loc;rw[e1] at e2;cases e2;rw[d1] at d2;cases d2
  ·have pp:p.toList.Perm (List.range ks.length):=by
    have:=Array.perm_iff_toList_perm.mp hp.perm
    rw[zC,al] at this;simpa using this
   have sz:p.size=ks.length:=by rw[hp.size,zC,al]
   refine fin h' p.toList e F' kp ?_ pp ?_
   ·rw[hD',gr p.toList fun i hi=>by have:=pp.mem_iff.mp hi;rw[al];simpa using this]
   ·rw[List.pairwise_iff_getElem];intro i j hi hj hij;have hj':j<p.size:=by simpa using hj
    have hi':i<p.size:=by simpa using hi
    have z:=hs i j (Nat.le_of_lt hij) (by rw[zC,al,<-sz];exact hj')
    simp only[List.getElem_map,Array.getElem_toList];unfold Ky at z;have g1:p.getD i 0=p[i]:=by simp[Array.getD,hi']
    have g2:p.getD j 0=p[j]:=by simp[Array.getD,hj']
    rw[g1,g2] at z;exact z
end
def SrcT (K:PySem.W.Frag) (H:Hp) (p:Addr) (ks:List (List Int)):Prop:=(∃as,SqL K H p (as.map V.ref)/\Al K H as ks)\/∃vs,H p=some (.dT ((ks.map fun k=>k.map Sum.inl).zip vs))/\ks.length=vs.length
theorem b0W (k:List Int):(k.map (Sum.inl:Int->Key)).map kV=k.map V.int:=by rw[qS];rfl
theorem a9G {K:PySem.W.Frag}{H:Hp}:∀{ks:List (List Int)} {vs:List V} {xs:List (List Key×Addr×Value)},ks.length=vs.length->KT H ((ks.map fun k=>k.map Sum.inl).zip vs) xs->Al K H (xs.map (·.2.1)) ks
 | [],vs,xs,hl,r=>by
  rw[xT,zip_nil_left] at r;cases r;exact .nil
 | k::ks,[],xs,hl,r=>by simp at hl
 | k::ks,v::vs,xs,hl,r=>by
  rw[zH,jX] at r;cases r with
  | cons h t=>
   obtain⟨h1,h2,_⟩:=h;rw[zH];refine .cons (.inl (.inl ?_)) (a9G (by simpa using hl) t)
   rw[h2,b0W]
section
variable {X:Cx}{e:Expr}{pos p:Pos}{fa:FA}
theorem a2m (hc:X.calm=true):CallR X (.builtin "sorted") (fun xs H Q=>∃p ks,xs=[.ref p]/\SrcT X.K H p ks/\ks.length<64/\(∀k∈ks,k≠[])/\∀l bs,H l=none->Al X.K H bs (sortK ks)->Q (.ref l) (upd H l (.lst (bs.map V.ref)))):=by
 intro pins s σ H xs us Q I r h;obtain⟨p,ks,rfl,src,h64,ne,q⟩:=h;obtain⟨u,rfl,ru⟩:=vals1 r;cases ru;refine Calls.call_function_entry kind_sorted plain_sorted entry_sorted (args_sorted1 _) ?_;unfold Builtin.«sorted»;refine zA (m:=checkCount "sorted" 1 1 _) (zB ?_);rcases src with ⟨as,hq,al⟩|⟨vs,hq,hl⟩
 ·have len:=al.len;obtain⟨its,rv,⟨o,m,h1,h2,_,h4⟩,hz⟩:=I.list hq;have ei:=S9 rv;subst ei;have hL:s.heap.IsList p (as.map Value.ref).toArray:=⟨o,h1,h2,m,h4⟩;have sz:(as.map Value.ref).length<=sizeLine:=by rw[zC,len,jO];walk_at "o"
  refine zA (collect_list hL ?_ sz);refine zA (wpAny_newList ?_ sz);have I1:Inv X pins σ H {s with heap:=(s.heap.push (seqObj "list" #[] 0)).update s.heap.objs.size (PySem.Obj.mapSeq (· ++ (as.map Value.ref).toArray))}:=I.kept (t':=s.toks) fun b o e=>by
   rw[yG _ _ _ _ (zY (zX e))];exact zD _ e
  refine zA (qD (zR (a1s I1 al ne h64 q) (fun _ s' x=>?_) fun _ _ z=>z));exact zB ⟨_,rfl,x⟩
 ·obtain⟨z,hs,xs,rel,o,es,h1,h2,h3,h4,h5⟩:=(show ObjOk X.prog X.w H s.heap p (.dT ((ks.map fun k=>k.map Sum.inl).zip vs)) from I.hok p _ hq);have al:=a9G (K:=X.K) hl rel;have len:=al.len;have sz:es.size=ks.length:=by rw[<-len,zC,<-qZ,h4,zC]
  have szl:es.size<=sizeLine:=by rw[sz,jO];walk_at "o"
  refine zA (PySem.W.kdu_collect (a9l (es:=es) hs) (show X.A.in1.handled=none from I.ok.hd hc) ⟨o,h1,h2,h3⟩ szl fun h' tk acc hk hacc=>?_);have ea:acc.toList=(xs.map (·.2.1)).map Value.ref:=by
   have e0:(xs.map (·.2.1)).map Value.ref=es.toList.map (·.key):=by rw[h4,qS,qS];rfl
   rw[e0];apply ext_getElem?;intro i;rw[Array.getElem?_toList,qH,Array.getElem?_toList]
   by_cases hi:i<es.size
   ·have hi2:i<acc.size:=by rw[hacc.1];exact hi
    obtain⟨e,he,hv⟩:=hacc.2 i acc[i] (by simp[hi2])
    rw[he,Array.getElem?_eq_getElem hi2,hv];rfl
   ·rw[Array.getElem?_eq_none (by rw[hacc.1];walk_at "o"),Array.getElem?_eq_none (by walk_at "o")];rfl
  rw[ea];refine zA (wpAny_newList ?_ (by rw[zC,len,<-sz];exact szl))
  have I1:Inv X pins σ H {s with heap:=h',toks:=tk}:=I.kept (t':=tk) hk
  refine zA (qD (zR (a1s I1 al ne h64 q) (fun _ s' x=>?_) fun _ _ z=>z));exact zB ⟨_,rfl,x⟩
def inlK:List Key->Option (List Int)
 | []=>some []
 | Sum.inl i::k=>(inlK k).map fun j=>i::j
 | Sum.inr _::_=>none
def inlKs:List (List Key)->Option (List (List Int))
 | []=>some []
 | k::ks=>(inlK k).bind fun j=>(inlKs ks).map fun js=>j::js
theorem a4C:∀{k:List Key} {j:List Int},inlK k=some j->k=j.map Sum.inl
 | [],j,e=>by cases e;rfl
 | Sum.inr _::_,j,e=>by cases e
 | Sum.inl i::k,j,e=>by
  rw[inlK] at e;cases e1:inlK k with
  | none=>rw[e1] at e;cases e
  | some js=>rw[e1] at e;cases e;rw[zH,<-a4C e1]
theorem a23:∀{ks:List (List Key)} {js:List (List Int)},inlKs ks=some js->ks=js.map fun k=>k.map Sum.inl
 | [],js,e=>by cases e;rfl
 | k::ks,js,e=>by
  rw[inlKs] at e;cases e1:inlK k with
  | none=>rw[e1] at e;cases e
  | some j=>
   cases e2:inlKs ks with
   | none=>rw[e1,e2] at e;cases e
   | some js'=>rw[e1,e2] at e;cases e;rw[zH,<-a23 e2,<-a4C e1]
def keysOf:D->Option (List (List Int))
 | .dT ks _=>inlKs ks
 | .lst ds=>tupsOf ds
 | _=>none
def gSortT (d:D):Option W:=(keysOf d).bind fun ks=>if ks.length<64/\(∀k∈ks,k≠[]) then some (.o (.lst ((sortK ks).map tupI))) else none
def gSort (d:D):Option W:=match gSortI d with
 | some w=>some w
 | none=>gSortT d
theorem a3C {K:PySem.W.Frag}{A:Av}{H:Hp}{d:D}{ks:List (List Int)}{v:V}(e:keysOf d=some ks)(h:DenR K A H d v):∃p,v= .ref p/\SrcT K H p ks:=by
 cases d with
 | dT js xs=>
  obtain⟨a,vs,rfl,hq,hl,l⟩:=h;have ej:=a23 e;subst ej;exact⟨a,rfl,.inr ⟨vs,hq,by rw[<-b8 l,<-hl,zC]⟩⟩
 | lst ds=>
  obtain⟨a,vs,rfl,hq,l⟩:=h;obtain⟨as,rfl,al⟩:=a0t e l;exact⟨a,rfl,.inl ⟨as,hq,al⟩⟩
 | _=>cases e
theorem a8b:PrA X (k1 gSortT) (fun xs H Q=>∃p ks,xs=[.ref p]/\SrcT X.K H p ks/\ks.length<64/\(∀k∈ks,k≠[])/\∀l bs,H l=none->Al X.K H bs (sortK ks)->Q (.ref l) (upd H l (.lst (bs.map V.ref)))):=pr1 fun A d w v H Q e h q=>by
 unfold gSortT at e;cases e1:keysOf d with
 | none=>rw[e1] at e;cases e
 | some ks=>
  rw[e1] at e;simp only[bind_some] at e;split at e
  ·rename_i hl;cases e;obtain⟨a,rfl,src⟩:=a3C e1 h;exact⟨a,ks,rfl,src,hl.1,hl.2,fun l bs hp al=>q _ _ (j4 hp _) (F6 hp al.den)⟩
  ·cases e
theorem a8V:PrA X (k1 gSort) (fun xs H Q=>(∃(p:Addr) (ns:List Int),xs=[.ref p]/\SqL X.K H p (ns.map V.int)/\ns.length<64/\∀l,H l=none->Q (.ref l) (upd H l (.lst ((sortI ns).map V.int))))\/
  ∃p ks,xs=[.ref p]/\SrcT X.K H p ks/\ks.length<64/\(∀k∈ks,k≠[])/\∀l bs,H l=none->Al X.K H bs (sortK ks)->Q (.ref l) (upd H l (.lst (bs.map V.ref)))):=fun A ds w vs H Q hA e l q=>by
 match ds,e,l with
 | [d],e,l=>
  have e:gSort d=some w:=e;unfold gSort at e;cases e1:gSortI d with
  | some w'=>rw[e1] at e;cases e;exact .inl (a7I A [d] w vs H Q hA e1 l q)
  | none=>rw[e1] at e;exact .inr (a8b A [d] w vs H Q hA e l q)
theorem a1a {k:Nat}(hr:Room k X.A)(hc:X.calm=true)(hm:X.mg "sorted"=none)(ha:QA X [e] fa)(hv:bootBuiltins "sorted"=some (.builtin "sorted"):=by rfl)(hg:Gl X "sorted":=by rfl)
  (he:starEach [e] X.env=(false,eval e X.env)::starEach [] X.env:=by rfl):QX X (.Call (.Name "sorted" p) [e] [] pos) (fCall (k1 gSort) fa):=a0r (a2p.or (a2m hc)) a8V hv hm ha hg (by decide) (by decide) he rfl
end
section
variable {prog:Program}{w:World}{A:Around}{R:Result->Shared->Prop}{s:Shared}
theorem a3I {kx vx tg iter:Expr}{ifs:List Expr}{scope:Scope}{pos:Pos}{it:Value}{D:Addr}{env:Env}(I:Nat->Shared->Prop)
  (turn:∀n s,I n s->wpAny (model prog w) A (pyNext it) (fun r s1=>match r with
   | none=>R (.ok .next) s1
   | some v=>wpAny (model prog w) A (letOwnedTupleGo tg it v) (fun _ s2=>wpAny (model prog w) A (assign tg env v) (fun _ s3=>
     wpAny (model prog w) A (forIn ifs true fun c r=>if r=true then do let ok <-isTrue c env (eval c env);pure (ForInStep.yield ok) else pure (ForInStep.yield r)) (fun ok s4=>
      if ok=true then wpAny (model prog w) A (eval kx env) (fun kv s5=>wpAny (model prog w) A (eval vx env) (fun vv s6=>wpAny (model prog w) A (dictSet D kv vv) (fun _ s7=>∃m,m<n/\I m s7) Fa s6) Fa s5) Fa s4
      else ∃m,m<n/\I m s4) Fa s3) Fa s2) Fa s1) Fa s)
  (n:Nat) (h:I n s):codeAny (model prog w) A (.compLoop (.DictComp kx vx [⟨tg,iter,ifs,0⟩] scope pos) 0 it (.ref D) env) R s:=by
 refine codeAny_loop rfl I (fun n s hI=>?_) n h;show wpAny _ A ((compTurn (.DictComp kx vx [⟨tg,iter,ifs,0⟩] scope pos) 0 it (.ref D) env).onRaise (fun x=>do noteFrame x env;theTreesLotGoes x)) _ _ s
 refine wpAny_noted ?_;rw[compTurn_dict];refine zA (wpAny_standAt (zA (zR (turn n s hI) (fun r s1 h1=>?_) fun _ _ z=>z.elim)));cases r with
 | none=>exact zB h1
 | some v=>
  refine zA (zR h1 (fun _ s2 h2=>zA (zR h2 (fun _ s3 h3=>zA (zR h3 (fun ok s4 h4=>?_) fun _ _ z=>z.elim)) fun _ _ z=>z.elim)) fun _ _ z=>z.elim);cases ok with
  | true=>
   rw[if_pos rfl] at h4 ⊢;exact zA (zA (zR h4 (fun kv s5 h5=>zA (qD (zR h5 (fun vv s6 h6=>zA (wpAny_standAt (qD (zR h6 (fun _ s7 h7=>zB ⟨rfl,h7⟩) fun _ _ z=>z.elim)))) fun _ _ z=>z.elim))) fun _ _ z=>z.elim))
  | false=>
   rw[if_neg zT] at h4 ⊢
   first|exact zB ⟨rfl,h4⟩|exact zA (zB (zB ⟨rfl,h4⟩))
end
section
variable {X:Cx}{pins:List (Addr×PySem.Obj)}{σ:L2.St}{H:Hp}{s:Shared}{a b:Addr}{v:V}{r:Value}{A:Around}{E:Value->Shared->Prop}
theorem a5N {kvs:List (List Key×V)}{k:List Key}{Q:Unit->Shared->Prop}(hu:A.units+1<cLine)(I:Inv X pins σ H s)(e:H a=some (.dT kvs))(eb:H b=some (.tup (k.map kV)))(l:kvs.length<sizeLine)(rv:RelV v r)(h:∀s',Inv X pins σ (upd H a (.dT (putK kvs k v))) s'->Q () s'):
  wpAny (model X.prog X.w) A (dictSet a (.ref b) r) Q E s:=by
 obtain⟨z,hd,xs,rel,dd⟩:=a38 I.hok (.inl e);have hz:xs.length<=sizeLine:=by rw[<-xG rel];exact z
 have hl:(putK kvs k v).length<=sizeLine:=by have:=K5 kvs k v;walk_at "o"
 refine a1g (show A.units<cLine from Nat.lt_of_succ_lt hu) (a3H I.hok eb) dd hz fun h' dd' hs=>h _ ?_;obtain⟨q,es,hq,h2,h3,h4,_,h5⟩:=dd';refine a0c I (by rw[e];exact True.intro) hs ⟨q,hq⟩ ⟨hl,hd,_,(rel.put k eb rv).keeps fun c ys ec=>?_,q,es,hq,h2,by rw[xG (rel.put k eb rv)];exact h3,h4,h5⟩
 rw[c7 (a9O ec e (fun z=>nomatch z))];exact ec
end
def putTo (k j:Nat) (p:List W×Ev):Option Ev:=(takeAll p.2 p.1).bind fun q=>(dkeys q.1).bind fun kk=>match q.2[j]? with
 | some (some (.v d))=>match ownAt q.2 k with
  | some (.dT ks zs)=>if ks.length<lim/\q.1.length<=lim then some (setOwn q.2 k (.dT (putKs ks kk) (putX ks zs kk d))) else none
  | _=>none
 | _=>none
def turnCD (k:Nat) (gf:FG) (t:FT) (fa:FA) (j:Nat):D->Ev->Option Ev:=fun x ρ=>(gf x ρ).bind fun ρ1=>(t ρ1).bind fun p=>if p.1=true then(fa p.2).bind (putTo k j) else some p.2
def fDComp (fi:FI) (li:Option (Nat×Nat)) (js:List (Option Nat)) (gf:FG) (t:FT) (fa:FA) (j:Nat):FX:=fun ρ=>(fi ρ).bind fun p=>if liB li p.2=true then
  (loopC (turnCD js.length gf t fa j) p.1 (capE (li.map (·.2)) js p.2++[some (.l (.dT [] []))])).bind fun ρe=>match ownAt ρe js.length with
   | some (.dT kz ys)=>backG li js ρe p.2 (.dT kz ys)
   | _=>none
 else none
section
variable {X:Cx}{pins:List (Addr×PySem.Obj)}{σ:L2.St}{H2:Hp}{s2:Shared}{scope:Scope}{cl:List (Str×Addr)}{N:List Str}{js:List (Option Nat)}{fp:List Addr}{it:Addr}{tn:Nat->Heap->Prop}{J:It}{vx tg iter:Expr}{es:List Expr}{kt:Nat}{kp0:Pos}{fa:FA}{j:Nat}{ifs:List Expr}{pos:Pos}{P:List (D×V)}{O:Av}{L:List (Option Nat×Addr)}{ρ ρe:Ev}{xs:List D}{gf:FG}{t:FT}{Qq:Value->Shared->Prop}{use:Option (Value->Sem Unit)}{li:Option (Nat×Nat)}
theorem a5H (hcalm:X.calm=true)(I2:Inv X pins σ H2 s2)(T:Turn X.prog X.w X.K tg J fp it tn)(st2:tn 0 s2.heap)(f2:∀y∈fp,FpOk X pins H2 y)(b:Blk X scope cl N js)(r:Rep X P O L ρ σ H2)(hl:LiOk li js ρ)(wk:Wks X.K P xs J)
  (hg:∀C,QG (blk X scope cl s2 H2 fp C (N++[accN])) tg gf) (ht:∀C,Tst (blk X scope cl s2 H2 fp C (N++[accN])) ifs t) (hu:X.A.units+1<cLine) (hka:∀C,QA (blk X scope cl s2 H2 fp C (N++[accN])) es fa) (hv:∀C,PE (blk X scope cl s2 H2 fp C (N++[accN])) vx (tVar j))
  (e:loopC (turnCD js.length gf t fa j) xs (capE (li.map (·.2)) js ρ++[some (.l (.dT [] []))])=some ρe)
  (fin:∀(Dd C:Addr) (σe:L2.St) (He:Hp) (s1:Shared),H2 Dd=none->s2.heap.objs.size<=C->Inv (blk X scope cl s2 H2 fp C (N++[accN])) [] σe He s1->Rep (blk X scope cl s2 H2 fp C (N++[accN])) P (fun b=>AvO O ρ σ b/\¬Capd ρ σ js b) ((some js.length,Dd)::lentL li σ) ρe σe He->
   compPost (model X.prog X.w) X.A X.xe use Qq (.ref Dd) C (.ok .next) s1):
  wpAny (model X.prog X.w) X.A newDict (fun acc s3=>wpAny (model X.prog X.w) X.A (newFunctionEnv scope X.env.globals cl [] X.env.qual none .none (some X.env)) (fun cenv s4=>
   codeAny (model X.prog X.w) X.A (.compStart (.DictComp (.Tuple es kt kp0) vx [⟨tg,iter,ifs,0⟩] scope pos) 0 (.ref it) acc {cenv with scope:=relabel scope X.env}) (compPost (model X.prog X.w) X.A X.xe use Qq acc cenv.locals) s4) X.xe s3) X.xe s2:=
 a1q (new:=newDict) (ob0:={cls:=.type "dict",dict:=none,data:=.dict #[]}) (o0:=.dT []) (d0:=.dT [] []) (stp:=fun ρ=>(fa ρ).bind (putTo js.length j)) (el:=fun env a s K=>wpAny (model X.prog X.w) X.A (eval (.Tuple es kt kp0) env) (fun kv s5=>wpAny (model X.prog X.w) X.A (eval vx env) (fun vv s6=>wpAny (model X.prog X.w) X.A (dictSet a kv vv) (fun _ s7=>K s7) Fa s6) Fa s5) Fa s)
  (fun h=>qV h) (fun _ _ _ e=>⟨[],e,rfl,j3⟩) (I2.hok.laid (fun y o e=>zD _ e) (zF _) (a7B s2.heap I2.big)) (fun I t n h=>a3I I t n h) codeAny_compStart_dict
  (fun{C Dd qs σ6 H7 s7 O' L' ρ2 ρt K} hL I7 rp7 e1 back=>by
   obtain⟨⟨ws0,ρ3⟩,e4,e1⟩:=obs e1;simp only[putTo] at e1;obtain⟨⟨ds,ρ4⟩,e5,e1⟩:=obs e1;dsimp only at e1;cases e6:dkeys ds with
   | none=>rw[e6] at e1;cases e1
   | some kk=>
    rw[e6] at e1;simp only[bind_some] at e1;split at e1
    ·rename_i d e7;split at e1
     ·rename_i kz zs e8;split at e1
      ·rename_i hl;cases e1;refine zR (a6B (hka C).to _ s7 σ6 H7 (fun v H9=>∃p H8,v= .ref p/\Rep (blk X scope cl s2 H2 fp C (N++[accN])) P O' L' ρ4 σ6 H8/\H8 p=none/\H9=upd H8 p (.tup (kk.map kV))) I7 ⟨P,O',L',ρ2,ws0,ρ3,rp7,e4,fun us H8 r8 l8=>?_⟩) (fun u8 s8 ⟨v8,H9,I9,r9,p,H8,ev8,rp8,hp8,eh9⟩=>?_) fun _ _ z=>z
       ·obtain⟨r9,l9,_⟩:=k8 r8 e5 l8;refine⟨?_,fun p hp=>⟨p,H8,rfl,r9,hp,by rw[X8 e6 l9]⟩⟩
        rw[<-b8 l9];exact zP hl.2 t6
       ·subst ev8 eh9;cases(show u8=Value.ref p from r9);have rp9:=rp8.grow (j4 hp8 (.tup (kk.map kV)));obtain⟨v10,sv,dv⟩:=rp9.slot j _ e7;refine zR (hv C _ s8 σ6 _ (fun v H10=>v=v10/\H10=upd H8 p (.tup (kk.map kV))) I9 ⟨v10,sv,rfl,rfl⟩) (fun u10 s10 ⟨v11,H10,I10,r10,ev11,eh10⟩=>?_) fun _ _ z=>z;subst ev11 eh10;obtain⟨d0,q1,q2⟩:=rp9.lnd js.length Dd hL;have e8':=e8;unfold ownAt at e8';rw[q1] at e8';cases e8';obtain⟨a,h1,vs,h4,hkl,lz⟩:=rp9.obj q1 rfl;rw[q2] at h1;cases h1;have hlv:kz.length=vs.length:=by rw[hkl,b8 lz]
        have kl:(kz.zip vs).length<sizeLine:=by
         rw[List.length_zip,hlv,Nat.min_self,<-hlv];exact zI hl.1 t6
        refine a5N (X:=(blk X scope cl s2 H2 fp C (N++[accN]))) (A:=X.A) hu I10 h4 (k:=kk) (b:=p) j9 kl r10 fun s11 I11=>?_;rw[a4V hlv] at I11;have g0:∀u,Go (AvO O' ρ4 σ6) (AvO O' ρ4 σ6) (fun b=>b=Dd) (upd H8 p (.tup (kk.map kV))) (upd (upd H8 p (.tup (kk.map kV))) Dd u):=fun u=>⟨fun b o eb nb=>by rw[c7 nb];exact eb,fun b z=>by rw[z];exact⟨.inr ⟨js.length,_,_,q1,rfl,q2⟩,_,h4,trivial⟩,fun b z=>.inl z⟩
        exact back I11 (rp9.mut (d:=.dT (putKs kz kk) (putX kz zs kk d)) e8 q2 (fun b o eb nb=>by rw[c7 nb];exact eb) ⟨_,j9,Y9 hkl,n6 (g0 _) _ _ (a2M lz dv)⟩)
      ·cases e1
     ·cases e1
    ·cases e1) hcalm I2 T st2 f2 b r hl wk.b hg ht e fin
end
section
variable {X:Cx}{pins:List (Addr×PySem.Obj)}{σ σe:L2.St}{H2 He:Hp}{s2:Shared}{scope:Scope}{cl:List (Str×Addr)}{N:List Str}{js:List (Option Nat)}{fp:List Addr}{Dd C:Addr}{vx tg iter:Expr}{es:List Expr}{kt:Nat}{kp0:Pos}{fa:FA}{j:Nat}{kz:List (List Key)}{ifs:List Expr}{pos:Pos}{P:List (D×V)}{O:Av}{L:List (Option Nat×Addr)}{ρ ρe:Ev}{w:W}{ys:List D}{fi:FI}{gf:FG}{t:FT}{li:Option (Nat×Nat)}
theorem a5O {Q:VK}{Qq:Value->Shared->Prop}{use:Option (Value->Sem Unit)}{H:Hp}{s:Shared}{newPos:Pos}(hc:X.calm=true)(b:Blk X scope cl N js)(hj:liJ li js=true)(hi:QI X tg iter fi)
  (hg:∀s2 H2 fp C,QG (blk X scope cl s2 H2 fp C (N++[accN])) tg gf) (ht:∀s2 H2 fp C,Tst (blk X scope cl s2 H2 fp C (N++[accN])) ifs t) (hu:X.A.units+1<cLine) (hka:∀s2 H2 fp C,QA (blk X scope cl s2 H2 fp C (N++[accN])) es fa) (hv:∀s2 H2 fp C,PE (blk X scope cl s2 H2 fp C (N++[accN])) vx (tVar j)) (hs:∀x,foldedSetIterable iter X.env x=pure x)
  (I:Inv X pins σ H s) (h:tX X (fDComp fi li js gf t fa j) σ H Q)
  (fin:∀(C:Addr) (v:V) (He:Hp) (s1:Shared),Q v He->(∀h9:Heap,(∀y,y≠C->h9.get? y=s1.heap.get? y)->Inv X pins σ He {s1 with heap:=h9})->FpOk X pins He C->(∃m,s1.heap.Ns C m)->∀vv,RelV v vv->compPost (model X.prog X.w) X.A X.xe use Qq vv C (.ok .next) s1):
  wpAny (model X.prog X.w) X.A (comprehension (.DictComp (.Tuple es kt kp0) vx [⟨tg,iter,ifs,0⟩] scope pos) scope X.env newPos newDict false (eval iter X.env) use) Qq X.xe s:=by
 obtain⟨P,O,L,ρ,w,ρ',r,e,q⟩:=h;unfold fDComp at e;obtain⟨⟨xs,ρ1⟩,e1,e⟩:=obs e;dsimp only at e;split at e
 ·rename_i hb;cases e2:loopC (turnCD js.length gf t fa j) xs (capE (li.map (·.2)) js ρ1++[some (.l (.dT [] []))]) with
  | none=>rw[e2] at e;cases e
  | some ρe=>
   rw[e2] at e;simp only[bind_some] at e;split at e
   ·rename_i kz ys ey;have hl:=b0D hj hb;refine wpAny_comprehension_free rfl hs b.clos b.kind b.nms ?_;refine zR (hi.to pins s σ H _ I ⟨P,O,L,ρ,xs,ρ1,r,e1,fun J H1 P' r1 hh wk=>(⟨P',r1,hh,wk⟩:∃P',Rep X P' O L ρ1 σ H1/\Holds P' P/\Wks X.K P' xs J)⟩) (fun v s1 h1=>zR h1 (fun itv s2 h2=>?_) fun _ _ z=>z) fun _ _ z=>z;obtain⟨it,fp,tn,J,H2,rfl,I2,T,st2,f2,P',r1,hh,wk⟩:=h2;refine a5H hc I2 T st2 f2 b r1 hl wk (hg s2 H2 fp) (ht s2 H2 fp) hu (hka s2 H2 fp) (hv s2 H2 fp) e2 fun Dd C σe He s3 hn leC I1 rp=>?_;obtain⟨Hx,rx,sx,dx⟩:=a42 r1 hl hn rp ey e;obtain⟨m,hm,_⟩:=id I1.loc;refine fin C (.ref Dd) He s3 (q _ Hx He (rx.holds hh) sx dx) (fun h9 k9=>a2V I2 f2 leC I1 k9) ?_ ⟨m,hm⟩ (.ref Dd) rfl;exact I2.fpOk leC I1.free
   ·cases e
 ·cases e
theorem a7j {k:Nat}(j:Nat){x:Str}{px:Pos}(hr:Room k X.A)(hc:X.calm=true)(b:Blk X scope cl N js)(hi:QI X tg iter fi)(hg:∀s2 H2 fp C,QG (blk X scope cl s2 H2 fp C (N++[accN])) tg gf)(ht:∀s2 H2 fp C,Tst (blk X scope cl s2 H2 fp C (N++[accN])) ifs t)(hka:∀s2 H2 fp C,QA (blk X scope cl s2 H2 fp C (N++[accN])) es fa)
  (hv:∀s2 H2 fp C,PE (blk X scope cl s2 H2 fp C (N++[accN])) (.Name x px) (tVar j)) (hj:liJ li js=true:=by rfl) (hs:∀x,foldedSetIterable iter X.env x=pure x:=by intro _;rfl):QX X (.DictComp (.Tuple es kt kp0) (.Name x px) [⟨tg,iter,ifs,0⟩] scope pos) (fDComp fi li js gf t fa j):=⟨fun pins s σ H Q I h=>by
 rw[arm_eval_DictComp];refine a5O (use:=none) hc b hj hi hg ht (a1P hr) hka hv hs I h fun C v He s1 hq back fp ⟨m,hm⟩ vv rv=>?_
 exact⟨m,hm,fun h9 k9=>⟨v,He,back h9 fun y ny=>k9.2 y ny,rv,hq⟩⟩⟩
end
section
variable {X:Cx}{a b e o:Expr}{pos p p2 apos:Pos}{f g h:FX}{t u:FT}{x:Str}
theorem a8L:MtR X "int.bit_length" (fun x xs H Q=>∃i,x= .int i/\xs=[]/\Q (.int (Builtin.Int.intBits i:Nat)) H):=by
 intro pins s σ H x xs v us Q I rx rs h;obtain⟨i,rfl,rfl,q⟩:=h;obtain⟨t,rfl⟩:=rx;cases rs;exact call_gives PySem.F.slot_int_bit_length (typeIs_int s i t) PySem.F.entry_int_bit_length (PySem.F.args_int_bit_length_1 _) (AutoIntG2.int_bit_length_int_0 i t) ⟨.int _,H,I.tok _,⟨_,rfl⟩,q⟩
def oBits:D->Option W
 | .int i=>some (.v (.int (Builtin.Int.intBits i:Nat)))
 | _=>none
theorem a9w (ha:QX X a f)(hbase:attributeBase a "bit_length" X.env (eval a X.env)=eval a X.env:=by rfl)(hline:(apos.endLine==pos.line)=true:=by rfl):QX X (.Call (.Attribute a "bit_length" apos) [] [] pos) (fUn oBits f):=
 ⟨PE.weak (b05 PySem.F.plainAttrs_int PySem.F.slot_int_bit_length PySem.F.type_int_bit_length a8L ha.to hbase hline) fun σ H Q h=>by
 have z:=a2w (r:=fun v H Q=>∃i,v= .int i/\Q (.int (Builtin.Int.intBits i:Nat)) H) (X:=X) (op:=oBits) (f:=f) (by
  intro A x w v H Q _ e hx q;cases x with
  | int i=>cases e;exact⟨i,g8 hx,q _ H (Same.refl H) u9⟩
  | _=>cases e) σ H Q h
 obtain⟨P,O,L,ρ,w,ρ',r,e,q⟩:=z
 exact⟨P,O,L,ρ,w,ρ',r,e,fun v H1 H' r1 s1 d1=>by
  obtain⟨i,rfl,q'⟩:=q v H1 H' r1 s1 d1
  exact⟨rfl,i,rfl,rfl,q'⟩⟩⟩
def fDPutT (fd:FX) (fk:FA) (fv:FX):FS:=fun ρ=>(fv ρ).bind fun p=>(fd p.2).bind fun q=>match q.1 with
 | .r i=>(fk q.2).bind fun z=>(takeAll z.2 (p.1.fz::z.1)).bind fun y=>match y.1 with
  | d::ds=>(dkeys ds).bind fun k=>match ownAt y.2 i with
   | some (.dT ks xs)=>if ks.length<lim/\ds.length<=lim then some (.nx (setOwn y.2 i (.dT (putKs ks k) (putX ks xs k d)))) else none
   | _=>none
  | _=>none
 | _=>none
def fDPutK (fd fk fv:FX):FS:=fun ρ=>(fv ρ).bind fun p=>(fd p.2).bind fun q=>match q.1 with
 | .r i=>(fk q.2).bind fun z=>(takeAll z.2 [p.1.fz,z.1.fz]).bind fun y=>match y.1 with
  | [d,kd]=>(dkey kd).bind fun k=>match ownAt y.2 i with
   | some (.dK ks xs)=>if ks.length<lim then some (.nx (setOwn y.2 i (.dK (putKs ks k) (putX ks xs k d)))) else none
   | _=>none
  | _=>none
 | _=>none
theorem a7y {k:Nat}{i':Expr}{p2:Pos}(hr:Room k X.A)(hd:QX X o f)(ha:QX X i' h)(hv:QX X e g)(hs:swapsWith e (some (.Subscript o i' p2)) pos.line X.env=pure false:=by rfl):
  QS X (.Assign [.Subscript o i' p2] e pos) (fDPutK f h g):=by
 refine⟨PS.weak (a9p (a1P hr) hd.to ha.to hv.to hs) fun E σ H h0=>tSe h0 fun P O L ρ r rp e q=>?_⟩;unfold fDPutK at e;obtain⟨⟨w1,ρ1⟩,e1,e⟩:=obs e;dsimp only at e;obtain⟨⟨w2,ρ2⟩,e2,e⟩:=obs e;dsimp only at e;split at e
 ·rename_i i;obtain⟨⟨w3,ρ3⟩,e3,e⟩:=obs e;dsimp only at e;obtain⟨⟨dl,ρ4⟩,e4,e⟩:=obs e;dsimp only at e;split at e
  ·rename_i d kd;cases e5:dkey kd with
   | none=>rw[e5] at e;cases e
   | some kk=>
    rw[e5] at e;simp only[bind_some] at e;split at e
    ·rename_i ks xs e6;split at e
     ·rename_i hl;cases e;refine⟨P,O,L,ρ,w1,ρ1,rp,e1,fun v H1 H1' r1 s1 d1=>?_⟩;obtain⟨P',r1',k1⟩:=hold (r1.grow s1) (d1.fz r1 s1);refine⟨P',O,L,ρ1,_,ρ2,r1',e2,fun v2 H2 H2' r2 s2 d2=>?_⟩;have d2:σ[i]? =some (some v2):=d2;refine⟨P',O,L,ρ2,w3,ρ3,r2.grow s2,e3,fun u3 H3 H3' r3 s3 d3=>?_⟩;have d3':=d3.fz r3 s3;obtain⟨r3',dv⟩:=k1 _ H3' (r3.grow s3);obtain⟨r4,l4,_⟩:=k8 (vs:=[v,u3]) r3' e4 ⟨v,[u3],rfl,dv,u3,[],rfl,d3',rfl⟩;obtain⟨v',u',ev,hd',hk'⟩:=denL2 l4;cases ev;have ek:=a0x e5 (B3 hk');subst ek;obtain⟨w0,q0,ow⟩:=m9 e6;obtain⟨a,h1,vs,h4,hkl,lz⟩:=r4.obj q0 ow;rw[d2] at h1;cases h1;have hlv:ks.length=vs.length:=by rw[hkl,b8 lz]
      refine⟨a,_,rfl,DPut.k (k:=kk) h4 ?_,?_⟩
      ·rw[List.length_zip,hlv,Nat.min_self,<-hlv];exact zI hl t6
      ·rw[a4V hlv];have g0:∀u,Go (AvO O ρ4 σ) (AvO O ρ4 σ) (fun b=>b=a) H3' (upd H3' a u):=fun u=>⟨fun b o eb nb=>by rw[c7 nb];exact eb,fun b z=>by rw[z];exact⟨.inr ⟨i,w0,_,q0,ow,d2⟩,_,h4,trivial⟩,fun b z=>.inl z⟩
       exact q σ _ (r4.mut (d:=.dK (putKs ks kk) (putX ks xs kk d)) e6 d2 (fun b o eb nb=>by rw[c7 nb];exact eb) ⟨_,j9,Y9 hkl,n6 (g0 _) _ _ (a2M lz hd')⟩)
     ·cases e
    ·cases e
  ·cases e
 ·cases e
end
def kd1:Key->D
 | .inl i=>.int i
 | .inr x=>.str x
def keyD (k:List Key):D:=.tup (k.map kd1)
theorem a9i {K:PySem.W.Frag}{A:Av}{H:Hp}(k:Key):Den K A H (kd1 k) (kV k):=by
 cases k with
 | inl i=>exact v6.mpr rfl
 | inr x=>exact Z8.mpr rfl
theorem a27 {K:PySem.W.Frag}{A:Av}{H:Hp}:∀ks:List Key,DenL K A H (ks.map kd1) (ks.map kV)
 | []=>j3
 | k::ks=>by rw[zH,zH];exact g7 (a9i k) (a27 ks)
inductive KeysAt (H:Hp):List (List Key)->List Addr->Prop where
 | nil:KeysAt H [] []
 | cons {k:List Key} {ks:List (List Key)} {b:Addr} {bs:List Addr} (q:H b=some (.tup (k.map kV))) (r:KeysAt H ks bs):KeysAt H (k::ks) (b::bs)
theorem KeysAt.den {K:PySem.W.Frag}{A:Av}{H:Hp}:∀{ks:List (List Key)} {bs:List Addr},KeysAt H ks bs->DenL K A H (ks.map keyD) (bs.map V.ref)
 | _,_,.nil=>j3
 | _,_,.cons q r=>by
  rw[zH,zH];refine g7 ?_ r.den;unfold keyD;rw[Den];exact⟨_,_,rfl,.inl (.inl q),a27 _⟩
section
variable {X:Cx}{a b e o:Expr}{es:List Expr}{pos apos:Pos}{f g h:FX}{u:FT}{fa:FA}{x:Str}
def gListD:D->Option W
 | .dT ks _=>some (.o (.lst (ks.map keyD)))
 | d=>gList d
theorem b1j {id:String}{m:Str}{r:V->List V->Hp->VK->Prop}{op:List D->List D->Option (W×List D)}(hs0:Slot "list" m id)(ht0:typeOf (.builtin id)=pure (.type "method_descriptor"))(hm:MtR X id r)(hk:PrM X op r)(hw:∀xs ds w ys,op xs ds=some (w,ys)->∃d,w= .v d)
  (ho:QX X o f) (ha:QA X (e::es) fa) (hbase:attributeBase o m X.env (eval o X.env)=eval o X.env)
  (hfew:((backTo pos (starEach (e::es) X.env)).all (fun x=>!x.1)&&(backToKw pos (keywordEach [] X.env)).all (fun x=>x.1.isSome)&&decide ((e::es).length+([]:List Keyword).length+(if([]:List Keyword).isEmpty then 0 else 1)<30))=true)
  (hline:(apos.endLine==pos.line)=true) (hs:starEach (e::es) X.env=(false,eval e X.env)::starEach es X.env) (hpl:(backTo pos (starEach es X.env)).any (·.1)=false):QX X (.Call (.Attribute o m apos) (e::es) [] pos) (fMut op f fa):=
 ⟨PE.weak (a6D PySem.F.plainAttrs_list hs0 ht0 hm ho.to ha.to hbase hfew hline hs hpl) (a3d hk hw)⟩
theorem a6c (T:String)(hT:T="list"\/T="tuple")(l b:Addr)(items items2:Array Value)(n n2:Nat)(dd:Option Addr)(sl:Array (Option Value))(h0:¬(!items.isEmpty&&Builtin.List.listTooLong (items.size+items2.size))=true)(h1:items.size<=sizeLine)(h2:items.size+items2.size<=sizeLine+1):
  Meets (Builtin.«list.extend» ⟨[.ref l,.ref b],[]⟩) (fun _ R s=>s.heap.get? l=some {cls:=.type "list",dict:=none,data:=.seq items n,slots:= #[]}/\s.heap.get? b=some {cls:=.type T,dict:=dd,data:=.seq items2 n2,slots:=sl}/\
   R (.ok (.ret Value.none)) {s with heap:=s.heap.update l (PySem.Obj.mapSeq fun x=>x++items2),toks:=s.toks}):=
 .of_wp fun prog w A R s hh=>by
  obtain⟨hp,g,d,tk,os⟩:=s;obtain⟨hl,hb,hr⟩:=hh;have f1:=PySem.AutoSeq1.idx_int;have f2:=PySem.AutoSeq1.sub_tuple_tuple;have f3:=PySem.AutoSeq1.sub_list_list;have f4:=PySem.AutoSeq1.sub_tuple_list;have f5:=PySem.AutoSeq1.sub_list_tuple;have hz:(items++items2).size<=sizeLine+1:=by rw[Array.size_append];exact h2
  rcases hT with rfl|rfl
  ·wp_walk using(wpAny_updateSeq hl rfl (hz:=h1) (_hz':=hz)),jW hl,jW hb
   exact⟨_,rfl,hr⟩
  ·wp_walk using(wpAny_updateSeq hl rfl (hz:=h1) (_hz':=hz)),jW hl,jW hb
   exact⟨_,rfl,hr⟩
def rExt (K:PySem.W.Frag):V->List V->Hp->VK->Prop:=fun x vs H Q=>∃l b xs zs,x= .ref l/\vs=[.ref b]/\H l=some (.lst xs)/\(SqL K H b zs\/SqT K H b zs)/\xs.length+zs.length<=sizeLine/\Q .non (upd H l (.lst (xs++zs)))
theorem b09:MtR X "list.extend" (rExt X.K):=by
 intro pins s σ H x vs v us Q I rx rv ⟨l,b,xs,zs,ex,ev,hH,hB,hz,q⟩;subst ex ev;cases rx;obtain⟨u,rfl,ru⟩:=rv.one;cases ru;obtain⟨z,its,n,r,hl,el⟩:=I.lstM hH;have src:∃(T:String) (its2:List Value) (n2:Nat) (dd:Option Addr) (sl:Array (Option Value)),(T="list"\/T="tuple")/\Vals zs its2/\s.heap.get? b=some {cls:=.type T,dict:=dd,data:=.seq its2.toArray n2,slots:=sl}:=by
  rcases hB with hB|hB
  ·obtain⟨its2,r2,⟨⟨oc,od,oda,osl⟩,n2,ho,hc,_,hd⟩,_⟩:=I.list hB;dsimp only at hc hd;subst hc hd;exact⟨"list",its2,n2,od,osl,.inl rfl,r2,ho⟩
  ·obtain⟨its2,r2,⟨⟨oc,od,oda,osl⟩,ho,hc,n2,hd⟩,_⟩:=I.tuple hB;dsimp only at hc hd;subst hc hd;exact⟨"tuple",its2,n2,od,osl,.inr rfl,r2,ho⟩
 obtain⟨T,its2,n2,od,osl,hT,r2,ho⟩:=src;have hl2:=r2.length;have hsz:its.toArray.size+its2.toArray.size<=sizeLine:=by rw[zV,zV];walk_at "o"
 refine call_meets F.slot_list_extend ⟨_,el,rfl⟩ F.entry_list_extend (F.args_list_extend_2 _ _) (a6c T hT l b its.toArray its2.toArray n n2 od osl (fun w=>?_) (by rw[zV];walk_at "o") (by walk_at "o")) ⟨el,ho,?_⟩
 ·rw[notLongL hsz,Bool.and_false] at w;cases w
 ·exact⟨.non,_,I.lset (its':=its++its2) hH el (by simp) (r.append r2) (by rw[qB];walk_at "o"),rfl,q⟩
def mExt (xs ds:List D):Option (W×List D):=match ds with
 | [d]=>(items d).bind fun ys=>if xs.length+ys.length<=lim then some (.v .non,xs++ys) else none
 | _=>none
theorem b04:PrM X mExt (rExt X.K):=fun A a xs ds w ys us vs H Q h l l' e q _=>by
 unfold mExt at e;split at e
 ·rename_i d;cases e1:items d with
  | none=>rw[e1] at e;cases e
  | some zs=>
   rw[e1] at e;simp only[bind_some] at e;split at e
   ·rename_i hl;cases e;obtain⟨v,rfl,hv⟩:=denL1 l';obtain⟨b,ws,rfl,hq,lz⟩:=B6 e1 (B3 hv);exact⟨a,b,us,ws,rfl,rfl,h,hq,by rw[<-b8 l,<-b8 lz];exact zP hl t6,q _ _ (p5 l lz) U4⟩
   ·cases e
 ·cases e
theorem b1O:∀xs ds w ys,mExt xs ds=some (w,ys)->∃d,w= .v d:=fun xs ds w ys e=>by
 unfold mExt at e;split at e
 ·rename_i d;cases e1:items d with
  | none=>rw[e1] at e;cases e
  | some zs=>
   rw[e1] at e;simp only[bind_some] at e;split at e
   ·cases e;exact⟨_,rfl⟩
   ·cases e
 ·cases e
theorem a1O (ho:QX X o f)(ha:QA X (e::es) fa)(hbase:attributeBase o "extend" X.env (eval o X.env)=eval o X.env:=by rfl)
  (hfew:((backTo pos (starEach (e::es) X.env)).all (fun x=>!x.1)&&(backToKw pos (keywordEach [] X.env)).all (fun x=>x.1.isSome)&&decide ((e::es).length+([]:List Keyword).length+(if([]:List Keyword).isEmpty then 0 else 1)<30))=true:=by rfl)
  (hline:(apos.endLine==pos.line)=true:=by rfl) (hs:starEach (e::es) X.env=(false,eval e X.env)::starEach es X.env:=by rfl) (hpl:(backTo pos (starEach es X.env)).any (·.1)=false:=by rfl):QX X (.Call (.Attribute o "extend" apos) (e::es) [] pos) (fMut mExt f fa):=
 b1j PySem.F.slot_list_extend PySem.F.type_list_extend b09 b04 b1O ho ha hbase hfew hline hs hpl
end
theorem a8S {X:Cx}(i:Nat){x:Str}{pos:Pos}(hN:X.N[i]? =some x:=by rfl)(hv:Vis X.env.scope x:=by first|exact Or.inl rfl|exact Or.inr (Or.inl rfl)|exact Or.inr (Or.inr rfl))(hd:(x==("__debug__":Str))=false:=by decide)(hcd:(x==("__classdict__":Str))=false:=by decide):PE X (.Name x pos) (tVar i):=a4c hN hv hd hcd
def memK {κ:Type} [DecidableEq κ] (k:κ) (ks:List κ):Bool:=decide (k∈ks)
theorem a6C {κ:Type} [DecidableEq κ] {k:κ}{ks:List κ}:memK k ks=true↔k∈ks:=by unfold memK;exact qO
theorem a5P {κ:Type} [DecidableEq κ] {ks:List κ}{xs:List D}{k:κ}(h:ks.length=xs.length):(look ks xs k).isSome=memK k ks:=a3b h
section
variable {f g h:FX}{t:FT}{fa:FA}{ρ ρ1:Ev}{w z:W}{ws:List W}{d e x y:D}{ds xs ys:List D}{i j k:Nat}{m n:Int}{b:Bool}{kl:List (List Key)}{kk:List Key}{kq:List Key}{kx:Key}
theorem a7x:oIxG (.tup xs) d=oIx (.tup xs) d:=rfl
theorem a6S:oIxG (.lst xs) d=oIx (.lst xs) d:=rfl
theorem b1e (hk:tkey d=some kk)(hl:look kl xs kk=some e):oIxG (.dT kl xs) d=some (.v e):=by
 unfold oIxG;simp only[isDi,jF,lookG,hk,jH,bind_some,hl]
theorem a7d (hk:dkey d=some kx)(hl:look kq xs kx=some e):oIxG (.dK kq xs) d=some (.v e):=by
 unfold oIxG;simp only[isDi,jF,lookG,hk,jH,bind_some,hl]
theorem b1F (hk:tkey d=some kk)(hl:kl.length=xs.length):oInG b d (.dT kl xs)=some (nb b (memK kk kl)):=by
 unfold oInG;simp only[isDi,jF,lookG,hk,jH,a5P hl]
theorem a9r {ns:List Int}(hi:intsOf xs=some ns):oInG b (.int n) (.tup xs)=some (nb b (decide (n∈ns))):=by
 unfold oInG;simp only[isDi,jJ,xH,items,bind_some,hi,jH]
theorem a5r {ns:List Int}(hi:intsOf xs=some ns):oInG b (.int n) (.lst xs)=some (nb b (decide (n∈ns))):=by
 unfold oInG;simp only[isDi,jJ,xH,items,bind_some,hi,jH]
theorem nb_f {k:Bool}:nb false k= .v (.bl k):=rfl
theorem nb_t {k:Bool}:nb true k= .v (.bl (!k)):=rfl
def ge2 (fa:FA):Option (W×Ev)->Option (W×Ev)
 | some p=>fGet (fun _=>some p) fa p.2
 | none=>none
def ge3 (fa:FA) (w:W) (ρ:Ev):Option D->Option (W×Ev)
 | some d=>if isDi d=true then(fa ρ).bind fun q=>(takeAll q.2 q.1).bind fun z=>(dr z.2 w.fz).bind fun x=>match z.1 with
  | [y,e]=>(lookG x y).map fun r=>(.v (r.getD e),z.2)
  | _=>none
  else none
 | none=>none
def ge4 (w:W):Option (List W×Ev)->Option (W×Ev)
 | some q=>(takeAll q.2 q.1).bind fun z=>(dr z.2 w.fz).bind fun x=>match z.1 with
  | [y,e]=>(lookG x y).map fun r=>(.v (r.getD e),z.2)
  | _=>none
 | none=>none
def ge5 (w:W):Option (List D×Ev)->Option (W×Ev)
 | some z=>(dr z.2 w.fz).bind fun x=>match z.1 with
  | [y,e]=>(lookG x y).map fun r=>(.v (r.getD e),z.2)
  | _=>none
 | none=>none
def ge6 (y e:D) (ρ:Ev):Option D->Option (W×Ev)
 | some x=>(lookG x y).map fun r=>(.v (r.getD e),ρ)
 | none=>none
theorem r_ge:fGet f fa ρ=ge2 fa (f ρ):=by unfold ge2;cases e:f ρ with
 | none=>unfold fGet;rw[e];rfl
 | some p=>unfold fGet;rw[e]
theorem b0f:ge2 fa (some (w,ρ))=ge3 fa w ρ (dr ρ w.fz):=by unfold ge2 ge3 fGet;dsimp only[bind_some];cases dr ρ w.fz<;>rfl
theorem a5o:ge3 fa w ρ (some (.dT kl xs))=ge4 w (fa ρ):=by unfold ge3 ge4;simp only[isDi,jF];cases fa ρ<;>rfl
theorem a5q:ge3 fa w ρ (some (.dK kq xs))=ge4 w (fa ρ):=by unfold ge3 ge4;simp only[isDi,jF];cases fa ρ<;>rfl
theorem b0h:ge4 w (some (ws,ρ))=ge5 w (takeAll ρ ws):=by unfold ge4 ge5;dsimp only;cases takeAll ρ ws<;>rfl
theorem a9W:ge5 w (some ([y,e],ρ))=ge6 y e ρ (dr ρ w.fz):=by unfold ge5 ge6;dsimp only;cases dr ρ w.fz<;>rfl
theorem a8Q (hk:tkey y=some kk):ge6 y e ρ (some (.dT kl xs))=some (.v ((look kl xs kk).getD e),ρ):=by unfold ge6;simp only[lookG,hk,jH]
theorem tk_2:tkey (.tup [.int m,.int n])=some [Sum.inl m,Sum.inl n]:=rfl
theorem a0P:∀ns:List Int,dkeys (ns.map D.int)=some (ns.map Sum.inl)
 | []=>rfl
 | n::ns=>by rw[zH,dkeys,a0P ns];rfl
theorem a87 (ns:List Int):tkey (tupI ns)=some (ns.map Sum.inl):=a0P ns
def dp2 (fd:FX) (fk:FA):Option (W×Ev)->Option R
 | some p=>fDPutT fd fk (fun _=>some p) p.2
 | none=>none
def dp3 (w:W) (fk:FA):Option (W×Ev)->Option R
 | some q=>match q.1 with
  | .r i=>(fk q.2).bind fun z=>(takeAll z.2 (w.fz::z.1)).bind fun y=>match y.1 with
   | d::ds=>(dkeys ds).bind fun k=>match ownAt y.2 i with
    | some (.dT ks xs)=>if ks.length<lim/\ds.length<=lim then some (.nx (setOwn y.2 i (.dT (putKs ks k) (putX ks xs k d)))) else none
    | _=>none
   | _=>none
  | _=>none
 | none=>none
def dp4 (w:W) (i:Nat):Option (List W×Ev)->Option R
 | some z=>(takeAll z.2 (w.fz::z.1)).bind fun y=>match y.1 with
   | d::ds=>(dkeys ds).bind fun k=>match ownAt y.2 i with
    | some (.dT ks xs)=>if ks.length<lim/\ds.length<=lim then some (.nx (setOwn y.2 i (.dT (putKs ks k) (putX ks xs k d)))) else none
    | _=>none
   | _=>none
 | none=>none
def dp5 (i:Nat):Option (List D×Ev)->Option R
 | some y=>match y.1 with
   | d::ds=>(dkeys ds).bind fun k=>match ownAt y.2 i with
    | some (.dT ks xs)=>if ks.length<lim/\ds.length<=lim then some (.nx (setOwn y.2 i (.dT (putKs ks k) (putX ks xs k d)))) else none
    | _=>none
   | _=>none
 | none=>none
def dp6 (i:Nat) (d:D) (ds:List D) (ρ:Ev):Option (List Key)->Option D->Option R
 | some k,some (.dT ks xs)=>if ks.length<lim/\ds.length<=lim then some (.nx (setOwn ρ i (.dT (putKs ks k) (putX ks xs k d)))) else none
 | _,_=>none
theorem r_dp:fDPutT f fa g ρ=dp2 f fa (g ρ):=by unfold dp2;cases e:g ρ with
 | none=>unfold fDPutT;rw[e];rfl
 | some p=>unfold fDPutT;rw[e]
theorem r_dp2:dp2 f fa (some (w,ρ))=dp3 w fa (f ρ):=by unfold dp2 dp3 fDPutT;dsimp only[bind_some];cases f ρ<;>rfl
theorem r_dp3:dp3 w fa (some (.r i,ρ))=dp4 w i (fa ρ):=by unfold dp3 dp4;dsimp only;cases fa ρ<;>rfl
theorem r_dp4:dp4 w i (some (ws,ρ))=dp5 i (takeAll ρ (w.fz::ws)):=by unfold dp4 dp5;dsimp only;cases takeAll ρ (w.fz::ws)<;>rfl
theorem r_dp5:dp5 i (some (d::ds,ρ))=dp6 i d ds ρ (dkeys ds) (ownAt ρ i):=by
 unfold dp5 dp6;dsimp only;cases dkeys ds with
 | none=>cases ownAt ρ i<;>rfl
 | some k=>
  dsimp only[bind_some];cases ownAt ρ i with
  | none=>rfl
  | some x=>cases x<;>rfl
theorem r_dp6:dp6 i d ds ρ (some kk) (some (.dT kl xs))=if kl.length<lim/\ds.length<=lim then some (.nx (setOwn ρ i (.dT (putKs kl kk) (putX kl xs kk d)))) else none:=rfl
theorem b0u:dkeys []=some []:=rfl
theorem a92:dkeys (.int m::ds)=(dkeys ds).map fun ks=>Sum.inl m::ks:=by rw[dkeys];rfl
theorem r_dnT:fDNewT ρ=some (.o (.dT [] []),ρ):=rfl
theorem a9x (h:kk∉kl):putKs kl kk=kl++[kk]/\putX kl xs kk d=xs++[d]:=⟨if_neg h,if_neg h⟩
theorem a35:oBits (.int n)=some (.v (.int (Builtin.Int.intBits n:Nat))):=by cases n<;>exact rfl
theorem b0c:mExt xs [d]=(items d).bind fun ys=>if xs.length+ys.length<=lim then some (.v .non,xs++ys) else none:=rfl
theorem b1X:gListD (.dT kl xs)=some (.o (.lst (kl.map keyD))):=rfl
theorem b11:gListD (.lst xs)=some (.o (.lst xs)):=rfl
theorem b12:gListD (.tup xs)=some (.o (.lst xs)):=rfl
theorem a9n {ks:List (List Int)}(hi:gSortI (.lst xs)=none)(ht:tupsOf xs=some ks)(h64:ks.length<64)(ne:∀k∈ks,k≠[]):gSort (.lst xs)=some (.o (.lst ((sortK ks).map tupI))):=by
 unfold gSort gSortT;rw[hi];simp only[keysOf,ht,bind_some];exact if_pos ⟨h64,ne⟩
theorem a5C {k:List Int}{ks:List (List Int)}:gSortI (.lst ((k::ks).map tupI))=none:=rfl
theorem Z1 {ks:List (List Int)}(h64:ks.length<64)(ne:∀k∈ks,k≠[]):gSort (.lst (ks.map tupI))=some (.o (.lst ((sortK ks).map tupI))):=by
 cases ks with
 | nil=>simp[gSort,gSortI,intsOf,sortI,sortK]
 | cons k ks=>exact a9n a5C (C3 _) h64 ne
theorem a0A {k:Nat}{gf:FG}(I:Ev->Prop)(hI:∀B,I B->B.length=k)(key:D->List Key)(val:D->D):∀(xs:List D),(∀x∈xs,∀B ks zs,I B->ks.length<lim->∃B',I B'/\turnCD k gf t fa j x (B++[some (.l (.dT ks zs))])=some (B'++[some (.l (.dT (putKs ks (key x)) (putX ks zs (key x) (val x))))]))->
  ∀(B:Ev) (ks:List (List Key)) (zs:List D),ks.length=zs.length->ks.length+xs.length<=lim->I B->(ks++xs.map key).Nodup->∃B',I B'/\loopC (turnCD k gf t fa j) xs (B++[some (.l (.dT ks zs))])=some (B'++[some (.l (.dT (ks++xs.map key) (zs++xs.map val)))])
 | [],st,B,ks,zs,hz,hl,i,nd=>⟨B,i,by simp[loopC]⟩
 | x::xs,st,B,ks,zs,hz,hl,i,nd=>by
  rw[qC] at hl;obtain⟨B1,i1,e1⟩:=st x zG B ks zs i (by walk_at "o")
  have nin:key x∉ks:=fun z=>by
   rw[zH] at nd;exact(xN.mp nd).2.2 _ z _ zG rfl
  obtain⟨p1,p2⟩:=a9x (xs:=zs) (d:=val x) nin;rw[p1,p2] at e1;obtain⟨B2,i2,e2⟩:=a0A I hI key val xs (fun y hy=>st y (zJ _ hy)) B1 (ks++[key x]) (zs++[val x]) (by simp[hz]) (by rw[qB,xM];walk_at "o") i1 (by rw[yH];exact nd)
  exact⟨B2,i2,by rw[loopC,e1];simp only[bind_some];rw[e2,yH,yH];rfl⟩
theorem a57 {fi:FI}{js:List (Option Nat)}{gf:FG}{ρ ρ1:Ev}(I:Ev->Prop)(key:D->List Key)(val:D->D)(ei:fi ρ=some (xs,ρ1))(hI:∀B,I B->B.length=js.length)(h0:I (capE none js ρ1))(hl:xs.length<=lim)(hf:lfL (xs.map val)=true)(nd:(xs.map key).Nodup)
  (st:∀x∈xs,∀B ks zs,I B->ks.length<lim->∃B',I B'/\turnCD js.length gf t fa j x (B++[some (.l (.dT ks zs))])=some (B'++[some (.l (.dT (putKs ks (key x)) (putX ks zs (key x) (val x))))])):
  fDComp fi none js gf t fa j ρ=some (.o (.dT (xs.map key) (xs.map val)),ρ1):=by
 obtain⟨B',i',e⟩:=a0A I hI key val xs st (capE none js ρ1) [] [] rfl (by rw[xX];walk_at "o") h0 (by simpa using nd)
 unfold fDComp;rw[ei];simp only[bind_some,liB,jF,Option.map_none];rw[e];have ha:ownAt (B'++[some (.l (.dT ([]++xs.map key) ([]++xs.map val)))]) js.length=some (.dT (xs.map key) (xs.map val)):=by
  unfold ownAt;rw[qG (by rw[hI B' i'];exact zF _),hI B' i',jU];rfl
 simp only[bind_some,ha,backG,lfC,hf,jF]
def td2 (k j:Nat) (t:FT) (fa:FA):Option Ev->Option Ev
 | some ρ1=>(t ρ1).bind fun p=>if p.1=true then(fa p.2).bind (putTo k j) else some p.2
 | none=>none
def td3 (k j:Nat) (fa:FA):Option (Bool×Ev)->Option Ev
 | some p=>if p.1=true then(fa p.2).bind (putTo k j) else some p.2
 | none=>none
def td4 (k j:Nat):Option (List W×Ev)->Option Ev
 | some p=>putTo k j p
 | none=>none
def pt2 (k j:Nat):Option (List D×Ev)->Option Ev
 | some q=>(dkeys q.1).bind fun kk=>match q.2[j]? with
  | some (some (.v d))=>match ownAt q.2 k with
   | some (.dT ks zs)=>if ks.length<lim/\q.1.length<=lim then some (setOwn q.2 k (.dT (putKs ks kk) (putX ks zs kk d))) else none
   | _=>none
  | _=>none
 | none=>none
def pt3 (k:Nat) (n:Nat) (ρ:Ev):Option (List Key)->Option (Option W)->Option D->Option Ev
 | some kk,some (some (.v d)),some (.dT ks zs)=>if ks.length<lim/\n<=lim then some (setOwn ρ k (.dT (putKs ks kk) (putX ks zs kk d))) else none
 | _,_,_=>none
theorem r_td {gf:FG}:turnCD k gf t fa j d ρ=td2 k j t fa (gf d ρ):=by unfold turnCD td2;cases gf d ρ<;>rfl
theorem b0y:td2 k j t fa (some ρ)=td3 k j fa (t ρ):=by unfold td2 td3;dsimp only;cases t ρ<;>rfl
theorem b0H:td3 k j fa (some (true,ρ))=td4 k j (fa ρ):=by unfold td3 td4;simp only[jF];cases fa ρ<;>rfl
theorem a9K:td4 k j (some (ws,ρ))=pt2 k j (takeAll ρ ws):=by unfold td4 putTo pt2;dsimp only;cases takeAll ρ ws<;>rfl
theorem a9R:pt2 k j (some (ds,ρ))=pt3 k ds.length ρ (dkeys ds) ρ[j]? (ownAt ρ k):=by
 unfold pt2 pt3;dsimp only;cases dkeys ds with
 | none=>rfl
 | some kk=>
  dsimp only[bind_some];cases ρ[j]? with
  | none=>rfl
  | some o=>
   cases o with
   | none=>rfl
   | some w=>
    cases w with
    | v d=>
     cases ownAt ρ k with
     | none=>rfl
     | some x=>cases x<;>rfl
    | _=>rfl
theorem a9F {n:Nat}:pt3 k n ρ (some kk) (some (some (.v d))) (some (.dT kl xs))=if kl.length<lim/\n<=lim then some (setOwn ρ k (.dT (putKs kl kk) (putX kl xs kk d))) else none:=rfl
end
abbrev Tie:=Int×Int×Int
def tieD (t:Tie):D:=.tup [.int t.1,.int t.2.1,.int t.2.2]
def webD (n:Int) (ts:List Tie):D:=.tup [.int n,.tup (ts.map tieD)]
def tkK (t:Tie):List Key:=[Sum.inl t.1,Sum.inl t.2.1]
def parK (n:Int) (ts:List Tie):List (List Int):=((List.range n.toNat).map fun(i:Nat)=>[(i:Int)])++ts.map fun t=>[t.1,t.2.1]
structure WebOk (n:Int) (ts:List Tie):Prop where
 n1:1<=n/\n<=8
 t:∀t∈ts,0<=t.1/\t.1<t.2.1/\t.2.1<n/\1<=t.2.2/\t.2.2<=10^12
 nd:(ts.map fun t=>(t.1,t.2.1)).Nodup
 len:ts.length<=55
def gainOf:List Tie->List Int->Int
 | [],_=>0
 | t::ts,k=>if[t.1,t.2.1]=k then t.2.2 else gainOf ts k
theorem a88 {a b:List Int}(h:a.map (Sum.inl:Int->Key)=b.map Sum.inl):a=b:=by
 induction a generalizing b with
 | nil=>cases b with|nil=>rfl|cons _ _=>cases h
 | cons x a ih=>cases b with
  | nil=>cases h
  | cons y b=>rw[zH,zH] at h;injection h with h1 h2;injection h1 with h1;rw[h1,ih h2]
theorem b1u (t:Tie):tkK t=[t.1,t.2.1].map Sum.inl:=rfl
theorem a1h:∀(ts:List Tie) (k:List Int),(look (ts.map tkK) (ts.map fun t=>D.int t.2.2) (k.map Sum.inl)).getD (.int 0)= .int (gainOf ts k)
 | [],k=>rfl
 | t::ts,k=>by
  rw[zH,zH,look,gainOf]
  by_cases h:[t.1,t.2.1]=k
  ·rw[if_pos (by rw[b1u,h]),if_pos h];rfl
  ·rw[if_neg (show ¬tkK t=k.map Sum.inl from fun z=>h (a88 z)),if_neg h];exact a1h ts k
theorem j5 (i:Int):∀ts:List Tie,gainOf ts [i]=0
 | []=>rfl
 | t::ts=>by rw[gainOf,if_neg (by simp),j5 i ts]
theorem a8y {n:Int}{ts:List Tie}(h:WebOk n ts):(parK n ts).length<=63/\∀k∈parK n ts,k≠[]:=by
 unfold parK;refine⟨by rw[qB,zC,zC,length_range];have:=h.n1;have:=h.len;walk_at "o",fun k hk=>?_⟩
 rcases jA.mp hk with h|h
 ·obtain⟨i,_,rfl⟩:=zE.mp h;simp
 ·obtain⟨t,_,rfl⟩:=zE.mp h;simp
theorem a65 {n:Int}{ts:List Tie}(h:WebOk n ts):(ts.map tkK).Nodup:=by
 have:=h.nd
 rw[List.Nodup,jB] at this ⊢;refine this.imp fun{a b} hab z=>hab ?_;unfold tkK at z;injection z with z1 z2
 injection z2 with z2 _
 injection z1 with z1
 injection z2 with z2
 rw[z1,z2]
theorem C8 (ts:List Tie):lfL (ts.map tieD)=true:=t4 fun x hx=>by
 obtain⟨t,_,rfl⟩:=zE.mp hx;rfl
theorem D6 (n:Int)(ts:List Tie):lf (webD n ts)=true:=by
 unfold webD;simp only[lf,lfL,C8,Bool.and_self]
theorem a89 (k:List Int):lf (tupI k)=true:=m4 k
theorem Z6 (ks:List (List Int)):lfL (ks.map tupI)=true:=t4 fun x hx=>by
 obtain⟨k,_,rfl⟩:=zE.mp hx;exact a89 k
theorem U1 {C:Prop}{b:D->FS}{xs:List D}{ρ:Ev}{r:Option R}(e:loopF b xs ρ=r)(I:Nat->Ev->Prop)(h0:I 0 ρ)(st:∀i x ρ,xs[i]? =some x->I i ρ->∃ρ',b x ρ=some (.nx ρ')/\I (i+1) ρ')(c:∀ρ',r=some (.nx ρ')->I xs.length ρ'->C):C:=by
 have key:∀(ys:List D) (k:Nat) (ρ:Ev),xs.drop k=ys->I k ρ->k<=xs.length->∃ρ',loopF b ys ρ=some (.nx ρ')/\I xs.length ρ':=by
  intro ys
  induction ys with
  | nil=>
   intro k ρ hk h hl
   have:k=xs.length:=by
    have:=List.drop_eq_nil_iff.mp hk;walk_at "o"
   exact⟨ρ,rfl,this▸h⟩
  | cons y ys ih=>
   intro k ρ hk h hl;have hx:xs[k]? =some y:=by
    have:=congrArg (·[0]?) hk
    simpa using this
   have lt:=(zQ.mp hx).1;obtain⟨ρ1,e1,i1⟩:=st k y ρ hx h;obtain⟨ρ2,e2,i2⟩:=ih (k+1) ρ1 (by rw[<-List.drop_drop,hk];rfl) i1 lt
   exact⟨ρ2,by rw[loopF,e1];exact e2,i2⟩
 obtain⟨ρ',e',i⟩:=key xs 0 ρ (by simp) h0 (jR _)
 exact c ρ' (e.symm.trans e') i
theorem a2b {m:Int}{n i:Nat}{x:D}(h:(rngD m n)[i]? =some x):x= .int (m+i)/\i<n:=by
 unfold rngD at h;rw[qH] at h
 by_cases hi:i<n
 ·rw[getElem?_range hi] at h;cases h;exact⟨rfl,hi⟩
 ·rw[jI (by simpa using hi)] at h;cases h
def Sm (n:Int):Prop:=0<n/\n.natAbs<2^390
theorem Sm.pos {n:Int}(h:Sm n):0<n:=h.1
def Pot (b:Nat) (d:D):Prop:=∃r c s:Int,d= .lst [.int r,.int c,.int s]/\0<=c/\c<=b/\0<=s/\s<2147483647
theorem Pot.mono {b b':Nat}{d:D}(h:Pot b d)(hb:b<=b'):Pot b' d:=by
 obtain⟨r,c,s,e,h1,h2,h3⟩:=h;exact⟨r,c,s,e,h1,by walk_at "o",h3⟩
theorem Pot.lf {b:Nat}{d:D}(h:Pot b d):lfC d=true:=by obtain⟨r,c,s,rfl,_⟩:=h;rfl
section
variable {ρ:Ev}{i:Nat}{d:D}{xs:List D}
def fn2 (ρ:Ev):Option (Option W)->Option (List D×Ev)
 | some (some (.v d))=>(items d).map fun xs=>(xs,ρ)
 | some (some (.r _))=>none
 | some (some w)=>match w.own with
  | some (.lst xs)=>some (xs,ρ)
  | _=>none
 | _=>none
def fn3 (ρ:Ev):Option (List D)->Option (List D×Ev)
 | some xs=>some (xs,ρ)
 | none=>none
theorem r_fn:fiName i ρ=fn2 ρ ρ[i]?:=by
 unfold fiName fn2;cases ρ[i]? with
 | none=>rfl
 | some o=>cases o with
  | none=>rfl
  | some w=>cases w<;>rfl
theorem a6s:fn2 ρ (some (some (.v d)))=fn3 ρ (items d):=by
 show(items d).map _=_;unfold fn3;cases items d<;>rfl
theorem a6m:fn2 ρ (some (some (.o (.lst xs))))=some (xs,ρ):=rfl
theorem r_fn_l:fn2 ρ (some (some (.l (.lst xs))))=some (xs,ρ):=rfl
theorem a9L:fn3 ρ (some xs)=some (xs,ρ):=rfl
end
mutual
def toP:D->PyData
 | .non=>.none
 | .bl b=>.bool b
 | .int i=>.int i
 | .str x=>.str x
 | .tup xs=>.tuple (toPs xs)
 | .lst xs=>.list (toPs xs)
 | _=>.none
def toPs:List D->List PyData
 | []=>[]
 | x::xs=>toP x::toPs xs
end
section
open Classical in
end
section
variable {X:Cx}{a:Expr}{f:FX}{pos:Pos}
theorem a8O {ta:TE}(ha:PE X a ta):PE X (.UnaryOp .Not a pos) (fun σ H Q=>ta σ H fun x H'=>∃k,TruV X.K x H' k/\Q (.bl (!k)) H'):=by
 intro pins s σ H Q I h;refine UnaryOp_ (thn (ha pins s σ H _ I h) fun v s1 ⟨x,H1,I1,r1,q1⟩=>?_);obtain⟨k,q1,q2⟩:=q1;exact not_of (zR (a63 pins s1 σ H1 x v (fun k' H'=>Q (.bl (!k')) H') I1 r1 ⟨k,q1,q2⟩) (fun b s2 ⟨H2,I2,q3⟩=>⟨.bl (!b),H2,I2,rfl,q3⟩) (fun _ _ z=>z))
def fNotT (f:FX):FX:=fun ρ=>(fTru f ρ).map fun p=>(.v (.bl (!p.1)),p.2)
theorem a46 (ha:QX X a f):QX X (.UnaryOp .Not a pos) (fNotT f):=⟨PE.weak (a8O ha.to) fun σ H Q h0=>tXe h0 fun P O L ρ w0 ρ' r e q=>by
 unfold fNotT fTru at e;cases e1:f ρ with
 | none=>rw[e1] at e;cases e
 | some p=>
  obtain⟨w,ρ1⟩:=p;rw[e1] at e;simp only[bind_some] at e;cases e2:dr ρ1 w.fz with
  | none=>rw[e2] at e;cases e
  | some d=>
   rw[e2] at e;simp only[bind_some] at e;cases e3:truth d with
   | none=>rw[e3] at e;cases e
   | some k'=>
    rw[e3] at e;cases e
    exact⟨P,O,L,ρ,w,_,r,e1,fun v H1 H' r1 s1 d1=>⟨k',a41 e3 (w9 (r1.grow s1) e2 (d1.fz r1 s1)),q _ H' H' (r1.grow s1) (Same.refl _) v4⟩⟩⟩
end
section
variable {f:FX}{ρ:Ev}{k:Bool}
def nt2:Option (Bool×Ev)->Option (W×Ev)
 | some p=>some (.v (.bl (!p.1)),p.2)
 | none=>none
theorem r_nt:fNotT f ρ=nt2 (tru2 (f ρ)):=by unfold fNotT;rw[a8w];unfold nt2;cases tru2 (f ρ)<;>rfl
theorem a9Q:nt2 (some (k,ρ))=some (.v (.bl (!k)),ρ):=rfl
end
def key2 (t:Tie):List Int:=[t.1,t.2.1]
theorem a7K {t u:Tie}(h:key2 t=key2 u):t.1=u.1/\t.2.1=u.2.1:=by
 unfold key2 at h;injection h with h1 h2
 injection h2 with h2 _
 exact⟨h1,h2⟩
theorem a8R {ts:List Tie}:(ts.map fun t=>(t.1,t.2.1)).Nodup↔(ts.map key2).Nodup:=by
 rw[List.Nodup,jB,List.Nodup,jB];constructor
 ·exact fun h=>h.imp fun{a b} hab z=>hab (by obtain⟨z1,z2⟩:=a7K z;rw[z1,z2])
 ·exact fun h=>h.imp fun{a b} hab z=>hab (by injection z with z1 z2;unfold key2;rw[z1,z2])
theorem m8:∀{ts:List Tie},(ts.map key2).Nodup->∀{t:Tie},t∈ts->gainOf ts (key2 t)=t.2.2
 | [],_,t,h=>by cases h
 | u::ts,nd,t,h=>by
  rw[zH,xK] at nd;rw[gainOf];rcases zK.mp h with rfl|h
  ·exact if_pos rfl
  ·rw[if_neg fun z=>nd.1 (by rw[show key2 u=key2 t from z];exact zE.mpr ⟨t,h,rfl⟩)]
   exact m8 nd.2 h
theorem C0:∀{ts:List Tie} {k:List Int},k∉ts.map key2->gainOf ts k=0
 | [],k,_=>rfl
 | u::ts,k,h=>by
  rw[zH,zK,not_or] at h;rw[gainOf,if_neg fun z=>h.1 (show k=key2 u from z.symm)];exact C0 h.2
theorem a3r {ts us:List Tie}(p:ts.Perm us)(nd:(ts.map key2).Nodup)(k:List Int):gainOf ts k=gainOf us k:=by
 have nd2:(us.map key2).Nodup:=(p.map key2).nodup nd
 by_cases h:k∈ts.map key2
 ·obtain⟨t,ht,rfl⟩:=zE.mp h;rw[m8 nd ht,m8 nd2 (p.mem_iff.mp ht)]
 ·rw[C0 h,C0 fun z=>h ((p.map key2).mem_iff.mpr z)]
theorem j7 {n:Int}{ts:List Tie}{k:List Int}:k∈parK n ts↔(∃i:Nat,i<n.toNat/\k=[(i:Int)])\/k∈ts.map key2:=by
 unfold parK;rw[jA];refine or_congr ?_ Iff.rfl;rw[zE];constructor
 ·rintro⟨i,hi,rfl⟩;exact⟨i,xU.mp hi,rfl⟩
 ·rintro⟨i,hi,rfl⟩;exact⟨i,xU.mpr hi,rfl⟩
theorem a54 {n:Int}{ts us:List Tie}(p:ts.Perm us){k:List Int}:k∈parK n ts↔k∈parK n us:=by
 rw[j7,j7];exact or_congr Iff.rfl (p.map key2).mem_iff
theorem WebOk.perm {n:Int}{ts us:List Tie}(h:WebOk n us)(p:ts.Perm us):WebOk n ts where
 n1:=h.n1
 t:=fun t ht=>h.t t (p.mem_iff.mp ht)
 nd:=(p.map _).nodup_iff.mpr h.nd
 len:=by rw[p.length_eq];exact h.len
theorem WebOk.nk {n:Int}{ts:List Tie}(h:WebOk n ts):(ts.map key2).Nodup:=a8R.mp h.nd
structure Bq (m:Nat) (q:Rat):Prop where
 nn:0<=q
 le:q<=((10^12:Int):Rat)
 dn:q.den<2^m
theorem Bq.sz {m:Nat}{q:Rat}(h:Bq m q):Sz (m+41) q:=by
 refine⟨?_,zI h.dn (jE (by decide) (by walk_at "o"))⟩
 have h1:=Rat.num_nonneg.mpr h.nn;have h2:=(Rat.le_iff _ _).mp h.le;rw[Rat.num_intCast,Rat.den_intCast] at h2;have h3:q.num<=10^12*(q.den:Int):=by
  have:q.num*((1:Nat):Int)=q.num:=by walk_at "o"
  rw[this] at h2;exact h2
 have h4:(q.num.natAbs:Int)<=10^12*(q.den:Int):=by walk_at "o"
 have h5:q.num.natAbs<=10^12*q.den:=by exact_mod_cast h4
 have h6:10^12*q.den<2^41*2^m:=Nat.mul_lt_mul'' (by decide) h.dn
 rw[<-Nat.pow_add,Nat.add_comm] at h6;walk_at "o"
def up (m:Nat):List Int:=(List.range m).map fun(i:Nat)=>0+(i:Int)
theorem a6Z (m:Nat):rngD 0 m=(up m).map D.int:=by unfold rngD up;rw[qS];rfl
theorem n8 {m:Nat}{x:Int}:x∈up m↔0<=x/\x<m:=by
 unfold up;rw[zE];constructor
 ·rintro⟨i,hi,rfl⟩;rw[xU] at hi;walk_at "o"
 ·intro h;exact⟨x.toNat,xU.mpr (by walk_at "o"),by walk_at "o"⟩
theorem Q2 (m:Nat):(up m).length=m:=by unfold up;simp
section
variable {X:Cx}
theorem a1i (hc:X.calm=true):CallR X (.builtin "sum") (fun xs H Q=>∃(p:Addr) (ns:List Int),xs=[.ref p]/\SqT X.K H p (ns.map V.int)/\Q (.int ns.sum) H):=by
 intro pins s σ H xs us Q I r h;obtain⟨p,ns,rfl,hq,q⟩:=h;obtain⟨u,rfl,ru⟩:=vals1 r;cases ru;obtain⟨its,rv,ht,hz⟩:=I.tuple hq;have ht:s.heap.IsTuple p its.toArray:=ht;obtain⟨o,h1,_⟩:=id ht;have lt:p<s.heap.objs.size:=zX h1;refine call_sum_walkG (wpAny_pyIter_tuple ht ⟨s.heap.objs.size,_,_,_,_,_,fun i=>ns.getD i 0,rfl,Walks.tuple (show X.A.in1.handled=none from I.ok.hd hc) _ _ (zY lt) _,⟨⟨_,zW _ rfl,rfl,rfl⟩,ht.at fun o e=>zD _ e⟩,fun c hb=>?_,fun i v hv=>a5a rv hv,fun h' tk t' hk=>?_⟩)
 ·show c<(s.heap.push _).objs.size;rw[size_push];rcases zK.mp hb with rfl|hb
  ·exact Nat.lt_succ_self _
  ·rw[zN.mp hb];exact Nat.lt_succ_of_lt lt
 ·have I1:Inv X pins σ H {s with heap:=h',toks:=tk}:=I.kept (t':=tk) fun b ob e=>hk b ob (fun z=>absurd (zX e) (by rw[zN.mp z];exact jL _)) (zD _ e)
  refine⟨.int ns.sum,H,I1,⟨t',?_⟩,q⟩;have len:its.toArray.size=ns.length:=by rw[zV,<-rv.length,zC]
  rw[len,Z2]
def gSumG:D->Option W
 | .lst xs=>(intsOf xs).map fun ns=>.v (.int ns.sum)
 | .tup xs=>(intsOf xs).map fun ns=>.v (.int ns.sum)
 | _=>none
theorem a4J:PrA X (k1 gSumG) (fun xs H Q=>(∃(p:Addr) (ns:List Int),xs=[.ref p]/\SqL X.K H p (ns.map V.int)/\Q (.int ns.sum) H)\/∃(p:Addr) (ns:List Int),xs=[.ref p]/\SqT X.K H p (ns.map V.int)/\Q (.int ns.sum) H):=pr1 fun A d w v H Q e h q=>by
 cases d with
 | lst xs=>
  simp only[gSumG] at e;cases e1:intsOf xs with
  | none=>rw[e1] at e;cases e
  | some ns=>
   rw[e1] at e;cases e;obtain⟨a,vs,rfl,hq,l⟩:=h;rw[p4 e1] at l;rw[k6 l] at hq;exact .inl ⟨a,ns,rfl,hq,q _ H (Same.refl H) u9⟩
 | tup xs=>
  simp only[gSumG] at e;cases e1:intsOf xs with
  | none=>rw[e1] at e;cases e
  | some ns=>
   rw[e1] at e;cases e;have h:Den X.K A H (.tup xs) v:=h;rw[Den] at h;obtain⟨a,vs,rfl,hq,l⟩:=h;rw[p4 e1] at l;rw[k6 l] at hq;exact .inr ⟨a,ns,rfl,hq,q _ H (Same.refl H) u9⟩
 | _=>cases e
theorem a7P {xs:List D}{ns:List Int}(h:intsOf xs=some ns):gSumG (.lst xs)=some (.v (.int ns.sum)):=by unfold gSumG;simp only[h,jH]
end
section
variable {X:Cx}{a b:Expr}{f g:FX}{pos:Pos}
def rCatT0 (K:PySem.W.Frag):R2:=fun x y H Q=>∃a b ys,x= .ref a/\y= .ref b/\SqT K H a []/\SqT K H b ys/\Q (.ref b) H
theorem a68:OpR X (binaryOp .Add) (rCatT0 X.K):=by
 intro pins s σ H x y v u Q I rx ry h;obtain⟨a,b,ys,rfl,rfl,ha,hb,q⟩:=h;cases rx;cases ry;obtain⟨its,r1,p1,_⟩:=I.tuple ha;obtain⟨its2,r2,p2,_⟩:=I.tuple hb;have e0:its=[]:=r1.nil_iff.mpr rfl;subst e0;obtain⟨⟨cls,dd,data,sl⟩,ho,hc,n,hd⟩:=p1;obtain⟨⟨cls2,dd2,data2,sl2⟩,ho2,hc2,n2,hd2⟩:=p2;simp only at hc hd hc2 hd2;subst hc hd hc2 hd2;exact concat_meets ⟨_,ho,rfl⟩ ⟨_,ho2,rfl⟩ noFill_tuple_add seq_tuple_add PySem.F.slot_tuple_add PySem.F.entry_tuple_add (PySem.F.args_tuple_add_2 _ _) (tuple_addW0 a b _ _ n n2 dd dd2 sl sl2 rfl) ⟨ho,ho2,.ref b,H,I,rfl,q⟩
def oAddT:D->D->Option W
 | .tup xs,.tup ys=>if xs.length+ys.length<=lim then some (.v (.tup (xs++ys))) else none
 | _,_=>none
theorem a4h (ha:QX X a f)(hb:QX X b g):QX X (.BinOp a .Add b pos) (fBin oAddT f g):=C4 (a68.or a4o) (by
 intro A x y w v u H Q _ e hx hy q;cases x<;>cases y<;>simp only[oAddT] at e<;>try cases e
 rename_i xs ys;split at e
 ·rename_i hl;cases e;have hx:Den X.K A H (.tup xs) v:=hx;have hy:Den X.K A H (.tup ys) u:=hy;rw[Den] at hx hy;obtain⟨a,vs,ev,ha,la⟩:=hx;obtain⟨b,us,eu,hb,lb⟩:=hy
  by_cases h0:xs=[]
  ·subst h0;have z:vs=[]:=yA.mp (b8 la).symm;subst z;refine .inl ⟨a,b,us,ev,eu,ha,hb,q _ H (Same.refl H) ?_⟩;show Den _ _ _ _ _;rw[nil_append,Den];exact⟨b,us,rfl,hb,lb⟩
  ·refine .inr ⟨a,b,vs,us,ev,eu,ha,hb,fun z=>?_,?_,fun z=>?_,fun _ p hp=>q _ _ (j4 hp _) (F0 hp (p5 la lb))⟩
   rotate_left 2
   ·subst z;have z:ys=[]:=yA.mp (b8 lb);subst z;refine q _ H (Same.refl H) ?_;show Den _ _ _ _ _;rw[jP,Den];exact⟨a,vs,rfl,ha,la⟩
   ·subst z;exact h0 (yA.mp (b8 la))
   ·rw[<-b8 la,<-b8 lb];exact zP hl t6
 ·cases e) ha hb
theorem a8g {xs ys:List D}:oAddT (.tup xs) (.tup ys)=if xs.length+ys.length<=lim then some (.v (.tup (xs++ys))) else none:=rfl
end
theorem a0G:∀bs:List Bool,(bs.map V.bl).all flatV=true
 | []=>rfl
 | n::ns=>by rw[zH,all_cons,a0G ns];rfl
section
variable {X:Cx}
theorem S4:∀{ns:List Int} {its:List Value},Vals (ns.map V.int) its->IntsAre its ns
 | [],_,r=>by cases r;exact .nil
 | n::ns,_,r=>by
  cases r with
  | cons r1 r2=>obtain⟨t,rfl⟩:=r1;exact .cons n t (S4 r2)
theorem a1b (hc:X.calm=true):CallR X (.builtin "max") (fun xs H Q=>∃(p:Addr) (ns:List Int),xs=[.ref p]/\SqL X.K H p (ns.map V.int)/\0<ns.length/\∀M,M∈ns->(∀a∈ns,a<=M)->Q (.int M) H):=by
 intro pins s σ H xs us Q I r h;obtain⟨p,ns,rfl,hq,hne,q⟩:=h;obtain⟨u,rfl,ru⟩:=vals1 r;cases ru;obtain⟨its,rv,⟨o,m,h1,h2,_,h4⟩,hz⟩:=I.list hq;have hl:s.heap.IsList p its.toArray:=⟨o,h1,h2,m,h4⟩;have hi:=S4 rv;obtain⟨xs,e⟩:=hi.allInts.items;have hns:ns=xs.toList.map (·.1):=by
  rw[<-hi.numsOf,<-nums_intItems,<-e]
 have hsz:0<xs.size:=by
  have h3:=hne;rw[hns,zC,qZ] at h3;exact h3
 rw[e] at hl;refine max_intList (I.ok.hd hc) hl hsz fun v h' tk hv hk=>?_;obtain⟨t,rfl⟩:=intItems_at hv;obtain⟨h1,h2⟩:=argBest_gt (numAt xs) (xs.size-1);refine⟨.int _,H,I.kept (t':=tk) fun b ob e=>hk b ob e,⟨t,rfl⟩,q _ ?_ fun a ha=>?_⟩
 ·rw[hns,numAt_eq];exact getD_mem (by rw[zC,qZ];walk_at "o")
 ·rw[hns] at ha;obtain⟨j,hj,rfl⟩:=mem_getD ha;rw[zC,qZ] at hj;rw[<-numAt_eq];exact h2 j (by walk_at "o")
def maxI:List Int->Int
 | []=>0
 | a::r=>r.foldl (fun m x=>if x>m then x else m) a
theorem X4:∀(r:List Int) (a:Int),(r.foldl (fun m x=>if x>m then x else m) a=a\/r.foldl (fun m x=>if x>m then x else m) a∈r)/\a<=r.foldl (fun m x=>if x>m then x else m) a/\∀x∈r,x<=r.foldl (fun m x=>if x>m then x else m) a
 | [],a=>⟨.inl rfl,jS _,fun x h=>by cases h⟩
 | b::r,a=>by
  rw[List.foldl_cons];obtain⟨h1,h2,h3⟩:=X4 r (if b>a then b else a);have e1:a<=(if b>a then b else a)/\b<=(if b>a then b else a):=by split<;>walk_at "o"
  refine⟨?_,by walk_at "o",fun x hx=>?_⟩
  ·rcases h1 with h1|h1
   ·by_cases h:b>a
    ·rw[if_pos h] at h1 ⊢;right;rw[h1];exact zG
    ·rw[if_neg h] at h1 ⊢;exact .inl h1
   ·exact .inr (zJ _ h1)
  ·rcases zK.mp hx with rfl|hx
   ·walk_at "o"
   ·exact h3 x hx
theorem a9j {ns:List Int}{M:Int}(h:M∈ns)(hm:∀a∈ns,a<=M):M=maxI ns:=by
 cases ns with
 | nil=>cases h
 | cons a r=>
  obtain⟨h1,h2,h3⟩:=X4 r a;have u1:M<=maxI (a::r):=by
   rcases zK.mp h with rfl|h
   ·exact h2
   ·exact h3 M h
  have u2:maxI (a::r)<=M:=by
   rcases h1 with h1|h1
   ·show r.foldl _ a<=M;rw[h1];exact hm a zG
   ·exact hm _ (zJ _ h1)
  walk_at "o"
def gMaxL:D->Option W
 | .lst xs=>(intsOf xs).bind fun ns=>if 0<ns.length then some (.v (.int (maxI ns))) else none
 | _=>none
theorem a4y:PrA X (k1 gMaxL) (fun xs H Q=>∃(p:Addr) (ns:List Int),xs=[.ref p]/\SqL X.K H p (ns.map V.int)/\0<ns.length/\∀M,M∈ns->(∀a∈ns,a<=M)->Q (.int M) H):=pr1 fun A d w v H Q e h q=>by
 cases d with
 | lst xs=>
  simp only[gMaxL] at e;obtain⟨ns,e1,e⟩:=obs e;split at e
  ·rename_i hl;cases e;obtain⟨a,vs,rfl,hq,l⟩:=h;rw[p4 e1] at l;rw[k6 l] at hq;refine⟨a,ns,rfl,hq,hl,fun M h1 h2=>?_⟩;rw[a9j h1 h2];exact q _ H (Same.refl H) u9
  ·cases e
 | _=>cases e
theorem a7C {ns:List Int}(h:0<ns.length):gMaxL (.lst (ns.map .int))=some (.v (.int (maxI ns))):=by unfold gMaxL;simp only[n5,bind_some,h,jF]
end
section
variable {X:Cx}{a b:Expr}{f g:FX}{pos:Pos}
abbrev fShl:=fBin (oI CPow fun i j=>.int (i*2^j.toNat))
abbrev fShr:=fBin (oI (fun _ j=>0<=j) fun i j=>.int (i/2^j.toNat))
abbrev fBand:=fBin (oI0 fun i j=>.int (Builtin.bitAnd i j))
abbrev fBor:=fBin (oI0 fun i j=>.int (Builtin.bitOr i j))
theorem J0 (ha:QX X a f)(hb:QX X b g):QX X (.BinOp a .LShift b pos) (fShl f g):=C4 b1h kI ha hb
theorem a4b (ha:QX X a f)(hb:QX X b g):QX X (.BinOp a .RShift b pos) (fShr f g):=C4 b0Y kI ha hb
theorem a2h (ha:QX X a f)(hb:QX X b g):QX X (.BinOp a .BitAnd b pos) (fBand f g):=C4 b1T kI0 ha hb
theorem a36 (ha:QX X a f)(hb:QX X b g):QX X (.BinOp a .BitOr b pos) (fBor f g):=C4 op_or kI0 ha hb
end
section
variable {P:Program}{w:World}{K:PySem.W.Frag}{mg:Str->Option Value}{base:Heap}
theorem a84 {x:Str}{st:Stmt}{f:Addr}{fd:FuncData}{N ps:List Str}{k:Nat}(F:Fun K x x st f fd)(S:FnScope N ps (defScope st))(B:Binds K fd ps [])(hm:mg x=some (.ref f)):Fn P w K mg base x (k+1) (fun _=>none):=
 ⟨f,fd,ps,F.ok S (fun vs H Q E h0=>by obtain⟨_,_,_,_,_,e,_⟩:=h0;cases e) (fun cdv A outer s H vs Q E hr h0=>by obtain⟨_,_,_,_,_,e,_⟩:=h0;cases e),B,F.kp,hm⟩
theorem a6x {x:Str}{st:Stmt}{f:Addr}{fd:FuncData}{N ps:List Str}{k:Nat}{S:Nat->(List D->Option W)->Prop}(F:Fun K x x st f fd)(Sc:FnScope N ps (defScope st))(B:Binds K fd ps [])(hm:mg x=some (.ref f))(h0:S 0 fun _=>none)
  (step:∀(j m:Nat) (g:List D->Option W),Fn P w K mg base x (k+j) g->S m g->∃g',Fn P w K mg base x (k+j+1) g'/\S (m+1) g'):∀m,∃g,Fn P w K mg base x (k+m+1) g/\S m g
 | 0=>⟨_,a84 F Sc B hm,h0⟩
 | m+1=>by
  obtain⟨g,h,e⟩:=a6x F Sc B hm h0 step m;exact step (m+1) m g h e
end
theorem is_kV {P:Program}{w:World}{k:Key}{u:Value}(h:(mixKind P w).is k u=true):RelV (kV k) u:=by
 rw[a3O] at h;rcases l6 h with ⟨i,t,rfl,rfl⟩|⟨x,t,rfl,rfl⟩
 ·exact⟨t,rfl⟩
 ·exact⟨t,rfl⟩
def ItK (a:Addr) (ks:List Key):It:=
 ⟨fun i H=>(∃kvs,H a=some (.dK kvs)/\kvs.map (·.1)=ks)/\i<ks.length,fun i H x H'=>H'=H/\∀k,ks[i]? =some k->x=kV k,fun i H=>(∃kvs,H a=some (.dK kvs)/\kvs.map (·.1)=ks)/\i=ks.length⟩
theorem a14 {kvs:List (Key×V)}{vs:List (Key×Value)}(r:KV kvs vs):vs.map (·.1)=kvs.map (·.1):=r.keys.symm
theorem a9z {P:Program}{w:World}{K:PySem.W.Frag}{tg:Expr}(a it:Addr)(ks:List Key):Turn P w K tg (ItK a ks) [it] it (fun i h=>h.IsKeyIter it a i ks.length ks.length) where
 mem:=by simp
 obj:=fun i h st b hb=>by
  have e:b=it:=by simpa using hb
  subst e;obtain⟨o,e,c,d⟩:=st;exact⟨o,e,fun v z=>by rw[d] at z;cases z⟩
 keep:=fun i h h' st k=>st.at fun o e=>k it (by simp) o e
 item:=by
  intro X hP hw hK hc i pins s σ H E I hf st hg;subst hP hw hK;obtain⟨⟨kvs,hq,hks⟩,hi⟩:=hg;obtain⟨z,hs,vs,rel,dd⟩:=a2U I.hok hq;have kk:=a14 rel;have l1:vs.length=ks.length:=by rw[<-hks,<-kk,zC]
  have l2:kvs.length=ks.length:=by rw[<-hks,zC]
  rw[l2] at dd;have hx:∃k v,vs[i]? =some (k,v)/\ks[i]? =some k:=by
   have:i<vs.length:=by walk_at "o"
   refine⟨vs[i].1,vs[i].2,by rw[qL this],?_⟩
   rw[<-hks,<-kk,qH,qL this];rfl
  obtain⟨k,v,hx,hk⟩:=hx;obtain⟨f0,f1,f2,f3,f4,f5⟩:=hf it (by simp)
  refine wpAny_pyNext_dict_item (by rw[l1];exact st) dd hx fun key h' ik st' sb=>?_
  rw[l1] at st';have I1:Inv X pins σ H {s with heap:=h'}:=I.turned (t':=s.toks) (fun b o hb e=>(sb.2 b hb).trans e) f0 f1 f3 f4 f5
  obtain⟨o,e,c,d⟩:=id st';exact⟨key,rfl,a4k (s:={s with heap:=h'}) e c d (by decide) ⟨kV k,H,I1,is_kV ik,⟨rfl,fun k' hk'=>by rw[hk] at hk';cases hk';rfl⟩,st',fun b hb=>(hf b hb).1⟩⟩
 done:=by
  intro X hP hw hK hc i pins s σ H E I hf st hg;subst hP hw hK;obtain⟨⟨kvs,hq,hks⟩,hi⟩:=hg;obtain⟨z,hs,vs,rel,dd⟩:=a2U I.hok hq;have kk:=a14 rel;have l1:vs.length=ks.length:=by rw[<-hks,<-kk,zC]
  have l2:kvs.length=ks.length:=by rw[<-hks,zC]
  rw[l2] at dd;obtain⟨f0,f1,f2,f3,f4,f5⟩:=hf it (by simp)
  exact wpAny_pyNext_dict_end (I.ok.hd hc) (by rw[l1];exact st) dd (jI (by walk_at "o")) fun h' eb=>⟨rfl,I.turned (t':=s.toks) (fun b o hb e=>eb b o hb e) f0 f1 f3 f4 f5⟩
 self:=fun _ _ _ _ _ st h=>wpAny_pyIter_keyiter st h
section
variable {X:Cx}{f:FX}
def iDk (tl:TE):TI:=fun σ H R=>tl σ H fun x H1=>∃a ks,x= .ref a/\(∃kvs,H1 a=some (.dK kvs)/\kvs.map (·.1)=ks)/\R (ItK a ks) H1
theorem pi_dk {tg l:Expr}{tl:TE}(hl:PE X l tl):PI X tg l (iDk tl):=by
 intro pins s σ H R I h;refine thn (hl pins s σ H _ I h) fun v s1 ⟨x,H1,I1,r1,a,ks,e,⟨kvs,hq,hks⟩,q⟩=>?_;subst e;cases r1;obtain⟨z,hs,vs,rel,dd⟩:=a2U I1.hok hq;have kk:=a14 rel;have l1:vs.length=ks.length:=by rw[<-hks,<-kk,zC]
 have l2:kvs.length=ks.length:=by rw[<-hks,zC]
 rw[l2] at dd;refine wpAny_pyIter_dict hs dd ?_;refine⟨s1.heap.objs.size,[s1.heap.objs.size],_,_,H1,rfl,I1.kept (t':=s1.toks) fun b o e=>zD _ e,a9z a _ ks,⟨_,zW _ rfl,rfl,by rw[l1];rfl⟩,fun b hb=>?_,q⟩
 have e:b=s1.heap.objs.size:=by simpa using hb
 subst e;exact I1.fpOk (zF _) (I1.hok.fresh (zF _))
def kyD:Key->D
 | .inl i=>.int i
 | .inr x=>.str x
def fiDk (f:FX):FI:=fun ρ=>(f ρ).bind fun p=>(takeAll p.2 [p.1.fz]).bind fun q=>match q.1 with
 | [.dK ks _]=>some (ks.map kyD,q.2)
 | _=>none
theorem a8U {K:PySem.W.Frag}{A:Av}{H:Hp}(k:Key):Den K A H (kyD k) (kV k):=by
 cases k with
 | inl i=>exact v6.mpr rfl
 | inr x=>exact Z8.mpr rfl
theorem qi_dk {tg l:Expr}(hl:QX X l f):QI X tg l (fiDk f):=⟨PI.weak (pi_dk hl.to) fun σ H R h0=>tIe h0 fun P O L ρ xs ρ' r e q=>by
 unfold fiDk at e;obtain⟨⟨w,ρ1⟩,e1,e⟩:=obs e;dsimp only at e;obtain⟨⟨ds,ρ2⟩,e2,e⟩:=obs e;dsimp only at e;split at e
 ·rename_i ks ys;cases e;refine⟨P,O,L,ρ,w,ρ1,r,e1,fun v H1 H' r1 s1 d1=>?_⟩;obtain⟨r2,l2,_⟩:=k8 (vs:=[v]) (r1.grow s1) e2 ⟨v,[],rfl,d1.fz r1 s1,rfl⟩;obtain⟨v',ev,h'⟩:=denL1 l2;cases ev;have r3:=r2.more (p:=(.dK ks ys,v)) h';have hh:Holds ((.dK ks ys,v)::P) P:=fun p hp=>zJ _ hp;have z:=h';rw[Den] at z;obtain⟨a,vs,rfl,⟨hq,_⟩,hlen,l⟩:=z;have zk:∀{us:List V},us.length=ks.length->(ks.zip us).map (·.1)=ks:=fun{us} h=>by rw[List.map_fst_zip (by walk_at "o")]
  refine⟨a,ks,rfl,⟨_,hq,zk (by rw[<-b8 l];exact hlen.symm)⟩,q _ H' _ r3 hh fun Y O' L' ρ' σ' Hh hY rr=>?_⟩
  have z:=rr.head;rw[hY] at z;rw[Den] at z;obtain⟨a',vs',ea,⟨hq',_⟩,hlen',l'⟩:=z;cases ea;have hk:∃kvs,Hh a=some (.dK kvs)/\kvs.map (·.1)=ks:=⟨_,hq',zk (by rw[<-b8 l'];exact hlen'.symm)⟩
  refine⟨fun i x ex=>?_,⟨hk,zC _⟩⟩;rw[qH] at ex;cases ek:ks[i]? with
  | none=>rw[ek] at ex;cases ex
  | some k=>
   rw[ek] at ex;cases ex;refine⟨⟨hk,(zQ.mp ek).1⟩,fun u H2 ⟨y1,y2⟩=>?_⟩;subst y1;rw[y2 k ek];exact⟨Same.refl _,a8U k⟩
 ·cases e⟩
end
section
variable {prog:Program}{w:World}{K:Type} [DecidableEq K] {knd:KeyKind prog w K}{A:Around}{E:Value->Shared->Prop}{s:Shared}{env:Env}
theorem a3z {k v:Expr}{pos:Pos}{Q:Value->Shared->Prop}
  (h:wpAny (model prog w) A (eval k env) (fun kv s1=>wpAny (model prog w) A (eval v env) (fun vv s2=>∃key,knd.is key kv=true/\s2.heap.DictAt knd s.heap.objs.size [] 0/\
   ∀h',h'.DictAt knd s.heap.objs.size [(key,vv)] 1->Heap.SameBut s.heap.objs.size s2.heap h'->Q (.ref s.heap.objs.size) {s2 with heap:=h',toks:=s2.toks+1}) E s1) E {s with heap:=s.heap.push {cls:=.type "dict",data:=.dict #[]}}):
  wpAny (model prog w) A (eval (.Dict [some k] [v] pos) env) Q E s:=by
 rw[arm_eval_Dict,zip_pairTrees [some k] [v] env pos rfl rfl,dictDisplay_pairs _ (fun z=>by have:=congrArg List.length z;rw[pairTrees_length [some k] [v] env pos rfl rfl] at this;cases this) (by rw[pairTrees_length [some k] [v] env pos rfl rfl];show 1<17;decide)]
 refine zA (wpAny_standAt (zA ?_));unfold subDict;refine zA (wpAny_alloc ?_);refine zA (qD ?_);rw[if_pos (by rw[pairTrees_length [some k] [v] env pos rfl rfl];show 1<=15;decide)]
 refine zA (pairTrees_cons_walk (zR h (fun kv s1 h1=>zR h1 (fun vv s2 h2=>pairTrees_nil_walk ?_) fun _ _ e=>e) fun _ _ e=>e));obtain⟨key,ik,hm,hQ⟩:=h2;refine qD ?_;rw[forIn_cons];refine zA (zA (zA (a0m (kvs:=[]) ik hm (jR _) fun h' hm' hs'=>zB ?_)));show wpAny _ _ (forIn [] _ _) _ _ _;rw[forIn_nil];exact zB (zB (zB (zB (hQ h' hm' hs'))))
end
section
variable {X:Cx}{k v:Expr}{pos:Pos}
def fDict1 (i j:Int):FX:=fun ρ=>some (.o (.dK [.inl i] [.int j]),ρ)
theorem a8A {i j:Int}{n m:Nat}{p1 p2:Pos}:QX X (.Dict [some (.Constant (.int i) n p1)] [.Constant (.int j) m p2] pos) (fDict1 i j):=⟨fun pins s σ H Q I h0=>tXe h0 fun P O L ρ w ρ' r e q=>by
 cases e;have hp:H s.heap.objs.size=none:=I.hok.fresh (zF _);have I1:=I.laid (a:=s.heap.objs.size) (o:=.dK []) (t':=s.toks) (fun _ _ q=>zD _ q) (zF _) (a2N s.heap I.big);refine a3z (knd:=mixKind X.prog X.w) ?_;refine zR (a32 (i:=i) (j:=n) (pos:=p1) pins _ σ _ (fun v H'=>v= .int i/\H'=upd H s.heap.objs.size (.dK [])) I1 ⟨rfl,rfl⟩) (fun u1 s1 ⟨v1,H1,I2,rv1,e1,h1⟩=>?_) fun _ _ z=>z;subst e1 h1;refine zR (a32 (i:=j) (j:=m) (pos:=p2) pins _ σ _ (fun v H'=>v= .int j/\H'=upd H s.heap.objs.size (.dK [])) I2 ⟨rfl,rfl⟩) (fun u2 s2 ⟨v2,H2,I3,rv2,e2,h2⟩=>?_) fun _ _ z=>z;subst e2 h2;obtain⟨z,hd,vs,rel,dd⟩:=a2U I3.hok (j9 (H:=H) (a:=s.heap.objs.size) (o:=.dK []));cases rel;refine⟨.inl i,a0M (k:=.inl i) rv1,dd,fun h' dd' hs=>?_⟩;have he:∃q,h'.get? s.heap.objs.size=some q:=let ⟨q,_,hq,_⟩:=dd';⟨q,hq⟩;have I4:=a0c (t':=s2.toks+1) (ob:=.dK [(.inl i,.int j)]) I3 (by rw[j9];exact True.intro) hs he (a7v (vs:=[(.inl i,u2)]) (show 1<=sizeLine by decide) hd (.cons ⟨rfl,rv2⟩ .nil) dd')
 have eu:upd (upd H s.heap.objs.size (.dK [])) s.heap.objs.size (.dK [(.inl i,.int j)])=upd H s.heap.objs.size (.dK [(.inl i,.int j)]):=by
  funext b
  unfold upd
  split<;>rfl
 rw[eu] at I4
 exact⟨.ref s.heap.objs.size,_,I4,rfl,q _ H _ r (j4 hp _) ⟨_,rfl,hp,[.int j],j9,rfl,g7 (v6.mpr rfl) j3⟩⟩⟩
end
section
variable {f g h:FX}{ρ:Ev}{w z:W}{d e:D}{xs:List D}{i:Nat}{m n:Int}{kq:List Key}
def ek2 (fd fk:FX):Option (W×Ev)->Option R
 | some p=>fDPutK fd fk (fun _=>some p) p.2
 | none=>none
def ek3 (w:W) (fk:FX):Option (W×Ev)->Option R
 | some q=>match q.1 with
  | .r i=>(fk q.2).bind fun z=>(takeAll z.2 [w.fz,z.1.fz]).bind fun y=>match y.1 with
   | [d,kd]=>(dkey kd).bind fun k=>match ownAt y.2 i with
    | some (.dK ks xs)=>if ks.length<lim then some (.nx (setOwn y.2 i (.dK (putKs ks k) (putX ks xs k d)))) else none
    | _=>none
   | _=>none
  | _=>none
 | none=>none
def ek4 (w:W) (i:Nat):Option (W×Ev)->Option R
 | some z=>(takeAll z.2 [w.fz,z.1.fz]).bind fun y=>match y.1 with
   | [d,kd]=>(dkey kd).bind fun k=>match ownAt y.2 i with
    | some (.dK ks xs)=>if ks.length<lim then some (.nx (setOwn y.2 i (.dK (putKs ks k) (putX ks xs k d)))) else none
    | _=>none
   | _=>none
 | none=>none
def ek5 (i:Nat):Option (List D×Ev)->Option R
 | some y=>match y.1 with
   | [d,kd]=>(dkey kd).bind fun k=>match ownAt y.2 i with
    | some (.dK ks xs)=>if ks.length<lim then some (.nx (setOwn y.2 i (.dK (putKs ks k) (putX ks xs k d)))) else none
    | _=>none
   | _=>none
 | none=>none
def ek6 (i:Nat) (d:D) (m:Int) (ρ:Ev):Option D->Option R
 | some (.dK ks xs)=>if ks.length<lim then some (.nx (setOwn ρ i (.dK (putKs ks (.inl m)) (putX ks xs (.inl m) d)))) else none
 | _=>none
theorem r_ek:fDPutK f h g ρ=ek2 f h (g ρ):=by unfold ek2;cases e:g ρ with
 | none=>unfold fDPutK;rw[e];rfl
 | some p=>unfold fDPutK;rw[e]
theorem r_ek2:ek2 f h (some (w,ρ))=ek3 w h (f ρ):=by unfold ek2 ek3 fDPutK;dsimp only[bind_some];cases f ρ<;>rfl
theorem r_ek3:ek3 w h (some (.r i,ρ))=ek4 w i (h ρ):=by unfold ek3 ek4;dsimp only;cases h ρ<;>rfl
theorem r_ek4:ek4 w i (some (z,ρ))=ek5 i (takeAll ρ [w.fz,z.fz]):=by unfold ek4 ek5;dsimp only;cases takeAll ρ [w.fz,z.fz]<;>rfl
theorem r_ek5:ek5 i (some ([d,.int m],ρ))=ek6 i d m ρ (ownAt ρ i):=by
 unfold ek5 ek6;rfl
theorem r_ek6:ek6 i d m ρ (some (.dK kq xs))=if kq.length<lim then some (.nx (setOwn ρ i (.dK (putKs kq (.inl m)) (putX kq xs (.inl m) d)))) else none:=rfl
def ik2:Option (W×Ev)->Option (List D×Ev)
 | some p=>(takeAll p.2 [p.1.fz]).bind fun q=>match q.1 with
  | [.dK ks _]=>some (ks.map kyD,q.2)
  | _=>none
 | none=>none
def ik3:Option (List D×Ev)->Option (List D×Ev)
 | some q=>match q.1 with
  | [.dK ks _]=>some (ks.map kyD,q.2)
  | _=>none
 | none=>none
theorem r_ik:fiDk f ρ=ik2 (f ρ):=by unfold fiDk ik2;cases f ρ<;>rfl
theorem b0O:ik2 (some (w,ρ))=ik3 (takeAll ρ [w.fz]):=by unfold ik2 ik3;dsimp only;cases takeAll ρ [w.fz]<;>rfl
theorem a9Y:ik3 (some ([.dK kq xs],ρ))=some (kq.map kyD,ρ):=rfl
theorem r_dc1:fDict1 m n ρ=some (.o (.dK [.inl m] [.int n]),ρ):=rfl
theorem a9h:ge6 (.int m) e ρ (some (.dK kq xs))=some (.v ((look kq xs (.inl m)).getD e),ρ):=rfl
end
def mK (m:List (Int×Int)):List Key:=m.map fun p=>.inl p.1
def mV (m:List (Int×Int)):List D:=m.map fun p=>.int p.2
def lookM:List (Int×Int)->Int->Option Int
 | [],_=>none
 | p::m,k=>if p.1=k then some p.2 else lookM m k
def putM:List (Int×Int)->Int->Int->List (Int×Int)
 | [],k,v=>[(k,v)]
 | p::m,k,v=>if p.1=k then(k,v)::m else p::putM m k v
theorem a0i:∀(m:List (Int×Int)) (k:Int),look (mK m) (mV m) (.inl k)=(lookM m k).map .int
 | [],k=>rfl
 | p::m,k=>by
  show(if(Sum.inl p.1:Key)= .inl k then some (D.int p.2) else look (mK m) (mV m) (.inl k))=_;rw[a0i m k,lookM]
  by_cases e:p.1=k
  ·rw[if_pos e,if_pos (by rw[e])];rfl
  ·rw[if_neg e,if_neg fun z=>e (Sum.inl.inj z)]
theorem a2x {m:List (Int×Int)}{k:Int}:(Sum.inl k:Key)∈mK m↔k∈m.map (·.1):=by
 unfold mK;constructor
 ·intro h;obtain⟨p,hp,e⟩:=zE.mp h;exact zE.mpr ⟨p,hp,Sum.inl.inj e⟩
 ·intro h;obtain⟨p,hp,e⟩:=zE.mp h;exact zE.mpr ⟨p,hp,by rw[<-e]⟩
theorem a2J:∀{m:List (Int×Int)} {k v:Int},k∉m.map (·.1)->putM m k v=m++[(k,v)]
 | [],k,v,_=>rfl
 | p::m,k,v,h=>by
  rw[zH,zK,not_or] at h;rw[putM,if_neg fun z=>h.1 z.symm,a2J h.2];rfl
theorem a5b:∀{m:List (Int×Int)} {k v:Int},k∉m.map (·.1)->List.zipWith (fun(k':Key) (x:D)=>if k'= .inl k then D.int v else x) (mK m) (mV m)=mV m
 | [],k,v,_=>rfl
 | p::m,k,v,h=>by
  rw[zH,zK,not_or] at h;show(if(Sum.inl p.1:Key)= .inl k then D.int v else D.int p.2)::List.zipWith _ (mK m) (mV m)=_;rw[if_neg fun z=>h.1 (Sum.inl.inj z).symm,a5b h.2];rfl
theorem a2H:∀{m:List (Int×Int)} {k v:Int},(m.map (·.1)).Nodup->k∈m.map (·.1)->mK (putM m k v)=mK m/\mV (putM m k v)=List.zipWith (fun(k':Key) (x:D)=>if k'= .inl k then D.int v else x) (mK m) (mV m)
 | [],k,v,_,h=>by cases h
 | p::m,k,v,nd,h=>by
  rw[zH] at nd h;obtain⟨n1,n2⟩:=xK.mp nd;rw[putM]
  by_cases e:p.1=k
  ·rw[if_pos e];rw[e] at n1;refine⟨?_,?_⟩
   ·show(Sum.inl k:Key)::mK m= .inl p.1::mK m;rw[e]
   ·show D.int v::mV m=(if(Sum.inl p.1:Key)= .inl k then D.int v else D.int p.2)::List.zipWith _ (mK m) (mV m);rw[if_pos (by rw[e]),a5b n1]
  ·rw[if_neg e];obtain⟨h1,h2⟩:=a2H (v:=v) n2 ((zK.mp h).resolve_left fun z=>e z.symm);refine⟨?_,?_⟩
   ·show(Sum.inl p.1:Key)::mK (putM m k v)= .inl p.1::mK m;rw[h1]
   ·show D.int p.2::mV (putM m k v)=(if(Sum.inl p.1:Key)= .inl k then D.int v else D.int p.2)::List.zipWith _ (mK m) (mV m);rw[if_neg fun z=>e (Sum.inl.inj z),h2]
theorem b0V {m:List (Int×Int)}{k v:Int}(nd:(m.map (·.1)).Nodup):putKs (mK m) (.inl k)=mK (putM m k v)/\putX (mK m) (mV m) (.inl k) (D.int v)=mV (putM m k v):=by
 unfold putKs putX
 by_cases h:k∈m.map (·.1)
 ·obtain⟨h1,h2⟩:=a2H (v:=v) nd h;rw[if_pos (a2x.mpr h),if_pos (a2x.mpr h),h1,h2];exact⟨rfl,rfl⟩
 ·rw[if_neg fun z=>h (a2x.mp z),if_neg fun z=>h (a2x.mp z),a2J h];refine⟨?_,?_⟩
  ·unfold mK;rw[jQ];rfl
  ·unfold mV;rw[jQ];rfl
theorem a5V {m:List (Int×Int)}{k v:Int}:∀{j:Int},j∈(putM m k v).map (·.1)↔j=k\/j∈m.map (·.1):=by
 induction m with
 | nil=>intro j;simp[putM]
 | cons p m ih=>
  intro j;rw[putM]
  by_cases e:p.1=k
  ·rw[if_pos e,zH,zH,zK,zK,e];grind
  ·rw[if_neg e,zH,zH,zK,zK,ih];grind
theorem R8:∀{m:List (Int×Int)} {k v:Int},(m.map (·.1)).Nodup->((putM m k v).map (·.1)).Nodup
 | [],k,v,_=>by simp[putM]
 | p::m,k,v,nd=>by
  rw[zH] at nd;obtain⟨n1,n2⟩:=xK.mp nd;rw[putM]
  by_cases e:p.1=k
  ·rw[if_pos e,zH];exact xK.mpr ⟨by rw[e] at n1;exact n1,n2⟩
  ·rw[if_neg e,zH];exact xK.mpr ⟨fun z=>(a5V.mp z).elim e n1,R8 n2⟩
theorem F4:∀{m:List (Int×Int)} {k v j:Int},lookM (putM m k v) j=if k=j then some v else lookM m j
 | [],k,v,j=>rfl
 | p::m,k,v,j=>by
  rw[putM,lookM]
  by_cases e:p.1=k
  ·rw[if_pos e,lookM]
   by_cases ej:k=j
   ·rw[if_pos ej,if_pos ej]
   ·rw[if_neg ej,if_neg ej,if_neg (by rw[e];exact ej)]
  ·rw[if_neg e,lookM,F4]
   by_cases ej:k=j
   ·rw[if_pos ej,if_pos ej,if_neg (by rw[<-ej];exact e)]
   ·rw[if_neg ej,if_neg ej]
theorem t7:∀{m:List (Int×Int)} {k:Int},k∈m.map (·.1)->∃v,lookM m k=some v
 | [],k,h=>by cases h
 | p::m,k,h=>by
  rw[lookM]
  by_cases e:p.1=k
  ·exact⟨_,if_pos e⟩
  ·rw[if_neg e];exact t7 ((zK.mp (by rw[zH] at h;exact h)).resolve_left fun z=>e z.symm)
theorem a1X:∀{m:List (Int×Int)} {k v:Int},lookM m k=some v->k∈m.map (·.1)
 | [],k,v,h=>by cases h
 | p::m,k,v,h=>by
  rw[lookM] at h;rw[zH,zK]
  by_cases e:p.1=k
  ·exact .inl e.symm
  ·rw[if_neg e] at h;exact .inr (a1X h)
theorem b0F (m:List (Int×Int)):(mK m).map kyD=(m.map (·.1)).map .int:=by
 unfold mK;rw[qS,qS];rfl
def val:List Bool->Nat
 | []=>0
 | b::bs=>(if b then 1 else 0)+2*val bs
theorem a0d:∀(bs:List Bool) (p:Nat),val bs/2^p%2=if bs.getD p false then 1 else 0
 | [],p=>by simp[val]
 | b::bs,0=>by
  show((if b then 1 else 0)+2*val bs)/1%2=if b then 1 else 0;cases b<;>simp<;>walk_at "o"
 | b::bs,p+1=>by
  have e:val (b::bs)/2=val bs:=by
   show((if b then 1 else 0)+2*val bs)/2=val bs;cases b<;>simp<;>walk_at "o"
  rw[Nat.pow_succ,Nat.mul_comm,<-Nat.div_div_eq_div_mul,e,a0d bs p];rfl
theorem D1:∀(bs:List Bool) (p:Nat),bs.getD p false=true->val bs=val (bs.set p false)+2^p
 | [],p,h=>by simp at h
 | b::bs,0,h=>by
  have:b=true:=h
  subst this;show 1+2*val bs=0+2*val bs+1;walk_at "o"
 | b::bs,p+1,h=>by
  have:=D1 bs p h
  show(if b then 1 else 0)+2*val bs=(if b then 1 else 0)+2*val (bs.set p false)+2^(p+1);rw[this,Nat.pow_succ];walk_at "o"
theorem a2o:∀bs:List Bool,val bs<2^bs.length
 | []=>by simp[val]
 | b::bs=>by
  have:=a2o bs
  show(if b then 1 else 0)+2*val bs<2^(bs.length+1);rw[Nat.pow_succ];cases b<;>simp<;>walk_at "o"
theorem a40:∀(n h:Nat),h<2^n->∃bs:List Bool,bs.length=n/\val bs=h
 | 0,h,hh=>⟨[],rfl,by simp[val] at hh ⊢;walk_at "o"⟩
 | n+1,h,hh=>by
  obtain⟨bs,h1,h2⟩:=a40 n (h/2) (by rw[Nat.pow_succ] at hh;walk_at "o")
  refine⟨decide (h%2=1)::bs,by rw[qC,h1],?_⟩
  show(if decide (h%2=1)=true then 1 else 0)+2*val bs=h;rw[h2]
  by_cases e:h%2=1
  ·rw[zL e,if_pos rfl];walk_at "o"
  ·rw[zO e,if_neg (by decide)];walk_at "o"
theorem L8:∀n:Nat,val (List.replicate n true)=2^n-1
 | 0=>rfl
 | n+1=>by
  have:=L8 n
  have:=qT (n:=n)
  show 1+2*val (List.replicate n true)=2^(n+1)-1;rw[Nat.pow_succ];walk_at "o"
def dot:List Bool->List Int->Int
 | b::bs,x::xs=>(if b then x else 0)+dot bs xs
 | _,_=>0
theorem a3u:∀{bs:List Bool},(∀p,bs.getD p false=false)->val bs=0
 | [],_=>rfl
 | b::bs,h=>by
  have h0:b=false:=h 0
  have:=a3u (bs:=bs) fun p=>h (p+1)
  subst h0;show 0+2*val bs=0;walk_at "o"
section
variable {X:Cx}{a b:Expr}{f g:FX}{pos:Pos}
def oInB (neg:Bool) (x y:D):Option W:=match x with
 | .bl i=>(items y).bind fun ys=>(boolsOf ys).map fun ns=>nb neg (decide (i∈ns))
 | _=>none
theorem a1M (b:Bool):∀bs:List Bool,inV (.bl b) (bs.map V.bl)=decide (b∈bs)
 | []=>rfl
 | c::bs=>by
  have ih:=a1M b bs;unfold inV at ih ⊢;rw[zH,any_cons,ih];show((c==b)||decide (b∈bs))=decide (b∈c::bs);cases c<;>cases b<;>simp
theorem kInB {neg:Bool}:Pr2 X (oInB neg) (rIn X.K neg):=by
 intro A x y w v u H Q _ e hx hy q;cases x with
 | bl i=>
  simp only[oInB] at e;cases e1:items y with
  | none=>rw[e1] at e;cases e
  | some ys=>
   rw[e1] at e;simp only[bind_some] at e;obtain⟨ns,e2,e⟩:=oms e;cases e;obtain⟨p,vs,rfl,hq,l⟩:=B6 e1 hy;rw[a01 e2] at l;rw[O6 l] at hq;rw[a5s hx];exact⟨p,ns.map V.bl,rfl,hq,rfl,a0G ns,by rw[a1M];exact q _ H (Same.refl H) v4⟩
 | _=>cases e
theorem b01 (ha:QX X a f)(hb:QX X b g)(hm:behindInMarks .In b=false:=by rfl):QX X (.Compare a [.In] [b] pos) (fBin (oInB false) f g):=a2v W9 kInB ha hb hm
theorem a5F (ha:QX X a f)(hb:QX X b g)(hm:behindInMarks .NotIn b=false:=by rfl):QX X (.Compare a [.NotIn] [b] pos) (fBin (oInB true) f g):=a2v S5 kInB ha hb hm
theorem a4f {neg i:Bool}{bs:List Bool}:oInB neg (.bl i) (.lst (bs.map .bl))=some (nb neg (decide (i∈bs))):=by
 unfold oInB;dsimp only;rw[show items (.lst (bs.map D.bl))=some (bs.map .bl) from rfl,bind_some,Z0];rfl
end
theorem a1z {ρ:Ev}{i:Int}:tru3 ρ (some (.int i))=some (!decide (i=0),ρ):=rfl
theorem C7 (bs:List Bool)(p:Nat):(val bs).testBit p=bs.getD p false:=by
 rw[Nat.testBit_eq_decide_div_mod_eq,a0d];cases bs.getD p false<;>rfl
theorem b1w {bs:List Bool}{p:Nat}(h:p<bs.length):val bs ||| 2^p=val (bs.set p true):=by
 apply Nat.eq_of_testBit_eq;intro i;rw[Nat.testBit_or,C7,C7,Nat.testBit_two_pow,zS,zS,getElem?_set]
 by_cases e:p=i
 ·subst e;rw[if_pos rfl,if_pos h];simp
 ·rw[if_neg e];simp[e]
theorem a5X (x y:Nat):Builtin.bitOr (x:Int) (y:Int)=((x ||| y:Nat):Int):=by
 unfold Builtin.bitOr;have n:∀z:Nat,Builtin.bitNot (z:Int)= -(z:Int)-1/\Builtin.bitNot (-(z:Int)-1)=(z:Int):=fun z=>by
  unfold Builtin.bitNot;walk_at "o"
 rw[(n x).1,(n y).1];unfold Builtin.bitAnd;rw[zO (by walk_at "o"),zO (by walk_at "o")]
 dsimp only;rw[(n x).2,(n y).2,qN,qN];unfold Builtin.bitNot;walk_at "o"
theorem a61 {bs:List Bool}{p:Int}(h:p.toNat<bs.length):Builtin.bitOr ((val bs:Nat):Int) (1*2^p.toNat)=((val (bs.set p.toNat true):Nat):Int):=by
 rw[<-b1w h,<-a5X,xF,Int.one_mul];rfl
theorem a8t (x:Int)(h:0<=x):Builtin.bitAnd x 1=x%2:=by
 unfold Builtin.bitAnd;rw[zL h,zL (by decide:(0:Int)<=1)]
 show((x.toNat &&& 1:Nat):Int)=x%2;rw[Nat.and_one_is_mod];walk_at "o"
theorem a31 (bs:List Bool)(p:Nat):Builtin.bitAnd (((val bs:Nat):Int)/2^p) 1=if bs.getD p false then 1 else 0:=by
 rw[a8t _ (Int.ediv_nonneg (by walk_at "o") (Int.le_of_lt (Int.pow_pos (by decide))))]
 have:=a0d bs p
 have e:((val bs:Nat):Int)/2^p%2=((val bs/2^p%2:Nat):Int):=by
  rw[Int.natCast_emod,Int.natCast_ediv,xF];rfl
 rw[e,this]
 split<;>rfl
theorem a6g {bs:List Bool}(h:0<val bs):∃l:Nat,((Builtin.Int.intBits ((val bs:Nat):Int):Nat):Int)-1=(l:Int)/\bs.getD l false=true/\∀p,l<p->bs.getD p false=false:=by
 refine⟨(val bs).log2,?_,?_,fun p hp=>?_⟩
 ·unfold Builtin.Int.intBits;rw[if_neg (by simp;walk_at "o"),Int.natAbs_natCast]
  walk_at "o"
 ·rw[<-C7];exact Nat.testBit_log2 (by walk_at "o")
 ·rw[<-C7];refine Nat.testBit_lt_two_pow ?_;have h1:val bs<2^((val bs).log2+1):=Nat.lt_log2_self;exact zI h1 (jE (by decide) hp)
theorem a6W {X:Cx}{a b c:Expr}{f g h:FX}{pos:Pos}{op op':CmpOp}{r r':R2}{o o':D->D->Option W}(ho:OpR X (compareOp op) r)(ho':OpR X (compareOp op') r')(k:Pr2 X o r)(k':Pr2 X o' r')(ha:QX X a f)(hb:QX X b g)(hc:QX X c h)(hm:lastMarks [op,op'] [b,c]=false):QT X (.Compare a [op,op'] [b,c] pos) (fTest (fChain o o' f g h)):=by
 refine⟨PT.weak (a7Z ho ho' ha.to hb.to hc.to hm) fun σ H Q h0=>tTe h0 fun P O L ρ t ρ' r e q=>?_⟩;refine a0W k k' σ H _ ⟨P,O,L,ρ,_,ρ',r,Q5 e,fun v H1 H' r1 s1 d1=>⟨t,?_,q H' (r1.grow s1)⟩⟩;have d1':Den X.K (AvO O ρ' σ) H' (.bl t) v:=d1;exact W6.mp d1'
theorem a8I {X:Cx}{a b c:Expr}{f g h:FX}{pos:Pos}(ha:QX X a f)(hb:QX X b g)(hc:QX X c h)(hm:lastMarks [.LtE,.LtE] [b,c]=false:=by with_unfolding_all rfl):QT X (.Compare a [.LtE,.LtE] [b,c] pos) (fTest (fChain oLe oLe f g h)):=a6W a71 a71 kB0 kB0 ha hb hc hm
end Z
local macro_rules|`(tactic| walk_at "z r") => `(tactic| simp only[Z.lim, Z.r_nt, Z.a9Q, Z.r_fn, Z.a6s, Z.a6m, Z.a9L, Z.a2K, Z.a7x, Z.a6S, Z.r_ge, Z.b0f, Z.a5o, Z.a5q, Z.b0h, Z.a9W, Z.b0u, Z.a92, Z.a35, Z.b0c, Z.r_td, Z.b0y, Z.b0H, Z.a9K, Z.a9R, Z.a9F, Z.ix_0, Z.a_3, Z.a_4, Z.it_t, Z.it_l, Z.r_iz, Z.a9C, Z.a9P, Z.b0J, Z.r_r1, Z.a90, Z.r_r2, Z.a9U, Z.r_lr, Z.a9B, Z.a73, Z.r_ch, Z.a9X, Z.a9I, Z.b0C, Z.a5d, Z.a4Y, Z.a9Z, Z.a4S, Z.a45, Z.a4q, Z.r_c, Z.a69, Z.a6G, Z.a4I, Z.a5f, Z.a62, Z.a6o, Z.a8d, Z.a47, Z.a4X, Z.a7F, Z.b0k, Z.a7g, Z.a7w, Z.a6M, Z.a8m, Z.r_un, Z.b0q, Z.b0l, Z.a0u, Z.a7J, Z.a8w, Z.a8n, Z.a3o, Z.a1W, Z.b0B, Z.a74, Z.b0A, Z.r_or, Z.a4N, Z.a4l, Z.a6r, Z.a8z, Z.a24, Z.a3g, Z.b0P, Z.a7k, Z.a4H, Z.a5n, Z.a5c, Z.a5p, Z.a5l, Z.a7H, Z.a79, Z.a7u, Z.b0x, Z.a9N, Z.a4K, Z.a44, Z.a6t, Z.a4j, Z.a4m, Z.r_k1, Z.r_k2, Z.b0M, Z.a77, Z.a6O, Z.a7m, Z.r_dl, Z.b0o, Z.b0L, Z.b0g, Z.r_sl, Z.a97, Z.b0m, Z.a9E, Z.b0w, Z.a8D, Z.a8B, Z.r_o0, Z.r_o1, Z.b0e, Z.a7i, Z.a1T, Z.a1U, Z.a1K, Z.a94, Z.a4Z, Z.a4n, Z.a4F, Z.a2W, Z.r_ifS, Z.a4T, Z.a4A, Z.b0b, Z.a5k, Z.a4t, Z.a4O, Z.a8i, Z.a6L, Z.r_ag, Z.b0z, Z.a9J, Z.b0j, Z.a4p, Z.a75, Z.a4P, Z.b0K, Z.a8o, Z.r_gs, Z.b0p, Z.a9H, Z.b0r, Z.a8p, Z.a4g, Z.r_is, Z.b0E, Z.a6U, Z.a8q, Z.a9D, Z.a8j, Z.a6u, Z.a4M, Z.r_mu, Z.a99, Z.a96, Z.b0t, Z.b0a, Z.b0G, Z.a91, Z.a9S, Z.a2P, Z.a29, Z.a60, Z.a1B, Z.o_i0, Z.o_i, Z.a4r, Z.a4G, Z.a8g, Z.a9V, Z.a7A, Z.a76, Z.a8E, Z.a5i, Z.a1Z, Z.o_d2, Z.a_0, Z.a_1, Z.a_2, Z.b0n, Z.a93, Z.a4u, Z.a8r, Z.a0n, Z.a4i, Z.a7T, Z.a8c, Z.a1o, Z.b0Q, Z.b0i, Z.a6p, Z.a7o, Z.a7R, Z.b0N, Z.a9T, Z.W.own, Z.start0, Z.deq, Z.flatE, Z.lf, Z.lfL, Z.noR, Z.frzL, qC, xX, zH, xT, List.replicate, jP, nil_append, List.cons_append, xS, qY, List.set_cons_zero, List.set_cons_succ, bind_some, jH, jF, xH, jJ, Nat.zero_add, Nat.reduceAdd, Nat.reduceSub, jU, Nat.add_one_sub_one, and_self, and_true, true_and, Bool.and_self, xI, Bool.not_true, Bool.not_false, Bool.or_true, Bool.false_or, Bool.true_or, Bool.and_false, jZ, reduceIte, ite_self, decide_true, decide_false, Nat.reduceEqDiff, Nat.reduceLeDiff, beq_self_eq_true, List.isEmpty_cons, List.isEmpty_nil])
local macro_rules|`(tactic| walk_at "q") => `(tactic| repeat(first|walk_at "z r"))
local macro_rules|`(tactic| walk_at "z i") => `(tactic| simp only[Z.lim, Z.r_nt, Z.a9Q, Z.r_fn, Z.a6s, Z.a6m, Z.a9L, Z.a2K, Z.a7x, Z.a6S, Z.r_ge, Z.b0f, Z.a5o, Z.a5q, Z.b0h, Z.a9W, Z.b0u, Z.a92, Z.a35, Z.b0c, Z.r_td, Z.b0y, Z.b0H, Z.a9K, Z.a9R, Z.a9F, Z.ix_0, Z.a_3, Z.a_4, Z.it_t, Z.it_l, Z.r_iz, Z.a9C, Z.a9P, Z.b0J, Z.r_r1, Z.a90, Z.r_r2, Z.a9U, Z.r_lr, Z.a9B, Z.a73, Z.r_ch, Z.a9X, Z.a9I, Z.b0C, Z.a5d, Z.a4Y, Z.a9Z, Z.a4S, Z.a45, Z.a4q, Z.r_c, Z.a69, Z.a6G, Z.a4I, Z.a5f, Z.a62, Z.a6o, Z.a8d, Z.a47, Z.a4X, Z.a7F, Z.b0k, Z.a7g, Z.a7w, Z.a6M, Z.a8m, Z.r_un, Z.b0q, Z.b0l, Z.a0u, Z.a7J, Z.a8w, Z.a8n, Z.a3o, Z.a1W, Z.b0B, Z.a74, Z.b0A, Z.r_or, Z.a4N, Z.a4l, Z.a6r, Z.a8z, Z.a24, Z.a3g, Z.b0P, Z.a7k, Z.a4H, Z.a5n, Z.a5c, Z.a5p, Z.a5l, Z.a7H, Z.a79, Z.a7u, Z.b0x, Z.a9N, Z.a4K, Z.a44, Z.a6t, Z.a4j, Z.a4m, Z.r_k1, Z.r_k2, Z.b0M, Z.a77, Z.a6O, Z.a7m, Z.r_dl, Z.b0o, Z.b0L, Z.b0g, Z.r_sl, Z.a97, Z.b0m, Z.a9E, Z.b0w, Z.a8D, Z.a8B, Z.r_o0, Z.r_o1, Z.b0e, Z.a7i, Z.a1T, Z.a1U, Z.a1K, Z.a94, Z.a4Z, Z.a4n, Z.a4F, Z.a2W, Z.a4T, Z.a4A, Z.b0b, Z.a5k, Z.a4t, Z.a4O, Z.a8i, Z.a6L, Z.r_ag, Z.b0z, Z.a9J, Z.b0j, Z.a4p, Z.a75, Z.a4P, Z.b0K, Z.a8o, Z.r_gs, Z.b0p, Z.a9H, Z.b0r, Z.a8p, Z.a4g, Z.r_is, Z.b0E, Z.a6U, Z.a8q, Z.a9D, Z.a8j, Z.a6u, Z.a4M, Z.r_mu, Z.a99, Z.a96, Z.b0t, Z.b0a, Z.b0G, Z.a91, Z.a9S, Z.a2P, Z.a29, Z.a60, Z.a1B, Z.o_i0, Z.o_i, Z.a4r, Z.a4G, Z.a8g, Z.a9V, Z.a7A, Z.a76, Z.a8E, Z.a5i, Z.a1Z, Z.o_d2, Z.a_0, Z.a_1, Z.a_2, Z.b0n, Z.a93, Z.a4u, Z.a8r, Z.a0n, Z.a4i, Z.a7T, Z.a8c, Z.a1o, Z.b0Q, Z.b0i, Z.a6p, Z.a7o, Z.a7R, Z.b0N, Z.a9T, Z.W.own, Z.start0, Z.deq, Z.flatE, Z.lf, Z.lfL, Z.noR, Z.frzL, qC, xX, zH, xT, List.replicate, jP, nil_append, List.cons_append, xS, qY, List.set_cons_zero, List.set_cons_succ, bind_some, jH, jF, xH, jJ, Nat.zero_add, Nat.reduceAdd, Nat.reduceSub, jU, Nat.add_one_sub_one, and_self, and_true, true_and, Bool.and_self, xI, Bool.not_true, Bool.not_false, Bool.or_true, Bool.false_or, Bool.true_or, Bool.and_false, jZ, reduceIte, ite_self, decide_true, decide_false, Nat.reduceEqDiff, Nat.reduceLeDiff, beq_self_eq_true, List.isEmpty_cons, List.isEmpty_nil])
set_option maxHeartbeats 1500000
namespace Q73
open PySem L2 Z
abbrev LO:=List D->Option W
abbrev LL:=D->List D->Option (W×D)
local macro_rules|`(tactic| walk_at "c") => `(tactic| exact⟨rfl, rfl, rfl, by decide +kernel, rfl, by decide +kernel, by decide +kernel⟩)
def top (i:Nat):Stmt:=PySem.Challenge.pw_twainhoard_k73_from_which_gain_on.main.body.getD i (.Pass ⟨0,0,0,0⟩)
section
variable {P:Program}{w:World}{K:PySem.W.Frag}{mg:Str->Option Value}{base:Heap}{f:Addr}{fd:FuncData}{k:Nat}
abbrev Q0:Stmt:=top 1
theorem Z4:FnScope ["thing"] ["thing"] (defScope Q0):=by walk_at "c"
def a0H (g:LO):Prop:=∀d:D,isX d=false->g [d]=some (.v (.bl (whole d)))
theorem a3x (m5:mg "isinstance"=none)(m_int:mg "int"=none)(W2:mg "bool"=none)(F:Fun K "is_whole" "is_whole" Q0 f fd)(B:Binds K fd ["thing"] [])(hm:mg "is_whole"=some (.ref f)):∃g,Fn P w K mg base "is_whole" (k+1) g/\a0H g:=by
 have nd:=Z4.nd;refine⟨_,w6 F Z4 B hm rfl rfl (fun cdv A outer s H E hr=>(c6 (j8 (a3E (a2f (T:="int") (a2n (by decide)) m5 m_int (a7 0)) (a3S (a46 (a2f (T:="bool") (a2n (by decide)) m5 W2 (a7 0)))))))),?_⟩
 intro d hd;have i1:=a8a hd;have i2:=a48 hd;cases d with
 | exn C=>cases hd
 | _=>repeat(first|walk_at "z r" | simp only[i1,i2,isI,isB,whole])
abbrev W4:Stmt:=top 8
theorem a0J:FnScope ["web","people","ties"] ["web"] (defScope W4):=by walk_at "c"
def a1C (g:LO):Prop:=∀(n:Int) (ts:List Tie),WebOk n ts->g [webD n ts]=some (.o (.lst ((sortK (parK n ts)).map tupI)))
def one1:D->D
 | .int i=>.tup [.int i]
 | d=>d
def cut2:D->D
 | .tup [a,b,_]=>.tup [a,b]
 | d=>d
theorem a2k {a b c:D}:cutD [a,b,c] none (some 2)=[a,b]:=rfl
theorem a7q (n:Int)(ts:List Tie):((rngD 0 n.toNat).filter fun _=>true).map one1++((ts.map tieD).filter fun _=>true).map cut2=(parK n ts).map tupI:=by
 rw[q8,q8];unfold parK rngD;rw[jQ,qS,qS,qS,qS];congr 1;apply jG;intro i _;show D.tup [.int (0+(i:Int))]=D.tup [.int (i:Int)];rw[Int.zero_add]
theorem a3R (E7:mg "sorted"=none)(k7:mg "range"=none)(F:Fun K "parties" "parties" W4 f fd)(B:Binds K fd ["web"] [])(hm:mg "parties"=some (.ref f)):∃g,Fn P w K mg base "parties" (k+1) g/\a1C g:=by
 have nd:=a0J.nd
 refine⟨_,w6 F a0J B hm rfl rfl (fun cdv A outer s H E hr=>(c5 (a6H (a7 0) (W3 rfl (m7 (c8 1 nd) (m7 (c8 2 nd) N2))))
  (c6 (j8 (a1a hr rfl E7 (a8 (q9 (D5 (N:=["person"]) (js:=[none]) (li:=none) rfl (u6 (by exact(.own .nil)) rfl (by exact trivial) (by rfl)) (G2 (a3m k7 (a8 (a7 1) b9))) (fun _ _ _ _=>(c8 0 (show((["person"]:List Str)++[accN]).Nodup by decide +kernel))) (fun _ _ _ _=>B4) (fun _ _ _ _=>(u7 (a8 (a7 0) b9)))) (D5 (N:=["tie"]) (js:=[none]) (li:=none) rfl (u6 (by exact(.own .nil)) rfl (by exact trivial) (by rfl)) (E5 2) (fun _ _ _ _=>(c8 0 (show((["tie"]:List Str)++[accN]).Nodup by decide +kernel))) (fun _ _ _ _=>B4) (fun _ _ _ _=>(U2 (a7 0) a0b (Z7 a9))))) b9)))))),?_⟩
 intro n ts hw;have hn:=hw.n1;have hl:=hw.len;obtain⟨pl,pne⟩:=a8y hw;have r1:(-(2^62:Int)<=n/\n<2^62):=by walk_at "o"
 have so:=Z1 (ks:=parK n ts) (by walk_at "o") pne
 have pq:=a7q n ts;have ll:(((rngD 0 n.toNat).filter fun _=>true).map one1).length+(((ts.map tieD).filter fun _=>true).map cut2).length<=1000000:=by
  rw[q8,q8,zC,zC,zC,U9];walk_at "o"
 unfold webD;walk_at "q";rw[l5 (ρ1:=[some (.v (.tup [.int n,.tup (ts.map tieD)])),some (.v (.int n)),some (.v (.tup (ts.map tieD)))]) (xs:=rngD 0 n.toNat) (fun B=>∃o1:Option D,B=[o1.map .v]) (fun _=>true) one1]
 ·walk_at "q";rw[l5 (ρ1:=[some (.v (.tup [.int n,.tup (ts.map tieD)])),some (.v (.int n)),some (.v (.tup (ts.map tieD)))]) (xs:=ts.map tieD) (fun B=>∃o1:Option D,B=[o1.map .v]) (fun _=>true) cut2]
  ·repeat(first|walk_at "z r" | simp only[ll,pq,so])
  ·walk_at "q"
  ·rintro _ ⟨_,rfl⟩;rfl
  ·exact⟨none,rfl⟩
  ·rw[zC];unfold lim;walk_at "o"
  ·refine t4 fun y hy=>?_;obtain⟨x,hx,rfl⟩:=zE.mp hy;obtain⟨t,_,rfl⟩:=zE.mp (zM.mp hx).1;rfl
  ·rintro x hx _ zs ⟨o1,rfl⟩;obtain⟨⟨a,b,c⟩,ha,rfl⟩:=zE.mp hx;refine⟨[some (.v (tieD (a,b,c)))],.v (.tup [.int a,.int b]),⟨some _,rfl⟩,?_,rfl,fun _=>⟨?_,.inl rfl⟩⟩
   ·walk_at "q"
   ·unfold tieD
    repeat(first|walk_at "z r" | simp only[a2k])
 ·repeat(first|walk_at "z r" | simp only[r1])
 ·rintro _ ⟨_,rfl⟩;rfl
 ·exact⟨none,rfl⟩
 ·rw[U9];unfold lim;walk_at "o"
 ·refine t4 fun y hy=>?_;obtain⟨x,hx,rfl⟩:=zE.mp hy;obtain⟨i,rfl,_⟩:=a0e (zM.mp hx).1;rfl
 ·rintro x hx _ zs ⟨o1,rfl⟩;obtain⟨i,rfl,_⟩:=a0e hx;refine⟨[some (.v (.int i))],.v (.tup [.int i]),⟨some _,rfl⟩,?_,rfl,fun _=>⟨?_,.inl rfl⟩⟩
  ·walk_at "q"
  ·walk_at "q"
abbrev a2F:Stmt:=top 9
theorem a3n:FnScope ["web"] ["web"] (defScope a2F):=by walk_at "c"
def a2z (g:LO):Prop:=∀(n:Int) (ts:List Tie),WebOk n ts->g [webD n ts]=some (.o (.dT (ts.map tkK) (ts.map fun t=>.int t.2.2)))
def keyT:D->List Key
 | .tup [.int a,.int b,.int _]=>[Sum.inl a,Sum.inl b]
 | _=>[]
def valT:D->D
 | .tup [_,_,c]=>c
 | d=>d
theorem a2L (ts:List Tie):(ts.map tieD).map keyT=ts.map tkK:=by rw[qS];rfl
theorem a3q (ts:List Tie):(ts.map tieD).map valT=ts.map fun t=>D.int t.2.2:=by rw[qS];rfl
theorem a6I (F:Fun K "gains" "gains" a2F f fd)(B:Binds K fd ["web"] [])(hm:mg "gains"=some (.ref f)):∃g,Fn P w K mg base "gains" (k+1) g/\a2z g:=by
 have nd:=a3n.nd;refine⟨_,w6 F a3n B hm rfl rfl (fun cdv A outer s H E hr=>(c6 (j8 (a7j (N:=["one","other","gain"]) (js:=[none,none,none]) (li:=none) 2 hr rfl (u6 (by exact(.own (.own (.own .nil)))) rfl (by exact trivial) (by rfl)) (C2 (j0 hr (a7 0) a9)) (fun _ _ _ _=>(W3 rfl (m7 (c8 0 (show((["one","other","gain"]:List Str)++[accN]).Nodup by decide +kernel)) (m7 (c8 1 (show((["one","other","gain"]:List Str)++[accN]).Nodup by decide +kernel)) (m7 (c8 2 (show((["one","other","gain"]:List Str)++[accN]).Nodup by decide +kernel)) N2))))) (fun _ _ _ _=>B4) (fun _ _ _ _=>(a8 (a7 0) (a8 (a7 1) b9))) (fun _ _ _ _=>a8S 2))))),?_⟩
 intro n ts hw;have hl:=hw.len;unfold webD;walk_at "q";rw[a57 (ρ1:=[some (.v (.tup [.int n,.tup (ts.map tieD)]))]) (xs:=ts.map tieD) (fun B=>∃o1 o2 o3:Option D,B=[o1.map .v,o2.map .v,o3.map .v]) keyT valT]
 ·rw[a2L,a3q];walk_at "q"
 ·walk_at "q"
 ·rintro _ ⟨_,_,_,rfl⟩;rfl
 ·exact⟨none,none,none,rfl⟩
 ·rw[zC];unfold lim;walk_at "o"
 ·rw[a3q];refine t4 fun y hy=>?_;obtain⟨x,hx,rfl⟩:=zE.mp hy;rfl
 ·rw[a2L];exact a65 hw
 ·rintro x hx _ ks zs ⟨o1,o2,o3,rfl⟩ hk;obtain⟨⟨a,b,c⟩,ha,rfl⟩:=zE.mp hx;unfold lim at hk;refine⟨[some (.v (.int a)),some (.v (.int b)),some (.v (.int c))],⟨some _,some _,some _,rfl⟩,?_⟩;rw[show tieD (a,b,c)= .tup [.int a,.int b,.int c] from rfl]
  repeat(first|walk_at "z r" | simp only[hk])
  rfl
theorem two_of {n:Int}{ts:List Tie}(hw:WebOk n ts){k:List Int}(hk:k∈parK n ts):(∃a,k=[a])\/∃a c,k=[a,c]/\0<=a/\a<c/\c<n/\1<=gainOf ts k:=by
 unfold parK at hk;rcases jA.mp hk with z|z
 ·obtain⟨i,_,rfl⟩:=zE.mp z;exact .inl ⟨_,rfl⟩
 ·obtain⟨t,ht,rfl⟩:=zE.mp z;have b:=hw.t t ht;refine .inr ⟨t.1,t.2.1,rfl,b.1,b.2.1,b.2.2.1,?_⟩;have key:∀ts:List Tie,(∀t∈ts,1<=t.2.2)->t∈ts->1<=gainOf ts [t.1,t.2.1]:=by
   intro ts
   induction ts with
   | nil=>intro _ h;cases h
   | cons u us ih=>
    intro h1 h2;rw[gainOf]
    split
    ·exact h1 u zG
    ·rename_i ne;rcases zK.mp h2 with rfl|h2
     ·exact absurd rfl ne
     ·exact ih (fun t ht=>h1 t (zJ _ ht)) h2
  exact key ts (fun t ht=>(hw.t t ht).2.2.2.1) ht
abbrev G6:Stmt:=top 23
theorem O7:FnScope ["cell","k","part"] ["cell","k"] (defScope G6):=by walk_at "c"
def V1 (g:LO):Prop:=∀c k:Int,0<=k->k<40->∃i:Int,g [.int c,.int k]=some (.v (.int i))
theorem a03 (F:Fun K "_law_mixed" "_law_mixed" G6 f fd)(B:Binds K fd ["cell","k"] [])(hm:mg "_law_mixed"=some (.ref f)):∃g,Fn P w K mg base "_law_mixed" (k+1) g/\V1 g:=by
 have nd:=O7.nd
 refine⟨_,w6 F O7 B hm rfl rfl (fun cdv A outer s H E hr=>(c5 (j6 2 nd (a0F (a0N (q9 (q9 (a0F (a7 0) a9) (a0N a9 (a7 1))) a9) a9) a9))
  (c5 (j6 2 nd (a0F (a0N (a7 2) (a7 2)) a9))
  (c6 (j8 (b06 (a0F (a0N (q9 (a7 2) (a7 1)) a9) a9) a9)))))),?_⟩
 intro c k h0 h1;have p0:∀a:Int,mOk a 48271:=fun a=>.inr (.inl (by decide))
 have p1:∀a:Int,mOk a 69621:=fun a=>.inr (.inl (by decide))
 have p2:∀a:Int,mOk 7919 a:=fun a=>.inl (by decide)
 have p3:∀a:Int,mOk (a%2305843009213693951) (a%2305843009213693951):=fun a=>.inl (by
  have:=Int.emod_nonneg a (b:=2305843009213693951) (by decide)
  have:=Int.emod_lt_of_pos a (b:=2305843009213693951) (by decide)
  walk_at "o")
 have d1:(0:Int)<1000000000000000009:=by decide
 have d2:(0:Int)<2305843009213693951:=by decide
 have d3:(0:Int)<2305843009213693921:=by decide
 have d4:dOk 8:=v3 (by decide) (by decide)
 refine⟨?_,?_⟩
 rotate_left
 ·repeat(first|walk_at "z r" | simp only[p0,p1,p2,p3,d1,d2,d3,d4])
  rfl
def poolD (p:Int):D:=.lst [.int p]
abbrev L6:Stmt:=top 24
theorem T3:FnScope ["cell","great","k"] ["cell"] (defScope L6):=by walk_at "c"
def Y4 (g:LO):Prop:=∀c:Int,∃m:Int,g [.int c]=some (.o (poolD m))
theorem a2a {J6:LO}(K2:Fn P w K mg base "_law_mixed" k J6)(F8:V1 J6)(k7:mg "range"=none)(F:Fun K "_law_deal" "_law_deal" L6 f fd)(B:Binds K fd ["cell"] [])(hm:mg "_law_deal"=some (.ref f)):∃g,Fn P w K mg base "_law_deal" (k+1) g/\Y4 g:=by
 have nd:=T3.nd
 refine⟨_,w6 F T3 B hm rfl rfl (fun cdv A outer s H E hr=>(c5 (K4 (qt_ge (a7 0) (W7 a9 a9)) (c6 (j8 (w4 (a8 (w5 (a7 0) (W7 a9 a9)) b9)))) v5)
  (c5 (j6 1 nd a9)
  (c5 (E1 qP rfl (a3m k7 (a8 a9 b9)) (c8 2 nd) (c6 (j6 1 nd (q9 (a0N (a7 1) a9) (a0F (k5 K2 hr (a8 (a7 0) (a8 (a7 2) b9))) a9)))))
  (c6 (j8 (w4 (a8 (a7 1) b9)))))))),?_⟩
 intro c;have p1:∀a:Int,mOk a 1152921504606846976:=fun a=>.inr (.inl (by decide))
 have d1:(0:Int)<1152921504606846976:=by decide
 have pw:CPow 10 18:=by decide
 unfold poolD
 by_cases h:(10:Int)^(18:Int).toNat<=c
 ·have h':decide ((10:Int)^(18:Int).toNat<=c)=true:=zL h;refine⟨?_,?_⟩
  rotate_left
  ·repeat(first|walk_at "z r" | simp only[pw,h'])
   rfl
 ·have h':decide ((10:Int)^(18:Int).toNat<=c)=false:=zO h;have r40:(-(2^62:Int)<=40/\(40:Int)<2^62):=by decide
  repeat(first|walk_at "z r" | simp only[pw,h',r40])
  generalize el:loopF _ _ _=r;refine N5 el (fun _ ρ=>∃(m:Int) (o:Option D),ρ=[some (.v (.int c)),some (.v (.int m)),o.map .v]) ⟨0,none,rfl⟩ ?_ ?_
  ·rintro d x _ hx _ ⟨m,o,rfl⟩;obtain⟨i,rfl,h1,h2⟩:=a0e hx;obtain⟨j,ej⟩:=F8 c i (by walk_at "o") (by walk_at "o")
   refine⟨_,?_,m*1152921504606846976+j%1152921504606846976,some (.int i),rfl⟩
   repeat(first|walk_at "z r" | simp only[ej,p1,d1])
  ·rintro _ rfl ⟨m,o,rfl⟩;refine⟨m,?_⟩;walk_at "q"
abbrev M2:Stmt:=top 25
theorem T0:FnScope ["left","many","digit"] ["left","many"] (defScope M2):=by walk_at "c"
def D0 (g:LL):Prop:=∀m n:Int,dOk n->∃i m':Int,(0<=i/\i<n)/\g (poolD m) [.int n]=some (.v (.int i),poolD m')
theorem a2d (a0o:mg "divmod"=none)(F:Fun K "_law_next" "_law_next" M2 f fd)(B:Binds K fd ["left","many"] [])(hm:mg "_law_next"=some (.ref f)):∃g,FnL P w K mg base "_law_next" (k+1) g/\D0 g:=by
 have nd:=T0.nd
 refine⟨_,a3F F T0 B hm rfl rfl (fun cdv A outer s H E hr=>(c5 (a6H (a5D a0o (a8 (j0 hr (a7 0) a9) (a8 (a7 1) b9))) (W3 rfl (m7 (b1N (a7 0) a9) (m7 (c8 2 nd) N2))))
  (c6 (j8 (a7 2))))),?_⟩
 intro m n hn;have dm:=r_dm (m:=m) hn;have i10:ixN 1 0=some 0:=rfl;unfold poolD;refine⟨m%n,m/n,⟨Int.emod_nonneg _ (by have:=hn.1;walk_at "o"),Int.emod_lt_of_pos _ hn.1⟩,?_⟩
 repeat(first|walk_at "z r" | simp only[dm,i10])
abbrev R3:Stmt:=top 26
theorem Y6:FnScope ["left","a","b","kind","base"] ["left","a","b","kind"] (defScope R3):=by walk_at "c"
def a0j (g:LL):Prop:=∀m a b c:Int,0<=c->c<5->∃t m':Int,(1<=t/\t<=10^12)/\g (poolD m) [.int a,.int b,.int c]=some (.v (tieD (a,b,t)),poolD m')
theorem a2O {m6:LL}(g9:FnL P w K mg base "_law_next" k m6)(c9:D0 m6)(F:Fun K "_law_tie" "_law_tie" R3 f fd)(B:Binds K fd ["left","a","b","kind"] [])(hm:mg "_law_tie"=some (.ref f)):∃g,FnL P w K mg base "_law_tie" (k+1) g/\a0j g:=by
 have nd:=Y6.nd
 refine⟨_,a3F F Y6 B hm rfl rfl (fun cdv A outer s H E hr=>(c5 (j6 4 nd (j0 hr (w4 (a8 a9 (a8 a9 (a8 (w5 (W7 a9 a9) a9) (a8 a9 (a8 a9 b9)))))) (a7 3)))
  (c6 (j8 (u7 (a8 (a7 1) (a8 (a7 2) (a8 (q9 (a7 4) (z3 g9 hr (a8 (a7 0) (a8 (j0 hr (w4 (a8 a9 (a8 a9 (a8 a9 (a8 a9 (a8 (W7 a9 a9) b9)))))) (a7 3)) b9)))) b9)))))))),?_⟩
 intro m a b c h0 h5;have pw:CPow 10 12:=by decide
 have lp:∀q,lfC (poolD q)=true:=fun q=>rfl;have hc:c=0\/c=1\/c=2\/c=3\/c=4:=by walk_at "o"
 have pz:(10:Int)^(12:Int).toNat=10^12:=rfl;obtain⟨i0,n0,k0,e0⟩:=c9 m 1 (v3 (by decide) (by decide))
 obtain⟨i1,n1,k1,e1⟩:=c9 m 4 (v3 (by decide) (by decide))
 obtain⟨i2,n2,k2,e2⟩:=c9 m 3 (v3 (by decide) (by decide))
 obtain⟨i4,n4,k4,e4⟩:=c9 m ((10:Int)^(12:Int).toNat) (v3 (by decide) (by decide))
 rw[pz] at k4;rcases hc with rfl|rfl|rfl|rfl|rfl
 ·refine⟨7+i0,n0,by walk_at "o",?_⟩
  repeat(first|walk_at "z r" | simp only[pw,e0,lp])
  rfl
 ·refine⟨1+i1,n1,by walk_at "o",?_⟩
  repeat(first|walk_at "z r" | simp only[pw,e1,lp])
  rfl
 ·refine⟨(10:Int)^(12:Int).toNat-2+i2,n2,by rw[pz];walk_at "o",?_⟩
  repeat(first|walk_at "z r" | simp only[pw,e2,lp])
  rfl
 ·refine⟨100+i2,n2,by walk_at "o",?_⟩
  repeat(first|walk_at "z r" | simp only[pw,e2,lp])
  rfl
 ·refine⟨1+i4,n4,by walk_at "o",?_⟩
  repeat(first|walk_at "z r" | simp only[pw,e4,lp])
  rfl
theorem O0:∀{n:Nat} {l:List Nat},l.Nodup->(∀x∈l,x<n)->l.length<=n
 | 0,l,_,h=>by
  cases l with
  | nil=>exact zF _
  | cons x l=>exact absurd (h x zG) (Nat.not_lt_zero x)
 | n+1,l,nd,h=>by
  have h2:=O0 (n:=n) (l:=l.erase n) (nd.erase n) fun x hx=>by
   have z:=(List.Nodup.mem_erase_iff nd).mp hx
   have:=h x z.2
   have:=z.1
   walk_at "o"
  rw[List.length_erase] at h2;split at h2<;>walk_at "o"
structure Tz (n:Int) (a b:Int) (ts:List Tie):Prop where
 t:∀t∈ts,0<=t.1/\t.1<t.2.1/\t.2.1<n/\1<=t.2.2/\t.2.2<=10^12/\(t.1<a\/t.1=a/\t.2.1<b)
 nd:(ts.map fun t=>(t.1,t.2.1)).Nodup
theorem Tz.next {n a b b':Int}{ts:List Tie}(h:Tz n a b ts)(hb:b<=b'):Tz n a b' ts:=⟨fun t ht=>by have:=h.t t ht;walk_at "o",h.nd⟩
theorem Tz.row {n a b b':Int}{ts:List Tie}(h:Tz n a b ts):Tz n (a+1) b' ts:=⟨fun t ht=>by have:=h.t t ht;walk_at "o",h.nd⟩
theorem Tz.put {n a b g:Int}{ts:List Tie}(h:Tz n a b ts)(ha:0<=a)(hab:a<b)(hb:b<n)(hg:1<=g/\g<=10^12):Tz n a (b+1) (ts++[(a,b,g)]):=by
 refine⟨fun t ht=>?_,?_⟩
 ·rcases jA.mp ht with z|z
  ·have:=h.t t z;walk_at "o"
  ·rw[zN.mp z];show 0<=a/\a<b/\b<n/\1<=g/\g<=10^12/\(a<a\/a=a/\b<b+1);walk_at "o"
 ·rw[jQ,xN];refine⟨h.nd,by simp,fun x hx y hy e=>?_⟩
  subst e;obtain⟨t,ht,e⟩:=zE.mp hx;have hy:x=(a,b):=by simpa using hy
  rw[hy] at e;injection e with e1 e2
  have:=h.t t ht
  walk_at "o"
theorem Tz.web {n a b:Int}{ts:List Tie}(h:Tz n a b ts)(hn:1<=n/\n<=8):WebOk n ts:=by
 refine⟨hn,fun t ht=>by have:=h.t t ht;walk_at "o",h.nd,?_⟩
 have nd:(ts.map fun t=>t.1.toNat*7+(t.2.1-1).toNat).Nodup:=by
  refine jB.mpr ?_;refine xP ?_ (jB.mp h.nd);intro a b ha hb hab e
  have:=h.t a ha
  have:=h.t b hb
  exact hab (by rw[show a.1=b.1 by walk_at "o",show a.2.1=b.2.1 by walk_at "o"])
 have:=O0 (n:=49) nd fun x hx=>by
  obtain⟨t,ht,rfl⟩:=zE.mp hx
  have:=h.t t ht
  walk_at "o"
 rw[zC] at this;walk_at "o"
theorem six8 {i:Int}(h0:0<=i)(h4:i<4):∃s:Int,(s=6\/s=8)/\atI [D.int 6,.int 6,.int 6,.int 8] i=some (.int s):=by
 have hc:i=0\/i=1\/i=2\/i=3:=by walk_at "o"
 rcases hc with rfl|rfl|rfl|rfl
 ·exact⟨6,.inl rfl,a_0⟩
 ·exact⟨6,.inl rfl,a_1⟩
 ·exact⟨6,.inl rfl,a_2⟩
 ·exact⟨8,.inr rfl,a_3⟩
abbrev P9:Stmt:=top 27
theorem Y3:FnScope ["left","many","kind","rare","ties","a","b"] ["left"] (defScope P9):=by walk_at "c"
def a0I (g:LL):Prop:=∀p:Int,∃(n q:Int) (ts:List Tie),WebOk n ts/\g (poolD p) []=some (.v (webD n ts),poolD q)
theorem a3i {m6:LL}{Q3:LL}(g9:FnL P w K mg base "_law_next" k m6)(c9:D0 m6)(R0:FnL P w K mg base "_law_tie" k Q3)(R5:a0j Q3)(k7:mg "range"=none)(v7:mg "tuple"=none)(F:Fun K "_law_web" "_law_web" P9 f fd)(B:Binds K fd ["left"] [])(hm:mg "_law_web"=some (.ref f)):∃g,FnL P w K mg base "_law_web" (k+1) g/\a0I g:=by
 have nd:=Y3.nd
 refine⟨_,a3F F Y3 B hm rfl rfl (fun cdv A outer s H E hr=>(c5 (j6 1 nd (q9 a9 (z3 g9 hr (a8 (a7 0) (a8 (j0 hr (w4 (a8 a9 (a8 a9 (a8 a9 (a8 a9 b9))))) (z3 g9 hr (a8 (a7 0) (a8 a9 b9)))) b9)))))
  (c5 (j6 2 nd (z3 g9 hr (a8 (a7 0) (a8 a9 b9))))
  (c5 (j6 3 nd (q9 a9 (z3 g9 hr (a8 (a7 0) (a8 a9 b9)))))
  (c5 (j6 4 nd (w4 b9))
  (c5 (E1 qP rfl (a3m k7 (a8 (a7 1) b9)) (c8 5 nd) (c6 (E1 qP rfl (a9M k7 (a8 (q9 (a7 5) a9) (a8 (a7 1) b9))) (c8 6 nd) (c6 (K4 (a0s hr (z3 g9 hr (a8 (a7 0) (a8 (a7 3) b9))) a9) (c6 (J4 (V9 (a7 4) (a8 (z3 R0 hr (a8 (a7 0) (a8 (a7 5) (a8 (a7 6) (a8 (a7 2) b9))))) b9)))) v5)))))
  (c6 (j8 (u7 (a8 (a7 1) (a8 (qx_t A5 V3 v7 (a8 (a7 4) b9)) b9))))))))))),?_⟩
 intro p;have d4:dOk 4:=v3 (by decide) (by decide)
 have d5:dOk 5:=v3 (by decide) (by decide)
 obtain⟨i0,p0,h0,e0⟩:=c9 p 4 d4;obtain⟨s,hs,ea⟩:=six8 h0.1 h0.2;obtain⟨i1,p1,h1,e1⟩:=c9 p0 s (v3 (by walk_at "o") (by walk_at "o"))
 obtain⟨i2,p2,h2,e2⟩:=c9 p1 5 d5;obtain⟨i3,p3,h3,e3⟩:=c9 p2 4 d4;have lp:∀q,lfC (poolD q)=true:=fun q=>rfl;obtain⟨n,en,hn⟩:∃n:Int,1+i1=n/\1<=n/\n<=8:=⟨_,rfl,by walk_at "o",by walk_at "o"⟩
 obtain⟨ra,er,hra⟩:∃ra:Int,1+i3=ra/\1<=ra/\ra<=4:=⟨_,rfl,by walk_at "o",by walk_at "o"⟩
 have r1:(-(2^62:Int)<=n/\n<2^62):=by walk_at "o"
 repeat(first|walk_at "z r" | simp only[e0,lp,ea,e1,e2,e3,en,er,r1])
 generalize el:loopF _ _ _=r;refine U1 el (fun i ρ=>∃(p:Int) (ts:List Tie) (o8 o9:Option D),ρ=[some (.l (poolD p)),some (.v (.int n)),some (.v (.int i2)),some (.v (.int ra)),some (.o (.lst (ts.map tieD))),o8.map .v,o9.map .v]/\Tz n (i:Int) 0 ts) ⟨p3,[],none,none,rfl,⟨(fun _ h=>by cases h),nodup_nil⟩⟩ ?_ ?_
 ·rintro i x _ hx ⟨p,ts,o8,o9,rfl,ht⟩;obtain⟨rfl,hi⟩:=a2b hx;rw[Int.zero_add];have r2:((-(2^62:Int)<=(i:Int)+1/\(i:Int)+1<2^62)/\-(2^62:Int)<=n/\n<2^62):=by walk_at "o"
  repeat(first|walk_at "z i" | simp only[r2])
  generalize el2:loopF _ _ _=r2;refine U1 el2 (fun j ρ=>∃(p:Int) (ts:List Tie) (o9:Option D),ρ=[some (.l (poolD p)),some (.v (.int n)),some (.v (.int i2)),some (.v (.int ra)),some (.o (.lst (ts.map tieD))),some (.v (.int (i:Int))),o9.map .v]/\Tz n (i:Int) ((i:Int)+1+(j:Int)) ts) ⟨p,ts,o9,rfl,ht.next (by walk_at "o")⟩ ?_ ?_
  ·rintro j x _ hx ⟨p,ts,o9,rfl,ht⟩;obtain⟨rfl,hj⟩:=a2b hx;obtain⟨B,eB,hB⟩:∃B:Int,(i:Int)+1+(j:Int)=B/\(i:Int)<B/\B<n:=⟨_,rfl,by walk_at "o",by walk_at "o"⟩
   have eB':(i:Int)+1+((j+1:Nat):Int)=B+1:=by walk_at "o"
   rw[eB] at ht ⊢;rw[eB'];obtain⟨w,q0,hw,ew⟩:=c9 p ra (v3 (by walk_at "o") (by walk_at "o"))
   by_cases hz:w=0
   ·subst hz;obtain⟨gn,q1,hg,et⟩:=R5 q0 (i:Int) B i2 h2.1 h2.2;have hlen:ts.length<1000000:=by have:=(ht.web hn).len;walk_at "o"
    have z00:((0:Int)==0)=true:=rfl;have lt:lf (tieD ((i:Int),B,gn))=true:=rfl;refine⟨_,?_,q1,ts++[((i:Int),B,gn)],some (.int B),rfl,ht.put (by walk_at "o") hB.1 hB.2 hg⟩
    rw[jQ]
    repeat(first|walk_at "z r" | simp only[ew,lp,z00,et,lt,zC,hlen])
    try rfl
   ·have hz':(w==0)=false:=by simpa using hz
    refine⟨_,?_,q0,ts,some (.int B),rfl,ht.next (by walk_at "o")⟩
    repeat(first|walk_at "z r" | simp only[ew,lp,hz'])
  ·rintro _ rfl ⟨p,ts,o9,rfl,ht⟩;refine⟨_,rfl,p,ts,some (.int (i:Int)),o9,rfl,?_⟩;rw[show((i+1:Nat):Int)=(i:Int)+1 by walk_at "o"]
   exact ht.row
 ·rintro _ rfl ⟨p,ts,o8,o9,rfl,ht⟩;have lt:lfL (ts.map tieD)=true:=t4 fun x hx=>by obtain⟨t,_,rfl⟩:=zE.mp hx;rfl
  refine⟨n,p,ts,ht.web hn,?_⟩;unfold webD
  repeat(first|walk_at "z r" | simp only[lt,lp])
theorem a7s {ks:List (List Int)}{x:D}(h:x∈ks.map tupI):∃k∈ks,x=tupI k:=by obtain⟨k,hk,rfl⟩:=zE.mp h;exact⟨k,hk,rfl⟩
abbrev M8:Stmt:=top 7
theorem U0:FnScope ["people","thing"] ["people","thing"] (defScope M8):=by walk_at "c"
def Y1 (g:LO):Prop:=∀n i:Int,0<=i->i<n->g [.int n,.int i]=some (.v (.bl true))
theorem a17 {P7:LO}(P1:Fn P w K mg base "is_whole" k P7)(P0:a0H P7)(F:Fun K "is_person" "is_person" M8 f fd)(B:Binds K fd ["people","thing"] [])(hm:mg "is_person"=some (.ref f)):∃g,Fn P w K mg base "is_person" (k+1) g/\Y1 g:=by
 have nd:=U0.nd;refine⟨_,w6 F U0 B hm rfl rfl (fun cdv A outer s H E hr=>(c6 (j8 (a3E (k5 P1 hr (a8 (a7 1) b9)) (a3S (a9b a9 (a7 1) (a7 0))))))),?_⟩;intro n i h0 h1;have w:=P0 (.int i) rfl;have ww:whole (.int i)=true:=rfl;have h':decide (0<=i)=true:=zL h0;have h'':decide (i<n)=true:=zL h1
 repeat(first|walk_at "z r" | simp only[w,ww,h',h''])
abbrev A3:Stmt:=top 18
theorem D4:FnScope ["web","thing"] ["web","thing"] (defScope A3):=by walk_at "c"
def E3 (g:LO):Prop:=∀(n:Int) (ts:List Tie) (i:Int),0<=i->i<n->g [webD n ts,.int i]=some (.v .non)
theorem T8 {M9:LO}(M6:Fn P w K mg base "is_person" k M9)(M1:Y1 M9)(F:Fun K "must_be_person" "must_be_person" A3 f fd)(B:Binds K fd ["web","thing"] [])(hm:mg "must_be_person"=some (.ref f)):∃g,Fn P w K mg base "must_be_person" (k+1) g/\E3 g:=by
 have nd:=D4.nd;refine⟨_,w6 F D4 B hm rfl rfl (fun cdv A outer s H E hr=>(c6 (K4 (a2B (a0E (k5 M6 hr (a8 (j0 hr (a7 0) a9) (a8 (a7 1) b9))))) (c6 a3k) v5))),?_⟩;intro n ts i h0 h1;have e:=M1 n i h0 h1;have ix0:oIxG (webD n ts) (.int 0)=some (.v (.int n)):=rfl
 repeat(first|walk_at "z r" | simp only[e,ix0])
abbrev a0R:Stmt:=top 19
theorem a1E:FnScope ["web","one","other"] ["web","one","other"] (defScope a0R):=by walk_at "c"
def a2S (g:LO):Prop:=∀(n:Int) (ts:List Tie) (a b lo hi:Int),0<=lo->lo<hi->hi<n->(a=lo/\b=hi)\/(a=hi/\b=lo)->g [webD n ts,.int a,.int b]=some (.v (.tup [.int lo,.int hi]))
theorem a5U {z7:LO}(t9:Fn P w K mg base "must_be_person" k z7)(u4:E3 z7)(m_min:mg "min"=none)(m_max:mg "max"=none)(F:Fun K "two_of" "two_of" a0R f fd)(B:Binds K fd ["web","one","other"] [])(hm:mg "two_of"=some (.ref f)):∃g,Fn P w K mg base "two_of" (k+1) g/\a2S g:=by
 have nd:=a1E.nd
 refine⟨_,w6 F a1E B hm rfl rfl (fun cdv A outer s H E hr=>(c5 (J4 (k5 t9 hr (a8 (a7 0) (a8 (a7 1) b9))))
  (c5 (J4 (k5 t9 hr (a8 (a7 0) (a8 (a7 2) b9))))
  (c5 (K4 (a0s hr (a7 1) (a7 2)) (c6 a3k) v5)
  (c6 (j8 (u7 (a8 (qx_b (a5S rfl) b1B m_min (a8 (a7 1) (a8 (a7 2) b9))) (a8 (qx_b (a1p rfl) a7f m_max (a8 (a7 1) (a8 (a7 2) b9))) b9))))))))),?_⟩
 intro n ts a b lo hi h0 h1 h2 h;have e1:=u4 n ts a (by walk_at "o") (by walk_at "o")
 have e2:=u4 n ts b (by walk_at "o") (by walk_at "o")
 have lw:=D6 n ts;have ne:(a==b)=false:=by simp;walk_at "o"
 have m1:(if b<a then b else a)=lo:=by split<;>walk_at "o"
 have m2:(if b>a then b else a)=hi:=by split<;>walk_at "o"
 repeat(first|walk_at "z r" | simp only[e1,e2,lw,ne,m1,m2])
def keyNe (k:List Int):D->Bool
 | .tup [.int a,.int b,.int _]=>!decide ([a,b]=k)
 | _=>false
def bareT (k:List Int) (ts:List Tie):List Tie:=ts.filter fun t=>!decide ([t.1,t.2.1]=k)
theorem a1J (k:List Int)(ts:List Tie):((ts.map tieD).filter (keyNe k)).map id=(bareT k ts).map tieD:=by
 rw[map_id,filter_map];rfl
theorem a6j (ks:List Tie):∃T:List Tie,T.Perm ks/\(sortK (ks.map fun t=>[t.1,t.2.1,t.2.2])).map tupI=T.map tieD:=by
 have p:=g5 (ks.map fun t=>[t.1,t.2.1,t.2.2]);refine⟨(sortK (ks.map fun t=>[t.1,t.2.1,t.2.2])).map fun k=>(k.getD 0 0,k.getD 1 0,k.getD 2 0),?_,?_⟩
 ·have:=p.map fun k:List Int=>((k.getD 0 0,k.getD 1 0,k.getD 2 0):Tie)
  rw[qS] at this;refine this.trans ?_;rw[show((fun k:List Int=>((k.getD 0 0,k.getD 1 0,k.getD 2 0):Tie))∘fun t:Tie=>[t.1,t.2.1,t.2.2])=id from rfl,map_id]
 ·rw[qS];refine jG fun k hk=>?_;obtain⟨t,_,rfl⟩:=zE.mp (p.mem_iff.mp hk);rfl
theorem a0O {ks:List Tie}(h:ks.length<64):∃T:List Tie,T.Perm ks/\gSort (.lst (ks.map tieD))=some (.o (.lst (T.map tieD))):=by
 obtain⟨T,pT,eT⟩:=a6j ks;refine⟨T,pT,?_⟩
 have:=Z1 (ks:=ks.map fun t:Tie=>[t.1,t.2.1,t.2.2]) (by rw[zC];exact h) fun k hk=>by obtain⟨t,_,rfl⟩:=zE.mp hk;exact List.cons_ne_nil _ _
 rw[eT,qS] at this;exact this
theorem F7 {ts:List Tie}{x:D}(h:x∈ts.map tieD):∃t∈ts,x= .tup [.int t.1,.int t.2.1,.int t.2.2]:=by obtain⟨k,hk,rfl⟩:=zE.mp h;exact⟨k,hk,rfl⟩
abbrev Q1:Stmt:=top 20
theorem Y5:FnScope ["web","one","other","gain","two","ties"] ["web","one","other","gain"] (defScope Q1):=by walk_at "c"
def R1 (g:LO):Prop:=∀(n:Int) (ts:List Tie) (a b lo hi gn:Int),WebOk n ts->0<=lo->lo<hi->hi<n->(a=lo/\b=hi)\/(a=hi/\b=lo)->∃T:List Tie,T.Perm (bareT [lo,hi] ts++if 0<gn then[(lo,hi,gn)] else[])/\g [webD n ts,.int a,.int b,.int gn]=some (.v (webD n T))
theorem a3h {a0V:LO}(a0U:Fn P w K mg base "two_of" k a0V)(a0Z:a2S a0V)(v7:mg "tuple"=none)(E7:mg "sorted"=none)(F:Fun K "put_gain" "put_gain" Q1 f fd)(B:Binds K fd ["web","one","other","gain"] [])(hm:mg "put_gain"=some (.ref f)):∃g,Fn P w K mg base "put_gain" (k+1) g/\R1 g:=by
 have nd:=Y5.nd
 refine⟨_,w6 F Y5 B hm rfl rfl (fun cdv A outer s H E hr=>(c5 (j6 4 nd (k5 a0U hr (a8 (a7 0) (a8 (a7 1) (a8 (a7 2) b9)))))
  (c5 (K0 5 nd (B8 (N:=["tie","two"]) (js:=[none,some 4]) (li:=none) rfl (u6 (by exact(.own (.cap rfl rfl rfl rfl .nil))) rfl (by exact⟨rfl,trivial⟩) (by rfl)) (G2 (C2 (j0 hr (a7 0) a9))) (fun _ _ _ _=>(c8 0 (show((["tie","two"]:List Str)++[accN]).Nodup by decide +kernel))) (fun _ _ _ _=>(G7 rfl (a4W hr (U2 (a7 0) a0b (Z7 a9)) (a7 1)))) (fun _ _ _ _=>(a7 0))))
  (c5 (K4 (a95 (a7 3) a9) (c6 (J4 (V9 (a7 5) (a8 (a4h (a7 4) (u7 (a8 (a7 3) b9))) b9)))) v5)
  (c6 (j8 (u7 (a8 (j0 hr (a7 0) a9) (a8 (qx_t A5 V3 v7 (a8 (a1a hr rfl E7 (a8 (a7 5) b9)) b9)) b9))))))))),?_⟩
 intro n ts a b lo hi gn hw h0 h1 h2 h;have hlen:=hw.len;have e1:=a0Z n ts a b lo hi h0 h1 h2 h;have km:=a1J [lo,hi] ts;have bl:(bareT [lo,hi] ts).length<=55:=zP (jK _ _) hlen;have lb:=C8 (bareT [lo,hi] ts);have lw:=D6 n ts;have ix0:oIxG (webD n ts) (.int 0)=some (.v (.int n)):=rfl;have ix1:oIxG (webD n ts) (.int 1)=some (.v (.tup (ts.map tieD))):=rfl;have lk:lf (.tup [.int lo,.int hi])=true:=rfl
 by_cases hg:0<gn
 ·have dg:decide (gn>0)=true:=zL hg;have dg':decide (0<gn)=true:=zL hg;obtain⟨T,pT,eT⟩:=a0O (ks:=bareT [lo,hi] ts++[(lo,hi,gn)]) (by rw[qB,xM];walk_at "o")
  rw[jQ] at eT;have eT:gSort (.lst ((bareT [lo,hi] ts).map tieD++[.tup [.int lo,.int hi,.int gn]]))=some (.o (.lst (T.map tieD))):=eT;have lT:=C8 T;have hl1:((bareT [lo,hi] ts).map tieD).length<1000000:=by rw[zC];walk_at "o"
  have lt2:lfL ((bareT [lo,hi] ts).map tieD++[D.tup [.int lo,.int hi,.int gn]])=true:=by
   have:=C8 (bareT [lo,hi] ts++[(lo,hi,gn)])
   rw[jQ] at this;exact this
  refine⟨T,by rw[if_pos hg];exact pT,?_⟩
  repeat(first|walk_at "z r" | simp only[e1,lw,ix1,lk])
  rw[l5 (ρ1:=[some (.v (webD n ts)),some (.v (.int a)),some (.v (.int b)),some (.v (.int gn)),some (.v (.tup [.int lo,.int hi])),none]) (xs:=ts.map tieD) (fun B=>∃o1:Option D,B=[o1.map .v,some (.v (.tup [.int lo,.int hi]))]) (keyNe [lo,hi]) id]
  ·rw[km]
   repeat(first|walk_at "z r" | simp only[dg,dg',ix0,lb,hl1,eT,lT,lt2])
   rfl
  ·repeat(first|walk_at "z r" | simp only[ix1])
  ·rintro _ ⟨_,rfl⟩;rfl
  ·exact⟨none,rfl⟩
  ·rw[zC];unfold lim;walk_at "o"
  ·rw[km];exact lb
  ·rintro x hx _ zs ⟨o1,rfl⟩;obtain⟨t,ht,rfl⟩:=F7 hx;have dk:deqL (deq 19) [D.int t.1,.int t.2.1] [.int lo,.int hi]=some (decide ([t.1,t.2.1]=[lo,hi])):=E9 [t.1,t.2.1] [lo,hi];refine⟨[some (.v (.tup [.int t.1,.int t.2.1,.int t.2.2])),some (.v (.tup [.int lo,.int hi]))],.v (.tup [.int t.1,.int t.2.1,.int t.2.2]),⟨some _,rfl⟩,?_,?_,fun _=>⟨?_,.inl rfl⟩⟩
   ·walk_at "q"
   ·rw[show keyNe [lo,hi] (.tup [.int t.1,.int t.2.1,.int t.2.2])= !decide ([t.1,t.2.1]=[lo,hi]) from rfl]
    repeat(first|walk_at "z r" | simp only[a2k,dk])
   ·walk_at "q"
 ·have dg:decide (gn>0)=false:=zO hg;have dg':decide (0<gn)=false:=zO hg;obtain⟨T,pT,eT⟩:=a0O (ks:=bareT [lo,hi] ts) (by walk_at "o")
  have lT:=C8 T;refine⟨T,by rw[if_neg hg,jP];exact pT,?_⟩
  repeat(first|walk_at "z r" | simp only[e1,lw,ix1,lk])
  rw[l5 (ρ1:=[some (.v (webD n ts)),some (.v (.int a)),some (.v (.int b)),some (.v (.int gn)),some (.v (.tup [.int lo,.int hi])),none]) (xs:=ts.map tieD) (fun B=>∃o1:Option D,B=[o1.map .v,some (.v (.tup [.int lo,.int hi]))]) (keyNe [lo,hi]) id]
  ·rw[km]
   repeat(first|walk_at "z r" | simp only[dg,dg',ix0,lb,eT,lT])
   rfl
  ·repeat(first|walk_at "z r" | simp only[ix1])
  ·rintro _ ⟨_,rfl⟩;rfl
  ·exact⟨none,rfl⟩
  ·rw[zC];unfold lim;walk_at "o"
  ·rw[km];exact lb
  ·rintro x hx _ zs ⟨o1,rfl⟩;obtain⟨t,ht,rfl⟩:=F7 hx;have dk:deqL (deq 19) [D.int t.1,.int t.2.1] [.int lo,.int hi]=some (decide ([t.1,t.2.1]=[lo,hi])):=E9 [t.1,t.2.1] [lo,hi];refine⟨[some (.v (.tup [.int t.1,.int t.2.1,.int t.2.2])),some (.v (.tup [.int lo,.int hi]))],.v (.tup [.int t.1,.int t.2.1,.int t.2.2]),⟨some _,rfl⟩,?_,?_,fun _=>⟨?_,.inl rfl⟩⟩
   ·walk_at "q"
   ·rw[show keyNe [lo,hi] (.tup [.int t.1,.int t.2.1,.int t.2.2])= !decide ([t.1,t.2.1]=[lo,hi]) from rfl]
    repeat(first|walk_at "z r" | simp only[a2k,dk])
   ·walk_at "q"
def firstLast (p:Int) (ps:List Int) (k:List Int):Bool:=k.getD 0 0==p&&decide (k.getD (k.length-1) 0∈ps)
def pAm (ch:List (List Int)):Nat->List Int->List (List (List Int))
 | 0,_=>[]
 | _+1,[]=>[[]]
 | m+1,p::ps=>(ch.filter (firstLast p (p::ps))).flatMap fun k=>(pAm ch m ((p::ps).filter fun x=>decide (x∉k))).map fun r=>k::r
structure ChOk (ch:List (List Int)):Prop where
 two:∀k∈ch,(∃a,k=[a])\/∃a c,k=[a,c]/\a<c
 nd:ch.Nodup
 len:ch.length<=63
def fac:Nat->Nat
 | 0=>1
 | n+1=>(n+1)*fac n
theorem T9:∀{a b:Nat},a<=b->fac a<=fac b:=fun{a b} h=>by
 induction h with
 | refl=>exact zF _
 | step _ ih=>exact zP ih (Nat.le_mul_of_pos_left _ (Nat.succ_pos _))
theorem a8s {α:Type} [DecidableEq α] {l m:List α}(nd:l.Nodup)(h:∀x∈l,x∈m):l.length<=m.length:=by
 induction l generalizing m with
 | nil=>exact jR _
 | cons x l ih=>
  obtain⟨n1,n2⟩:=xK.mp nd;have hx:=h x zG
  have:=ih (m:=m.erase x) n2 fun y hy=>(List.mem_erase_of_ne fun e=>n1 (by rw[<-e];exact hy)).mpr (h y (zJ _ hy))
  rw[List.length_erase_of_mem hx] at this
  have:=List.length_pos_of_mem hx
  rw[qC];walk_at "o"
theorem b1q {ch:List (List Int)}(h:ChOk ch)(p:Int)(ps:List Int):(ch.filter (firstLast p ps)).length<=ps.length:=by
 have nd:((ch.filter (firstLast p ps)).map fun k=>k.getD (k.length-1) 0).Nodup:=by
  have n1:=h.nd.sublist (xC (p:=firstLast p ps));unfold List.Nodup at *;rw[jB];refine xP ?_ n1;intro a b ha hb hne e;obtain⟨a1,a2⟩:=zM.mp ha;obtain⟨b1,b2⟩:=zM.mp hb;unfold firstLast at a2 b2;rw[qF,yB] at a2 b2;rcases h.two a a1 with ⟨x,rfl⟩|⟨x,y,rfl,hxy⟩<;>rcases h.two b b1 with ⟨u,rfl⟩|⟨u,v,rfl,huv⟩<;>simp at a2 b2 e hne<;>walk_at "o"
 have:=a8s nd fun x hx=>by
  obtain⟨k,hk,rfl⟩:=zE.mp hx
  have:=(zM.mp hk).2
  unfold firstLast at this;rw[qF] at this;exact qM this.2
 rwa [zC] at this
theorem a0f {ch:List (List Int)}(h:ChOk ch):∀(m:Nat) (ps:List Int),(pAm ch m ps).length<=fac ps.length
 | 0,ps=>jR _
 | m+1,[]=>zF 1
 | m+1,p::ps=>by
  rw[pAm];have b:∀k∈ch.filter (firstLast p (p::ps)),((pAm ch m ((p::ps).filter fun x=>decide (x∉k))).map fun r=>k::r).length<=fac ps.length:=fun k hk=>by
   rw[zC];refine zP (a0f h m _) (T9 ?_)
   have:=(zM.mp hk).2
   unfold firstLast at this;rw[qF,yB] at this;have hp:p∈k:=by
    rcases h.two k (zM.mp hk).1 with ⟨x,rfl⟩|⟨x,y,rfl,_⟩
    ·rw[<-this.1];simp
    ·rw[<-this.1];simp
   rw[yE,if_neg (by simp[hp])]
   exact jK _ _
  have key:∀l:List (List Int),(∀k∈l,((pAm ch m ((p::ps).filter fun x=>decide (x∉k))).map fun r=>k::r).length<=fac ps.length)->(l.flatMap fun k=>(pAm ch m ((p::ps).filter fun x=>decide (x∉k))).map fun r=>k::r).length<=l.length*fac ps.length:=fun l=>by
   induction l with
   | nil=>intro _;exact jR _
   | cons k l ih=>
    intro hl;have h1:=hl k zG;have h2:=ih fun y hy=>hl y (zJ _ hy);rw[List.flatMap_cons,qB,qC,Nat.succ_mul];walk_at "o"
  refine zP (key _ b) ?_;show _<=(ps.length+1)*fac ps.length;exact Nat.mul_le_mul_right _ (b1q h p (p::ps))
def pairD (p:List (List Int)):D:=.tup (p.map tupI)
def hasNot (k:List Int):D->Bool
 | .int x=>decide (x∉k)
 | _=>false
def consD (d:D):D->D
 | .tup xs=>.tup (d::xs)
 | e=>e
theorem a3Q (k ps:List Int):((ps.map D.int).filter (hasNot k)).map id=(ps.filter fun x=>decide (x∉k)).map .int:=by
 rw[map_id,filter_map];rfl
theorem a50 (k:List Int)(rs:List (List (List Int))):((rs.map pairD).filter fun _=>true).map (consD (tupI k))=(rs.map fun r=>k::r).map pairD:=by
 rw[q8,qS,qS];exact jG fun r _=>rfl
theorem B9 (rs:List (List (List Int))):lfL (rs.map pairD)=true:=t4 fun x hx=>by obtain⟨r,_,rfl⟩:=zE.mp hx;exact Z6 r
def upTo (ch:List (List Int)) (m:Nat) (p:Int) (ps:List Int) (i:Nat):List (List (List Int)):=((ch.take i).filter (firstLast p (p::ps))).flatMap fun k=>(pAm ch m ((p::ps).filter fun x=>decide (x∉k))).map fun r=>k::r
theorem a7U {ch:List (List Int)}(h:ChOk ch)(m:Nat)(p:Int)(ps:List Int)(i:Nat):(upTo ch m p ps i).length<=fac (ps.length+1):=by
 have:=a0f h (m+1) (p::ps)
 rw[pAm] at this;refine zP ?_ this;rw[show ch.filter (firstLast p (p::ps))=(ch.take i).filter (firstLast p (p::ps))++(ch.drop i).filter (firstLast p (p::ps)) by rw[<-List.filter_append,List.take_append_drop],List.flatMap_append,qB]
 exact Nat.le_add_right _ _
theorem a5Z {ch:List (List Int)}{m:Nat}{p:Int}{ps:List Int}{i:Nat}{k:List Int}(hk:ch[i]? =some k):upTo ch m p ps (i+1)=upTo ch m p ps i++if firstLast p (p::ps) k=true then(pAm ch m ((p::ps).filter fun x=>decide (x∉k))).map fun r=>k::r else[]:=by
 unfold upTo;rw[List.take_add_one,hk,Option.toList_some,List.filter_append,List.flatMap_append];congr 1;rw[yE,List.filter_nil]
 split
 ·simp
 ·rfl
theorem a4B {ch:List (List Int)}(h:ChOk ch){p:Int}{ps k:List Int}(hk:k∈ch.filter (firstLast p (p::ps))):((p::ps).filter fun x=>decide (x∉k)).length<=ps.length:=by
 have:=(zM.mp hk).2
 unfold firstLast at this;rw[qF,yB] at this;have hp:p∈k:=by
  rcases h.two k (zM.mp hk).1 with ⟨x,rfl⟩|⟨x,y,rfl,_⟩
  ·rw[<-this.1];simp
  ·rw[<-this.1];simp
 rw[yE,if_neg (by simp[hp])]
 exact jK _ _
theorem a3Z {ch:List (List Int)}(h:ChOk ch):∀(m:Nat) (ps:List Int),∀q∈pAm ch m ps,q.length<=ps.length
 | 0,ps,q,hq=>by cases hq
 | m+1,[],q,hq=>by
  rw[pAm,zN] at hq;rw[hq];exact jR _
 | m+1,p::ps,q,hq=>by
  rw[pAm] at hq;obtain⟨k,hk,hr⟩:=mem_flatMap.mp hq;obtain⟨r,hr2,rfl⟩:=zE.mp hr
  have:=a3Z h m _ r hr2
  have:=a4B h hk
  rw[qC,qC];walk_at "o"
abbrev A2:Stmt:=top 13
theorem z6:FnScope ["choices","people","told","party","others"] ["choices","people"] (defScope A2):=by walk_at "c"
def z4 (m:Nat) (g:LO):Prop:=∀(ch:List (List Int)) (ps:List Int),ChOk ch->ps.length<m->ps.length<=8->g [.lst (ch.map tupI),.lst (ps.map .int)]=some (.o (.lst ((pAm ch m ps).map pairD)))
def E6 (g:LO):Prop:=z4 9 g
theorem O9:z4 0 fun _=>none:=fun _ _ _ h _=>absurd h (Nat.not_lt_zero _)
theorem U6 (F:Fun K "pairings_among" "pairings_among" A2 f fd)(B:Binds K fd ["choices","people"] [])(hm:mg "pairings_among"=some (.ref f)):∃g,Fn P w K mg base "pairings_among" (k+9+1) g/\E6 g:=by
 have nd:=z6.nd
 refine a6x (S:=z4) F z6 B hm O9 (fun j m u5 n9 o6=>⟨_,w6 F z6 B hm rfl rfl (fun cdv A outer s H E hr=>(c5 (K4 (a2B (a0E (a7 1))) (c6 (j8 (w4 (a8 (u7 b9) b9)))) v5)
  (c5 (j6 2 nd (w4 b9))
  (c5 (E1 qP rfl (C2 (a7 0)) (c8 3 nd) (c6 (K4 (a1L (a0q (a0s hr (j0 hr (a7 3) a9) (j0 hr (a7 1) a9)) (S2 (a8k hr (j0 hr (a7 3) (a78 a9)) (a7 1))))) (c5 (K0 4 nd (B8 (N:=["person","party"]) (js:=[none,some 3]) (li:=none) rfl (u6 (by exact(.own (.cap rfl rfl rfl rfl .nil))) rfl (by exact⟨rfl,trivial⟩) (by rfl)) (E5 1) (fun _ _ _ _=>(c8 0 (show((["person","party"]:List Str)++[accN]).Nodup by decide +kernel))) (fun _ _ _ _=>(G7 rfl (V7 hr (a7 0) (a7 1)))) (fun _ _ _ _=>(a7 0))))
  (c6 (J4 (a1O (a7 2) (a8 (D5 (N:=["rest","party"]) (js:=[none,some 3]) (li:=none) rfl (u6 (by exact(.own (.cap rfl rfl rfl rfl .nil))) rfl (by exact⟨rfl,trivial⟩) (by rfl)) (G2 (C2 (k5 n9 hr (a8 (a7 0) (a8 (a7 4) b9))))) (fun _ _ _ _=>(c8 0 (show((["rest","party"]:List Str)++[accN]).Nodup by decide +kernel))) (fun _ _ _ _=>B4) (fun _ _ _ _=>(a4h (u7 (a8 (a7 1) b9)) (a7 0)))) b9))))) v5)))
  (c6 (j8 (a7 2))))))),?_⟩) 9
 intro ch ps hc hm h8;have lch:=Z6 ch;have lch63:=hc.len;cases ps with
 | nil=>
  rw[show(pAm ch (m+1) []).map pairD=[D.tup []] from rfl];walk_at "q"
 | cons p ps=>
  rw[qC] at hm h8;have lps:=m4 (p::ps);have f8:fac (ps.length+1)<=40320:=zP (T9 h8) (by decide)
  rw[zH];walk_at "q";generalize el:loopF _ _ _=r;refine U1 el (fun i ρ=>∃(o3:Option D) (x4:Option W),ρ=[some (.v (.lst (ch.map tupI))),some (.v (.lst (.int p::ps.map .int))),some (.o (.lst ((upTo ch m p ps i).map pairD))),o3.map .v,x4]/\freeO x4=true) ⟨none,none,rfl,rfl⟩ ?_ ?_
  ·rintro i x _ hx ⟨o3,x4,rfl,f4⟩;rw[qH] at hx;cases hk:ch[i]? with
   | none=>rw[hk] at hx;cases hx
   | some k=>
    rw[hk] at hx;cases hx;have hkm:k∈ch:=mem_of_getElem? hk;have nx:=a5Z (m:=m) (p:=p) (ps:=ps) hk;have ul:=a7U hc m p ps (i+1);have af:atI (k.map D.int) 0=some (.int (k.getD 0 0))/\atI (k.map D.int) (-1)=some (.int (k.getD (k.length-1) 0)):=by
     rcases hc.two k hkm with ⟨a,rfl⟩|⟨a,c,rfl,_⟩<;>exact⟨rfl,rfl⟩
    have gi:oInG false (.int (k.getD (k.length-1) 0)) (.lst (.int p::ps.map .int))=some (.v (.bl (decide (k.getD (k.length-1) 0∈p::ps)))):=by
     have:=a5r (b:=false) (n:=k.getD (k.length-1) 0) (n5 (p::ps))
     rw[nb_f] at this;exact this
    unfold firstLast at nx;have et:tupI k= .tup (k.map .int):=rfl
    by_cases c1:(k.getD 0 0==p)=true
    ·by_cases c2:decide (k.getD (k.length-1) 0∈p::ps)=true
     ·have fl:firstLast p (p::ps) k=true:=by unfold firstLast;rw[c1,c2];rfl
      have hp:p∈k:=by
       have c1:=yB.mp c1;rcases hc.two k hkm with ⟨a,rfl⟩|⟨a,c,rfl,_⟩<;>(rw[<-c1];simp)
      rw[c1,c2,Bool.and_self,if_pos rfl] at nx;obtain⟨ot,eot⟩:∃ot:List Int,((p::ps).filter fun x=>decide (x∉k))=ot:=⟨_,rfl⟩;have lot:ot.length<=ps.length:=by
       rw[<-eot,yE,if_neg (by simp[hp])]
       exact jK _ _
      have er:=o6 ch ot hc (by walk_at "o") (by walk_at "o")
      have hm1:=a3Q k (p::ps);rw[eot] at nx hm1;have cm:=a50 k (pAm ch m ot);have lo:=m4 ot;have lr:=B9 (pAm ch m ot);have lr2:=B9 ((pAm ch m ot).map fun r=>k::r);have pl:(pAm ch m ot).length<=40320:=zP (a0f hc m ot) (zP (T9 (by walk_at "o")) f8)
      have hlen:((upTo ch m p ps i).map pairD).length+(((pAm ch m ot).map fun r=>k::r).map pairD).length<=1000000:=by
       rw[nx,qB] at ul;rw[zC,zC];walk_at "o"
      refine⟨_,?_,some (tupI k),some (.o (.lst (ot.map .int))),rfl,rfl⟩;rw[nx,jQ];rw[et]
      repeat(first|walk_at "z r" | simp only[af.1,af.2,c1,gi,c2])
      rw[l5 (ρ1:=[some (.v (.lst (ch.map tupI))),some (.v (.lst (.int p::ps.map .int))),some (.o (.lst ((upTo ch m p ps i).map pairD))),some (.v (.tup (k.map .int))),x4]) (xs:=(p::ps).map .int) (fun B=>∃o1:Option D,B=[o1.map .v,some (.v (.tup (k.map .int)))]) (hasNot k) id]
      ·rw[hm1]
       repeat(first|walk_at "z r" | simp only[f4])
       rw[l5 (ρ1:=[some (.v (.lst (ch.map tupI))),some (.v (.lst (.int p::ps.map .int))),some (.o (.lst ((upTo ch m p ps i).map pairD))),some (.v (.tup (k.map .int))),some (.o (.lst (ot.map .int)))]) (xs:=(pAm ch m ot).map pairD) (fun B=>∃o1:Option D,B=[o1.map .v,some (.v (.tup (k.map .int)))]) (fun _=>true) (consD (tupI k))]
       ·rw[cm]
        repeat(first|walk_at "z r" | simp only[lr2,hlen,it_l,it_t])
       ·repeat(first|walk_at "z r" | simp only[lch,lo,er,lr])
       ·rintro _ ⟨_,rfl⟩;rfl
       ·exact⟨none,rfl⟩
       ·rw[zC];unfold lim;walk_at "o"
       ·rw[cm];exact lr2
       ·rintro x hx _ zs ⟨o1,rfl⟩;obtain⟨q,hq,rfl⟩:=zE.mp hx;have hql:1+(q.map tupI).length<=1000000:=by
         rw[zC]
         have:=a3Z hc m ot q hq
         walk_at "o"
        refine⟨[some (.v (pairD q)),some (.v (.tup (k.map .int)))],.v (.tup (tupI k::q.map tupI)),⟨some _,rfl⟩,?_,rfl,fun _=>⟨?_,.inl rfl⟩⟩
        ·walk_at "q"
        ·unfold pairD
         repeat(first|walk_at "z r" | simp only[hql])
         rfl
      ·walk_at "q"
      ·rintro _ ⟨_,rfl⟩;rfl
      ·exact⟨none,rfl⟩
      ·rw[zC,qC];unfold lim;walk_at "o"
      ·rw[hm1];exact lo
      ·rintro x hx _ zs ⟨o1,rfl⟩;obtain⟨q,hq,rfl⟩:=zE.mp hx;have gt:oInG true (.int q) (.tup (k.map .int))=some (.v (.bl (hasNot k (.int q)))):=by
        rw[a9r (n5 k),nb_t];show _=some (W.v (D.bl (decide (q∉k))));rw[decide_not]
       refine⟨[some (.v (.int q)),some (.v (.tup (k.map .int)))],.v (.int q),⟨some _,rfl⟩,?_,?_,fun _=>⟨?_,.inl rfl⟩⟩
       ·walk_at "q"
       ·repeat(first|walk_at "z r" | simp only[gt])
       ·walk_at "q"
     ·have c2':decide (k.getD (k.length-1) 0∈p::ps)=false:=by simpa using c2
      rw[c1,c2',Bool.and_false,if_neg (by decide),jP] at nx
      rw[nx,et];refine⟨_,?_,some (.tup (k.map .int)),x4,rfl,f4⟩
      repeat(first|walk_at "z r" | simp only[af.1,af.2,c1,gi,c2'])
    ·have c1':(k.getD 0 0==p)=false:=by simpa using c1
     rw[c1',jZ,if_neg (by decide),jP] at nx
     rw[nx,et];refine⟨_,?_,some (.tup (k.map .int)),x4,rfl,f4⟩
     repeat(first|walk_at "z r" | simp only[af.1,af.2,c1'])
  ·rintro _ rfl ⟨o3,x4,rfl,f4⟩;rw[zC];have e:upTo ch m p ps ch.length=pAm ch (m+1) (p::ps):=by rw[pAm];unfold upTo;rw[take_length]
   rw[e];have lr:=B9 (pAm ch (m+1) (p::ps))
   repeat(first|walk_at "z r" | simp only[lr])
def gainH (ts:List Tie):D->D
 | .tup xs=>match intsOf xs with
  | some k=>.int (gainOf ts k)
  | none=>.int 0
 | _=>.int 0
theorem a4L (ts:List Tie)(k:List Int):gainH ts (tupI k)= .int (gainOf ts k):=by unfold gainH tupI;dsimp only;rw[n5]
theorem a6h (ts:List Tie)(ps:List (List Int)):((ps.map tupI).filter fun _=>true).map (gainH ts)=(ps.map (gainOf ts)).map .int:=by
 rw[q8,qS,qS];exact jG fun k _=>a4L ts k
abbrev a2l:Stmt:=top 11
theorem a26:FnScope ["web","some","gained"] ["web","some"] (defScope a2l):=by walk_at "c"
def a4U (g:LO):Prop:=∀(n:Int) (ts:List Tie) (ps:List (List Int)),WebOk n ts->ps.length<=63->g [webD n ts,.tup (ps.map tupI)]=some (.v (.int (ps.map (gainOf ts)).sum))
theorem a7p {N8:LO}(N1:Fn P w K mg base "gains" k N8)(N4:a2z N8)(m_sum:mg "sum"=none)(F:Fun K "worth" "worth" a2l f fd)(B:Binds K fd ["web","some"] [])(hm:mg "worth"=some (.ref f)):∃g,Fn P w K mg base "worth" (k+1) g/\a4U g:=by
 have nd:=a26.nd
 refine⟨_,w6 F a26 B hm rfl rfl (fun cdv A outer s H E hr=>(c5 (j6 2 nd (k5 N1 hr (a8 (a7 0) b9)))
  (c6 (j8 (qx_b ((a1R rfl).or (a1i rfl)) a4J m_sum (a8 (D5 (N:=["party","gained"]) (js:=[none,some 2]) (li:=none) rfl (u6 (by exact(.own (.cap rfl rfl rfl rfl .nil))) rfl (by exact⟨rfl,trivial⟩) (by rfl)) (E5 1) (fun _ _ _ _=>(c8 0 (show((["party","gained"]:List Str)++[accN]).Nodup by decide +kernel))) (fun _ _ _ _=>B4) (fun _ _ _ _=>(a6A hr (a7 1) (a8 (a7 0) (a8 a9 b9))))) b9)))))),?_⟩
 intro n ts ps hw hl;have eg:=N4 n ts hw;have lf1:lfL (ts.map fun t=>D.int t.2.2)=true:=t4 fun y hy=>by obtain⟨x,hx,rfl⟩:=zE.mp hy;rfl
 have g6:∀k ρ,ge6 (tupI k) (.int 0) ρ (some (.dT (ts.map tkK) (ts.map fun t=>D.int t.2.2)))=some (.v (.int (gainOf ts k)),ρ):=fun k ρ=>by rw[a8Q (a87 k),a1h]
 have gm:=a6h ts ps;have os:=a7P (n5 (ps.map (gainOf ts)))
 repeat(first|walk_at "z r" | simp only[eg,lf1])
 rw[l5 (ρ1:=[some (.v (webD n ts)),some (.v (.tup (ps.map tupI))),some (.o (.dT (ts.map tkK) (ts.map fun t=>D.int t.2.2)))]) (xs:=ps.map tupI) (fun B=>∃o1:Option D,B=[o1.map .v,some (.v (.dT (ts.map tkK) (ts.map fun t=>D.int t.2.2)))]) (fun _=>true) (gainH ts)]
 ·rw[gm]
  repeat(first|walk_at "z r" | simp only[os])
 ·walk_at "q"
 ·rintro _ ⟨_,rfl⟩;rfl
 ·exact⟨none,rfl⟩
 ·rw[zC];unfold lim;walk_at "o"
 ·rw[gm];exact m4 _
 ·rintro x hx _ zs ⟨o1,rfl⟩;obtain⟨p,hpp,rfl⟩:=a7s hx;have gp:=g6 p;refine⟨[some (.v (tupI p)),some (.v (.dT (ts.map tkK) (ts.map fun t=>D.int t.2.2)))],.v (.int (gainOf ts p)),⟨some _,rfl⟩,?_,rfl,fun _=>⟨?_,.inl (by rw[a4L])⟩⟩
  ·walk_at "q"
  ·repeat(first|walk_at "z r" | simp only[gp])
def wK (ts:List Tie) (q:List (List Int)):Int:=(q.map (gainOf ts)).sum
theorem D2 {n:Int}{ts:List Tie}(hw:WebOk n ts):ChOk (sortK (parK n ts)):=by
 have hn:=hw.n1;have hl:=hw.len;have p:=g5 (parK n ts);refine⟨fun k hk=>?_,?_,?_⟩
 ·rcases jA.mp (p.mem_iff.mp hk) with z|z
  ·obtain⟨i,_,rfl⟩:=zE.mp z;exact .inl ⟨_,rfl⟩
  ·obtain⟨t,ht,rfl⟩:=zE.mp z;exact .inr ⟨_,_,rfl,(hw.t t ht).2.1⟩
 ·refine p.nodup_iff.mpr ?_;unfold parK;rw[xN];refine⟨?_,?_,fun a ha b hb e=>?_⟩
  ·unfold List.Nodup;rw[jB];exact nodup_range.imp fun h e=>h (by injection e with e;walk_at "o")
  ·have nd:=hw.nd;unfold List.Nodup at *;rw[jB] at nd ⊢;exact nd.imp fun h e=>h (by injection e with e1 e2;injection e2 with e2;rw[e1,e2])
  ·obtain⟨i,_,rfl⟩:=zE.mp ha;obtain⟨t,_,rfl⟩:=zE.mp hb;exact absurd (congrArg List.length e) (by simp)
 ·rw[p.length_eq];unfold parK;rw[qB,zC,zC,length_range];walk_at "o"
def allP (n:Int) (ts:List Tie):List (List (List Int)):=pAm (sortK (parK n ts)) 9 (up n.toNat)
abbrev E2:Stmt:=top 12
theorem M4:FnScope ["web"] ["web"] (defScope E2):=by walk_at "c"
def O5 (g:LO):Prop:=∀(n:Int) (ts:List Tie),WebOk n ts->g [webD n ts]=some (.o (.lst ((allP n ts).map pairD)))
theorem a0Y {u5:LO}{X1:LO}(n9:Fn P w K mg base "pairings_among" k u5)(o6:E6 u5)(V4:Fn P w K mg base "parties" k X1)(X5:a1C X1)(a34:mg "list"=none)(k7:mg "range"=none)(F:Fun K "pairings_of" "pairings_of" E2 f fd)(B:Binds K fd ["web"] [])(hm:mg "pairings_of"=some (.ref f)):∃g,Fn P w K mg base "pairings_of" (k+1) g/\O5 g:=by
 have nd:=M4.nd;refine⟨_,w6 F M4 B hm rfl rfl (fun cdv A outer s H E hr=>(c6 (j8 (k5 n9 hr (a8 (k5 V4 hr (a8 (a7 0) b9)) (a8 (a8x rfl a34 k7 (a8 (j0 hr (a7 0) a9) b9)) b9)))))),?_⟩;intro n ts hw;have hn:=hw.n1;have e1:=X5 n ts hw;have ul:=Q2 n.toNat;have e2:=o6 (sortK (parK n ts)) (up n.toNat) (D2 hw) (by walk_at "o") (by walk_at "o")
 have r3:(0<=n/\n<=1000):=by walk_at "o"
 have ru:rngD 0 n.toNat=(up n.toNat).map .int:=a6Z _;have lu:lfL ((up n.toNat).map D.int)=true:=m4 _;have lp:=Z6 (sortK (parK n ts));have lr:=B9 (allP n ts);have ix0:oIxG (webD n ts) (.int 0)=some (.v (.int n)):=rfl;have lw:=D6 n ts;unfold allP at lr ⊢
 repeat(first|walk_at "z r" | simp only[e1,r3,ru,lu,lp,e2,ix0,lr,lw])
def bestP (n:Int) (ts:List Tie):List (List (List Int)):=(allP n ts).filter fun q=>wK ts q==maxI ((allP n ts).map (wK ts))
def wthD (ts:List Tie):D->D
 | .tup xs=>match tupsOf xs with
  | some ks=>.int (wK ts ks)
  | none=>.int 0
 | _=>.int 0
theorem a3s (ts:List Tie)(q:List (List Int)):wthD ts (pairD q)= .int (wK ts q):=by unfold wthD pairD;dsimp only;rw[C3]
theorem a81 (ts:List Tie)(qs:List (List (List Int))):((qs.map pairD).filter fun _=>true).map (wthD ts)=(qs.map (wK ts)).map .int:=by
 rw[q8,qS,qS];exact jG fun q _=>a3s ts q
def fstD:D->D
 | .tup [a,_]=>a
 | d=>d
def sndIs (m:Int):D->Bool
 | .tup [_,.int w]=>w==m
 | _=>false
theorem a3f (ts:List Tie)(m:Int):∀qs:List (List (List Int)),((zipD (qs.map pairD) ((qs.map (wK ts)).map .int)).filter (sndIs m)).map fstD=(qs.filter fun q=>wK ts q==m).map pairD
 | []=>rfl
 | q::qs=>by
  have ih:=a3f ts m qs;show(((D.tup [pairD q,.int (wK ts q)])::zipD (qs.map pairD) ((qs.map (wK ts)).map .int)).filter (sndIs m)).map fstD=_;rw[yE,yE];show(if(wK ts q==m)=true then _ else _:List D).map fstD=_
  split
  ·rw[zH,zH,ih];rfl
  ·exact ih
theorem a6N {ch:List (List Int)}:∀(m:Nat) (ps:List Int),ps.length<m->(∀p∈ps,[p]∈ch)->pAm ch m ps≠[]
 | 0,ps,h,_=>absurd h (Nat.not_lt_zero _)
 | m+1,[],_,_=>by rw[pAm];exact List.cons_ne_nil _ _
 | m+1,p::ps,h,hs=>by
  rw[qC] at h;have hk:[p]∈ch.filter (firstLast p (p::ps)):=zM.mpr ⟨hs p zG,by unfold firstLast;simp⟩
  have lr:((p::ps).filter fun x=>decide (x∉[p])).length<=ps.length:=by
   rw[yE,if_neg (by simp)]
   exact jK _ _
  have ne:=a6N (ch:=ch) m ((p::ps).filter fun x=>decide (x∉[p])) (by walk_at "o") fun x hx=>hs x (zM.mp hx).1
  obtain⟨r,hr⟩:=List.exists_mem_of_ne_nil _ ne;rw[pAm];exact List.ne_nil_of_mem (mem_flatMap.mpr ⟨[p],hk,zE.mpr ⟨r,hr,rfl⟩⟩)
theorem a2E {n:Int}{ts:List Tie}(hw:WebOk n ts):allP n ts≠[]:=a6N 9 _ (by have:=hw.n1;rw[Q2];walk_at "o") fun p hp=>by
 have:=n8.mp hp
 refine(g5 _).mem_iff.mpr (xV _ (zE.mpr ⟨p.toNat,xU.mpr (by walk_at "o"),?_⟩))
 rw[jN this.1]
theorem a3p {n:Int}{ts:List Tie}(hw:WebOk n ts):(allP n ts).length<=40320:=by
 have:=a0f (D2 hw) 9 (up n.toNat)
 refine zP this (zP (T9 (show(up n.toNat).length<=8 by rw[Q2];have:=hw.n1;walk_at "o")) (by decide))
theorem a3y {ns:List Int}(h:0<ns.length):maxI ns∈ns/\∀a∈ns,a<=maxI ns:=by
 cases ns with
 | nil=>cases h
 | cons a r=>
  obtain⟨h1,h2,h3⟩:=X4 r a;refine⟨?_,fun x hx=>?_⟩
  ·rcases h1 with z|z
   ·show r.foldl (fun m x=>if x>m then x else m) a∈a::r;rw[z];exact zG
   ·exact zJ _ z
  ·rcases zK.mp hx with rfl|z
   ·exact h2
   ·exact h3 x z
abbrev Q8:Stmt:=top 15
theorem Y7:FnScope ["web","pairings","worths","most"] ["web"] (defScope Q8):=by walk_at "c"
def a0y (g:LO):Prop:=∀(n:Int) (ts:List Tie),WebOk n ts->g [webD n ts]=some (.o (.lst ((bestP n ts).map pairD)))
theorem a3e {D9:LO}{Z9:LO}(D7:Fn P w K mg base "pairings_of" k D9)(D8:O5 D9)(a10:Fn P w K mg base "worth" k Z9)(a2s:a4U Z9)(m_max:mg "max"=none)(m_zip:mg "zip"=none)(F:Fun K "all_best" "all_best" Q8 f fd)(B:Binds K fd ["web"] [])(hm:mg "all_best"=some (.ref f)):∃g,Fn P w K mg base "all_best" (k+1) g/\a0y g:=by
 have nd:=Y7.nd
 refine⟨_,w6 F Y7 B hm rfl rfl (fun cdv A outer s H E hr=>(c5 (j6 1 nd (k5 D7 hr (a8 (a7 0) b9)))
  (c5 (K0 2 nd (B8 (N:=["pairing","web"]) (js:=[none,some 0]) (li:=none) rfl (u6 (by exact(.own (.cap rfl rfl rfl rfl .nil))) rfl (by exact⟨rfl,trivial⟩) (by rfl)) (E5 1) (fun _ _ _ _=>(c8 0 (show((["pairing","web"]:List Str)++[accN]).Nodup by decide +kernel))) (fun _ _ _ _=>B4) (fun _ _ _ _=>(k5 a10 hr (a8 (a7 1) (a8 (a7 0) b9))))))
  (c5 (j6 3 nd (qx_b (a1b rfl) a4y m_max (a8 (a7 2) b9)))
  (c6 (j8 (D5 (N:=["pairing","each","most"]) (js:=[none,none,some 3]) (li:=none) rfl (u6 (by exact(.own (.own (.cap rfl rfl rfl rfl .nil)))) rfl (by exact⟨rfl,trivial⟩) (by rfl)) (G2 (b1o m_zip (a8 (a7 1) (a8 (a7 2) b9)))) (fun _ _ _ _=>(W3 rfl (m7 (c8 0 (show((["pairing","each","most"]:List Str)++[accN]).Nodup by decide +kernel)) (m7 (c8 1 (show((["pairing","each","most"]:List Str)++[accN]).Nodup by decide +kernel)) N2)))) (fun _ _ _ _=>(G7 rfl (a0s hr (a7 1) (a7 2)))) (fun _ _ _ _=>(a7 0))))))))),?_⟩
 intro n ts hw;have hn:=hw.n1;have e1:=D8 n ts hw;have l1:=B9 (allP n ts);have ln:=a3p hw;have wm:=a81 ts (allP n ts);have lw:=m4 ((allP n ts).map (wK ts));have lweb:=D6 n ts;have pos:0<((allP n ts).map (wK ts)).length:=by rw[zC];exact List.length_pos_iff.mpr (a2E hw)
 have om:=a7C pos;obtain⟨M,eM⟩:∃M:Int,maxI ((allP n ts).map (wK ts))=M:=⟨_,rfl⟩;rw[eM] at om;have bm:=a3f ts M (allP n ts);have lb:=B9 ((allP n ts).filter fun q=>wK ts q==M);have lA:∀q∈allP n ts,q.length<=63:=fun q hq=>by
  have:=a3Z (D2 hw) 9 (up n.toNat) q hq
  rw[Q2] at this;walk_at "o"
 unfold bestP;rw[eM];generalize allP n ts=Q at e1 l1 ln wm lw om bm lb lA ⊢
 repeat(first|walk_at "z r" | simp only[e1,l1])
 rw[l5 (ρ1:=[some (.v (webD n ts)),some (.o (.lst (Q.map pairD))),none,none]) (xs:=Q.map pairD) (fun B=>∃o1:Option D,B=[o1.map .v,some (.v (webD n ts))]) (fun _=>true) (wthD ts)]
 ·rw[wm]
  repeat(first|walk_at "z r" | simp only[lw,om])
  rw[l5 (ρ1:=[some (.v (webD n ts)),some (.v (.lst (Q.map pairD))),some (.v (.lst ((Q.map (wK ts)).map .int))),some (.v (.int M))]) (xs:=zipD (Q.map pairD) ((Q.map (wK ts)).map .int)) (fun B=>∃o1 o2:Option D,B=[o1.map .v,o2.map .v,some (.v (.int M))]) (sndIs M) fstD]
  ·rw[bm]
   repeat(first|walk_at "z r" | simp only[lb])
  ·repeat(first|walk_at "z r" | simp only[lw,l1,it_l,it_t])
  ·rintro _ ⟨_,_,rfl⟩;rfl
  ·exact⟨none,none,rfl⟩
  ·unfold zipD;rw[List.length_zipWith,zC,zC,zC,Nat.min_self];unfold lim;walk_at "o"
  ·rw[bm];exact lb
  ·rintro x hx _ zs ⟨o1,o2,rfl⟩;obtain⟨q,hq,rfl⟩:∃q∈Q,x= .tup [pairD q,.int (wK ts q)]:=by
    have:∀R:List (List (List Int)),x∈zipD (R.map pairD) ((R.map (wK ts)).map .int)->∃q∈R,x= .tup [pairD q,.int (wK ts q)]:=fun R=>by
     induction R with
     | nil=>intro h;cases h
     | cons q R ih=>
      intro h;have h:x∈D.tup [pairD q,.int (wK ts q)]::zipD (R.map pairD) ((R.map (wK ts)).map .int):=h;rcases zK.mp h with z|z
      ·exact⟨q,zG,z⟩
      ·obtain⟨q',h1,h2⟩:=ih z;exact⟨q',zJ _ h1,h2⟩
    exact this Q hx
   refine⟨[some (.v (pairD q)),some (.v (.int (wK ts q))),some (.v (.int M))],.v (pairD q),⟨some _,some _,rfl⟩,?_,?_,fun _=>⟨?_,.inl rfl⟩⟩
   ·walk_at "q"
   ·rw[show sndIs M (.tup [pairD q,.int (wK ts q)])=(wK ts q==M) from rfl];walk_at "q"
   ·walk_at "q"
 ·walk_at "q"
 ·rintro _ ⟨_,rfl⟩;rfl
 ·exact⟨none,rfl⟩
 ·rw[zC];unfold lim;walk_at "o"
 ·rw[wm];exact lw
 ·rintro x hx _ zs ⟨o1,rfl⟩;obtain⟨q,hq,rfl⟩:=zE.mp hx;have ew:Z9 [webD n ts,pairD q]=some (.v (.int (wK ts q))):=a2s n ts q hw (lA q hq);have lq:lf (pairD q)=true:=Z6 q;refine⟨[some (.v (pairD q)),some (.v (webD n ts))],.v (.int (wK ts q)),⟨some _,rfl⟩,?_,rfl,fun _=>⟨?_,.inl (by rw[a3s])⟩⟩
  ·walk_at "q"
  ·repeat(first|walk_at "z r" | simp only[ew,lweb,lq])
structure PgOk (ch:List (List Int)) (ps:List Int) (q:List (List Int)):Prop where
 mem:∀k∈q,k∈ch
 perm:q.flatten.Perm ps
theorem b08 {ch:List (List Int)}(h:ChOk ch){k:List Int}(hk:k∈ch):k.Nodup:=by
 rcases h.two k hk with ⟨a,rfl⟩|⟨a,c,rfl,hlt⟩
 ·simp
 ·simp;walk_at "o"
theorem W0 {ch:List (List Int)}(h:ChOk ch){k ps:List Int}(hk:k∈ch)(nd:ps.Nodup)(hs:∀x∈k,x∈ps):(k++ps.filter fun x=>decide (x∉k)).Perm ps:=by
 refine(List.perm_ext_iff_of_nodup ?_ nd).mpr fun x=>?_
 ·rw[xN];refine⟨b08 h hk,nd.sublist xC,fun a ha b hb e=>?_⟩;subst e;exact absurd ha (qM (zM.mp hb).2)
 ·rw[jA,zM];constructor
  ·rintro(z|z)
   ·exact hs x z
   ·exact z.1
  ·intro z
   by_cases e:x∈k
   ·exact .inl e
   ·exact .inr ⟨z,zL e⟩
theorem b1V {ch:List (List Int)}(h:ChOk ch){p:Int}{ps k:List Int}(hk:k∈ch)(hf:firstLast p ps k=true)(hp:p∈ps):∀x∈k,x∈ps:=by
 unfold firstLast at hf;rw[qF,yB] at hf;have h2:=qM hf.2;intro x hx;rcases h.two k hk with ⟨a,rfl⟩|⟨a,c,rfl,_⟩
 ·simp at hx hf h2;rw[hx];exact h2
 ·simp at hx hf h2;rcases hx with rfl|rfl
  ·rw[hf.1];exact hp
  ·exact h2
theorem a3X {ch:List (List Int)}(h:ChOk ch):∀(m:Nat) (ps:List Int),ps.Nodup->∀q∈pAm ch m ps,PgOk ch ps q
 | 0,ps,_,q,hq=>by cases hq
 | m+1,[],_,q,hq=>by
  rw[pAm,zN] at hq;subst hq;exact⟨fun k hk=>(by cases hk),List.Perm.refl _⟩
 | m+1,p::ps,nd,q,hq=>by
  rw[pAm] at hq;obtain⟨k,hk,hr⟩:=mem_flatMap.mp hq;obtain⟨r,hr2,e⟩:=zE.mp hr;subst e;obtain⟨k1,k2⟩:=zM.mp hk;have ih:=a3X h m _ (nd.sublist xC) r hr2;refine⟨fun x hx=>?_,?_⟩
  ·rcases zK.mp hx with rfl|z
   ·exact k1
   ·exact ih.mem x z
  ·rw[xQ];exact(List.Perm.append_left k ih.perm).trans (W0 h k1 nd (b1V h k1 k2 zG))
theorem PgOk.take {ch:List (List Int)}(h:ChOk ch){ps k:List Int}{q:List (List Int)}(hq:PgOk ch ps q)(nd:ps.Nodup)(hk:k∈q):PgOk ch (ps.filter fun x=>decide (x∉k)) (q.erase k)/\q.Perm (k::q.erase k)/\∀x∈k,x∈ps:=by
 have p1:=List.perm_cons_erase hk;have hs:∀x∈k,x∈ps:=fun x hx=>hq.perm.mem_iff.mp (xD.mpr ⟨k,hk,hx⟩);have p2:=W0 h (hq.mem k hk) nd hs;have p3:(k++(q.erase k).flatten).Perm (k++ps.filter fun x=>decide (x∉k)):=by
  have:=p1.flatten
  rw[xQ] at this;exact this.symm.trans (hq.perm.trans p2.symm)
 exact⟨⟨fun x hx=>hq.mem x (List.mem_of_mem_erase hx),(List.perm_append_left_iff k).mp p3⟩,p1,hs⟩
theorem a2j {ch:List (List Int)}(h:ChOk ch):∀(m:Nat) (ps:List Int),ps.length<m->ps.Pairwise (· < ·)->∀q,PgOk ch ps q->∃q'∈pAm ch m ps,q'.Perm q
 | 0,ps,hm,_,q,_=>absurd hm (Nat.not_lt_zero _)
 | m+1,[],_,_,q,hq=>by
  have hf:=List.perm_nil.mp hq.perm;cases q with
  | nil=>exact⟨[],by rw[pAm];exact List.mem_singleton_self _,List.Perm.refl _⟩
  | cons k q=>
   exfalso
   rw[xQ] at hf
   have:=(List.append_eq_nil_iff.mp hf).1
   rcases h.two k (hq.mem k zG) with ⟨a,rfl⟩|⟨a,c,rfl,_⟩<;>cases this
 | m+1,p::ps,hm,pw,q,hq=>by
  rw[qC] at hm;have nd:(p::ps).Nodup:=pw.imp fun hlt e=>by walk_at "o"
  obtain⟨k,hk,hpk⟩:=xD.mp (hq.perm.mem_iff.mpr (zG (a:=p) (l:=ps)));obtain⟨r1,r2,r3⟩:=hq.take h nd hk;have least:∀x∈p::ps,p<=x:=fun x hx=>by
   rcases zK.mp hx with rfl|z
   ·exact jS _
   ·have:=(List.pairwise_cons.mp pw).1 x z;walk_at "o"
  have hf:firstLast p (p::ps) k=true:=by
   unfold firstLast;rcases h.two k (hq.mem k hk) with ⟨a,rfl⟩|⟨a,c,rfl,hlt⟩
   ·have:p=a:=by simpa using hpk
    subst this;simp
   ·have ha:=least a (r3 a (by simp))
    have hc:=r3 c (by simp)
    have:p=a:=by
     rcases(by simpa using hpk:p=a\/p=c) with z|z
     ·exact z
     ·walk_at "o"
    subst this;simp at hc ⊢;exact hc
  have hkf:k∈ch.filter (firstLast p (p::ps)):=zM.mpr ⟨hq.mem k hk,hf⟩;obtain⟨q',h1,h2⟩:=a2j h m _ (Nat.lt_of_le_of_lt (a4B h hkf) (by walk_at "o")) (pw.sublist xC) _ r1
  refine⟨k::q',?_,(List.Perm.cons k h2).trans r2.symm⟩;rw[pAm];exact mem_flatMap.mpr ⟨k,hkf,zE.mpr ⟨q',h1,rfl⟩⟩
def perB (n:Nat) (bs:List Bool):List Int:=(up n).filter fun p=>bs.getD p.toNat false
theorem b0R {bs:List Bool}{p:Int}(hf:bs.getD p.toNat false=true):((val bs:Nat):Int)-1*2^p.toNat=((val (bs.set p.toNat false):Nat):Int):=by
 have:=D1 bs p.toNat hf
 have:((val bs:Nat):Int)=((val (bs.set p.toNat false):Nat):Int)+2^p.toNat:=by rw[this,Int.natCast_add,xF];rfl
 walk_at "o"
theorem a0h:∀{a b:List Bool},a.length=b.length->val a=val b->a=b
 | [],[],_,_=>rfl
 | [],_::_,h,_=>by cases h
 | _::_,[],h,_=>by cases h
 | x::a,y::b,h,e=>by
  have e:(if x then 1 else 0)+2*val a=(if y then 1 else 0)+2*val b:=e;have e1:x=y:=by
   cases x<;>cases y<;>simp at e<;>first|rfl|walk_at "o"
  have e2:val a=val b:=by rw[e1] at e;walk_at "o"
  rw[e1,a0h (Nat.succ.inj h) e2]
theorem a4z {bs:List Bool}{p x:Nat}:(bs.set p false).getD x false=(!decide (x=p)&&bs.getD x false):=by
 rw[zS,zS,getElem?_set]
 by_cases e:p=x
 ·subst e;rw[if_pos rfl]
  by_cases h:p<bs.length
  ·rw[if_pos h];simp
  ·rw[if_neg h];simp
 ·rw[if_neg e,zO fun z=>e z.symm];simp
theorem M5 {n:Nat}{bs:List Bool}{p:Int}(hp:0<=p):(perB n bs).filter (fun x=>decide (x∉[p]))=perB n (bs.set p.toNat false):=by
 unfold perB;rw[List.filter_filter];refine filter_congr fun x hx=>?_
 have:=n8.mp hx
 rw[a4z]
 by_cases e:x=p
 ·subst e;simp
 ·rw[zL (show x∉[p] by simpa using e),zO (show ¬x.toNat=p.toNat by walk_at "o")];simp
theorem N6 {n:Nat}{bs:List Bool}{p o:Int}(hp:0<=p)(ho:0<=o):(perB n bs).filter (fun x=>decide (x∉[o,p]))=perB n ((bs.set p.toNat false).set o.toNat false):=by
 rw[<-M5 ho,<-M5 hp,List.filter_filter];refine filter_congr fun x _=>?_
 by_cases e1:x=p<;>by_cases e2:x=o<;>simp[e1,e2]
theorem T5 (n:Nat)(bs:List Bool):(perB n bs).Nodup:=by
 refine List.Pairwise.sublist xC ?_;unfold up;rw[jB];exact nodup_range.imp fun h e=>h (by walk_at "o")
def MstE (n:Int) (ts:List Tie) (ys:List Int):Prop:=∀bs:List Bool,bs.length=n.toNat->val bs<ys.length->(∃q,PgOk (sortK (parK n ts)) (perB n.toNat bs) q/\wK ts q=ys.getD (val bs) 0)/\∀q,PgOk (sortK (parK n ts)) (perB n.toNat bs) q->wK ts q<=ys.getD (val bs) 0
theorem a6b {l m:List Int}(p:l.Perm m):l.sum=m.sum:=by
 induction p with
 | nil=>rfl
 | cons x _ ih=>rw[sum_cons,sum_cons,ih]
 | swap x y l=>simp only[sum_cons];walk_at "o"
 | trans _ _ h1 h2=>exact h1.trans h2
theorem O2 {ts:List Tie}{q r:List (List Int)}(p:q.Perm r):wK ts q=wK ts r:=by
 unfold wK;exact a6b (p.map (gainOf ts))
theorem w8 (ts:List Tie)(k:List Int)(q:List (List Int)):wK ts (k::q)=gainOf ts k+wK ts q:=by unfold wK;rw[zH,sum_cons]
theorem a02 {ch:List (List Int)}(h:ChOk ch){ps k:List Int}{r:List (List Int)}(hk:k∈ch)(nd:ps.Nodup)(hs:∀x∈k,x∈ps)(hr:PgOk ch (ps.filter fun x=>decide (x∉k)) r):PgOk ch ps (k::r):=by
 refine⟨fun x hx=>?_,?_⟩
 ·rcases zK.mp hx with rfl|z
  ·exact hk
  ·exact hr.mem x z
 ·rw[xQ];exact(List.Perm.append_left k hr.perm).trans (W0 h hk nd hs)
theorem a8G {n:Int}{ts:List Tie}{bs:List Bool}{la fo:Int}(hw:WebOk n ts)(hl:la∈perB n.toNat bs)(hmax:∀x∈perB n.toNat bs,x<=la)
  (u1:∀q,PgOk (sortK (parK n ts)) (perB n.toNat (bs.set la.toNat false)) q->wK ts q<=fo)
  (u2:∀o,o∈perB n.toNat bs->o<la->[o,la]∈parK n ts->∀q,PgOk (sortK (parK n ts)) (perB n.toNat ((bs.set la.toNat false).set o.toNat false)) q->gainOf ts [o,la]+wK ts q<=fo):
  ∀q,PgOk (sortK (parK n ts)) (perB n.toNat bs) q->wK ts q<=fo:=by
 intro q hq;have co:=D2 hw;have la0:=(n8.mp (zM.mp hl).1).1;obtain⟨k,hk,hlk⟩:=xD.mp (hq.perm.mem_iff.mpr hl);obtain⟨r1,r2,r3⟩:=hq.take co (T5 _ _) hk;rw[O2 r2,w8];rcases co.two k (hq.mem k hk) with ⟨a,rfl⟩|⟨a,c,rfl,hlt⟩
 ·have:la=a:=by simpa using hlk
  subst this;rw[M5 la0] at r1;rw[j5]
  have:=u1 _ r1
  walk_at "o"
 ·have ha:=r3 a (by simp)
  have hc:=hmax c (r3 c (by simp))
  have e:la=c:=by
   rcases(by simpa using hlk:la=a\/la=c) with z|z
   ·walk_at "o"
   ·exact z
  subst e;have a0:=(n8.mp (zM.mp ha).1).1;rw[N6 la0 a0] at r1;exact u2 a ha hlt ((g5 _).mem_iff.mp (hq.mem _ hk)) _ r1
theorem b1W {ch:List (List Int)}(h:ChOk ch){q:List (List Int)}(hq:PgOk ch [] q):q=[]:=by
 have hf:=List.perm_nil.mp hq.perm;cases q with
 | nil=>rfl
 | cons k q=>
  exfalso
  rw[xQ] at hf
  have:=(List.append_eq_nil_iff.mp hf).1
  rcases h.two k (hq.mem k zG) with ⟨a,rfl⟩|⟨a,c,rfl,_⟩<;>cases this
theorem a7S {n:Nat}{bs:List Bool}(h:val bs=0):perB n bs=[]:=by
 unfold perB;refine List.filter_eq_nil_iff.mpr fun x _=>?_
 have:=a0d bs x.toNat
 rw[h,Nat.zero_div] at this;cases e:bs.getD x.toNat false with
 | false=>exact zT
 | true=>rw[e] at this;cases this
theorem W5 (n:Nat):perB n (List.replicate n true)=up n:=by
 unfold perB;refine List.filter_eq_self.mpr fun x hx=>?_
 have:=n8.mp hx
 rw[zS,qL (by rw[length_replicate];walk_at "o"),List.getElem_replicate];rfl
def hasP (bs:List Bool) (ts:List Tie) (la:Int):D->Bool
 | .int p=>bs.getD p.toNat false&&decide ([p,la]∈ts.map key2)
 | _=>false
def parB (bs:List Bool) (ts:List Tie) (la:Int):List Int:=(up la.toNat).filter fun p=>bs.getD p.toNat false&&decide ([p,la]∈ts.map key2)
theorem a67 (bs:List Bool)(ts:List Tie)(la:Int):((rngD 0 la.toNat).filter (hasP bs ts la)).map id=(parB bs ts la).map .int:=by
 rw[map_id,a6Z,filter_map];rfl
def tieG (ts:List Tie) (ys:List Int) (bs:List Bool) (la p:Int):Int:=gainOf ts [p,la]+ys.getD (val (bs.set p.toNat false)) 0
def tieF (ts:List Tie) (ys:List Int) (bs:List Bool) (la:Int):D->D
 | .int p=>.int (tieG ts ys bs la p)
 | d=>d
theorem a7O (ts:List Tie)(ys:List Int)(bs:List Bool)(la:Int)(ps:List Int):((ps.map D.int).filter fun _=>true).map (tieF ts ys bs la)=(ps.map (tieG ts ys bs la)).map .int:=by
 rw[q8,qS,qS];rfl
theorem a51 (ts:List Tie)(a c:Int):oInG false (.tup [.int a,.int c]) (.dT (ts.map tkK) (ts.map fun t=>D.int t.2.2))=some (.v (.bl (decide ([a,c]∈ts.map key2)))):=by
 refine(b1F tk_2 (by simp)).trans ?_
 rw[nb_f];congr 3;rw[Bool.eq_iff_iff,a6C,qO];constructor
 ·intro h;obtain⟨t,ht,e⟩:=zE.mp h;unfold tkK at e;injection e with e1 e2
  injection e2 with e2 _
  injection e1 with e1
  injection e2 with e2
  exact zE.mpr ⟨t,ht,by unfold key2;rw[e1,e2]⟩
 ·intro h;obtain⟨t,ht,e⟩:=zE.mp h;unfold key2 at e;injection e with e1 e2
  injection e2 with e2 _
  exact zE.mpr ⟨t,ht,by unfold tkK;rw[e1,e2]⟩
theorem a5J {ts:List Tie}(nd:(ts.map key2).Nodup){a c:Int}(h:[a,c]∈ts.map key2):oIxG (.dT (ts.map tkK) (ts.map fun t=>D.int t.2.2)) (.tup [.int a,.int c])=some (.v (.int (gainOf ts [a,c]))):=by
 refine b1e tk_2 ?_
 have:∀us:List Tie,[a,c]∈us.map key2->look (us.map tkK) (us.map fun t=>D.int t.2.2) [Sum.inl a,Sum.inl c]=some (.int (gainOf us [a,c])):=fun us=>by
  induction us with
  | nil=>intro h;cases h
  | cons t us ih=>
   intro h;rw[zH,zH,look,gainOf]
   by_cases e:[t.1,t.2.1]=[a,c]
   ·rw[if_pos e];injection e with e1 e2
    injection e2 with e2 _
    rw[if_pos (by unfold tkK;rw[e1,e2])]
   ·rw[if_neg e,if_neg fun z=>e (by
     unfold tkK at z;injection z with z1 z2
     injection z2 with z2 _
     injection z1 with z1
     injection z2 with z2
     rw[z1,z2])]
    rw[zH] at h;rcases zK.mp h with z|z
    ·exact absurd z.symm e
    ·exact ih z
 exact this ts h
abbrev A9:Stmt:=top 16
theorem F1:FnScope ["web","gained","most","crowd","last","others","partners","tied"] ["web"] (defScope A9):=by walk_at "c"
def K3 (g:LO):Prop:=∀(n:Int) (ts:List Tie),WebOk n ts->∃ys:List Int,ys.length=2^n.toNat/\MstE n ts ys/\g [webD n ts]=some (.o (.lst (ys.map .int)))
theorem X0 {N8:LO}(N1:Fn P w K mg base "gains" k N8)(N4:a2z N8)(k7:mg "range"=none)(m_max:mg "max"=none)(F:Fun K "most_by_crowd" "most_by_crowd" A9 f fd)(B:Binds K fd ["web"] [])(hm:mg "most_by_crowd"=some (.ref f)):∃g,Fn P w K mg base "most_by_crowd" (k+1) g/\K3 g:=by
 have nd:=F1.nd
 refine⟨_,w6 F F1 B hm rfl rfl (fun cdv A outer s H E hr=>(c5 (j6 1 nd (k5 N1 hr (a8 (a7 0) b9)))
  (c5 (j6 2 nd (w4 (a8 a9 b9)))
  (c5 (E1 qP rfl (a9M k7 (a8 a9 (a8 (J0 a9 (j0 hr (a7 0) a9)) b9))) (c8 3 nd) (c5 (j6 4 nd (w5 (a9w (a7 3)) a9))
  (c5 (j6 5 nd (w5 (a7 3) (J0 a9 (a7 4))))
  (c5 (K0 6 nd (B8 (N:=["one","gained","others","last"]) (js:=[none,some 1,some 5,some 4]) (li:=none) rfl (u6 (by exact(.own (.cap rfl rfl rfl rfl (.cap rfl rfl rfl rfl (.cap rfl rfl rfl rfl .nil))))) rfl (by exact⟨rfl,⟨rfl,⟨rfl,trivial⟩⟩⟩) (by rfl)) (G2 (a3m k7 (a8 (a7 4) b9))) (fun _ _ _ _=>(c8 0 (show((["one","gained","others","last"]:List Str)++[accN]).Nodup by decide +kernel))) (fun _ _ _ _=>(G7 rfl (a1L (a0q (a0E (a2h (a4b (a7 2) (a7 0)) a9)) (S2 (a8k hr (u7 (a8 (a7 0) (a8 (a7 3) b9))) (a7 1))))))) (fun _ _ _ _=>(a7 0))))
  (c5 (K0 7 nd (B8 (N:=["one","gained","most","last","others"]) (js:=[none,some 1,some 2,some 4,some 5]) (li:=none) rfl (u6 (by exact(.own (.cap rfl rfl rfl rfl (.cap rfl rfl rfl rfl (.cap rfl rfl rfl rfl (.cap rfl rfl rfl rfl .nil)))))) rfl (by exact⟨rfl,⟨rfl,⟨rfl,⟨rfl,trivial⟩⟩⟩⟩) (by rfl)) (E5 6) (fun _ _ _ _=>(c8 0 (show((["one","gained","most","last","others"]:List Str)++[accN]).Nodup by decide +kernel))) (fun _ _ _ _=>B4) (fun _ _ _ _=>(q9 (j0 hr (a7 1) (u7 (a8 (a7 0) (a8 (a7 3) b9)))) (j0 hr (a7 2) (w5 (a7 4) (J0 a9 (a7 0))))))))
  (c6 (J4 (V9 (a7 2) (a8 (qx_b (a1b rfl) a4y m_max (a8 (q9 (w4 (a8 (j0 hr (a7 2) (a7 5)) b9)) (a7 7)) b9)) b9)))))))))
  (c6 (j8 (a7 2))))))),?_⟩
 intro n ts hw;have co:=D2 hw;have hn:=hw.n1;have eg:=N4 n ts hw;have lg:lfL (ts.map fun t=>D.int t.2.2)=true:=t4 fun x hx=>by obtain⟨t,_,rfl⟩:=zE.mp hx;rfl
 have cpn:CPow 1 n:=⟨by walk_at "o",by walk_at "o",by decide⟩
 have p8:(2:Nat)^n.toNat<=2^8:=jE (by decide) (by walk_at "o")
 have p1:=qT (n:=n.toNat);obtain⟨N,eN⟩:∃N:Nat,2^n.toNat=N:=⟨_,rfl⟩;have eI:(1:Int)*2^n.toNat=(N:Int):=by rw[Int.one_mul,<-eN,xF];rfl
 rw[eN] at p8 p1 ⊢;have r1:((-(2^62:Int)<=1/\(1:Int)<2^62)/\-(2^62:Int)<=(N:Int)/\(N:Int)<2^62):=by walk_at "o"
 have gi:=fun a c:Int=>a51 ts a c;have gx:=fun(a c:Int) (h:[a,c]∈ts.map key2)=>a5J hw.nk h;unfold webD at eg ⊢
 repeat(first|walk_at "z r" | simp only[eg,lg,cpn,eI,r1])
 generalize ts.map tkK=KK at gi gx ⊢;generalize (ts.map fun t=>D.int t.2.2)=VV at gi gx lg ⊢;generalize el:loopF _ _ _=r;refine U1 el (fun i ρ=>∃(ys:List Int) (o3 o4 o5:Option D) (x6 x7:Option W),ρ=[some (.v (.tup [.int n,.tup (ts.map tieD)])),some (.o (.dT KK VV)),some (.o (.lst (ys.map .int))),o3.map .v,o4.map .v,o5.map .v,x6,x7]/\freeO x6=true/\freeO x7=true/\ys.length=i+1/\MstE n ts ys) ⟨[0],none,none,none,none,none,rfl,rfl,rfl,rfl,?_⟩ ?_ ?_
 ·intro bs hl hv;have h0:val bs=0:=by simp at hv;exact hv
  rw[a7S h0,h0];refine⟨⟨[],⟨fun k hk=>(by cases hk),List.Perm.refl _⟩,rfl⟩,fun q hq=>?_⟩
  rw[b1W co hq];exact jS _
 ·rintro i x _ hx ⟨ys,o3,o4,o5,x6,x7,rfl,f6,f7,yl,hm⟩;obtain⟨rfl,hi⟩:=a2b hx;obtain⟨bs,bl,bv⟩:=a40 n.toNat (1+i) (by walk_at "o")
  have eh:(1:Int)+(i:Int)=((val bs:Nat):Int):=by walk_at "o"
  rw[eh];obtain⟨l,el1,l2,l3⟩:=a6g (bs:=bs) (by walk_at "o")
  have ll:l<n.toNat:=by
   rcases Nat.lt_or_ge l n.toNat with z|z
   ·exact z
   ·rw[zS,jI (by walk_at "o")] at l2;cases l2
  obtain⟨la,ela⟩:∃la:Int,(l:Int)=la:=⟨_,rfl⟩;have etl:l=la.toNat:=by walk_at "o"
  rw[ela] at el1;rw[etl] at l2;have hla:la∈perB n.toNat bs:=zM.mpr ⟨n8.mpr (by walk_at "o"),l2⟩
  have hmx:∀x∈perB n.toNat bs,x<=la:=fun x hx=>by
   obtain⟨h1,h2⟩:=zM.mp hx
   have:=n8.mp h1
   rcases Int.lt_or_le la x with z|z
   ·rw[l3 x.toNat (by walk_at "o")] at h2;cases h2
   ·exact z
  have cl:CPow 1 la:=⟨by walk_at "o",by walk_at "o",by decide⟩
  have e1:=b0R (bs:=bs) (p:=la) l2;have v1:=D1 bs la.toNat l2;have pc:=M5 (n:=n.toNat) (bs:=bs) (p:=la) (by walk_at "o")
  obtain⟨b1,eb1⟩:∃b1,bs.set la.toNat false=b1:=⟨_,rfl⟩;have bl1:b1.length=n.toNat:=by rw[<-eb1,qK];exact bl
  rw[eb1] at e1 v1 pc;have tl:=qT (n:=la.toNat);have a1:=a11 (ns:=ys) (i:=((val b1:Nat):Int)) (by walk_at "o") (by walk_at "o")
  rw[qN] at a1;obtain⟨⟨q1,hq1,wq1⟩,m1⟩:=hm b1 bl1 (by walk_at "o")
  have single:[la]∈sortK (parK n ts):=(g5 _).mem_iff.mpr (xV _ (zE.mpr ⟨la.toNat,xU.mpr (by walk_at "o"),by rw[jN (by walk_at "o")]⟩))
  have r3:(-(2^62:Int)<=la/\la<2^62):=by walk_at "o"
  have hlen:ys.length<1000000:=by walk_at "o"
  have pm:=a67 b1 ts la;have lp:=m4 (parB b1 ts la);have tm:=a7O ts ys b1 la (parB b1 ts la);have lt:=m4 ((parB b1 ts la).map (tieG ts ys b1 la));have ly:=m4 ys;have pl:(parB b1 ts la).length<=8:=by
   refine zP (jK _ _) ?_;rw[Q2];walk_at "o"
  have inP:∀o:Int,o∈parB b1 ts la↔(0<=o/\o<la)/\b1.getD o.toNat false=true/\[o,la]∈ts.map key2:=fun o=>by
   unfold parB;rw[zM,n8,qF,qO];constructor
   ·rintro⟨h1,h2,h3⟩;exact⟨by walk_at "o",h2,h3⟩
   ·rintro⟨h1,h2,h3⟩;exact⟨by walk_at "o",h2,h3⟩
  obtain⟨Fs,eFs⟩:∃Fs:List Int,ys.getD (val b1) 0::(parB b1 ts la).map (tieG ts ys b1 la)=Fs:=⟨_,rfl⟩;have Fp:0<Fs.length:=by rw[<-eFs,qC];exact Nat.succ_pos _
  obtain⟨fm,fu⟩:=a3y Fp;have om:=a7C (ns:=Fs) Fp;obtain⟨fo,efo⟩:∃fo:Int,maxI Fs=fo:=⟨_,rfl⟩;rw[efo] at om fm fu;have eL:[D.int (ys.getD (val b1) 0)]++((parB b1 ts la).map (tieG ts ys b1 la)).map .int=Fs.map .int:=by rw[<-eFs];rfl
  have eL':D.int (ys.getD (val b1) 0)::((parB b1 ts la).map (tieG ts ys b1 la)).map .int=Fs.map .int:=by rw[<-eFs];rfl
  have Ll2:1+(parB b1 ts la).length<=1000000:=by walk_at "o"
  have Ll:1+(((parB b1 ts la).map (tieG ts ys b1 la)).map D.int).length<=1000000:=by rw[zC,zC];walk_at "o"
  have step:∀o∈parB b1 ts la,(∃q2,PgOk (sortK (parK n ts)) (perB n.toNat (b1.set o.toNat false)) q2/\wK ts q2=ys.getD (val (b1.set o.toNat false)) 0)/\PgOk (sortK (parK n ts)) (perB n.toNat bs) []=PgOk (sortK (parK n ts)) (perB n.toNat bs) []:=fun o ho=>by
   obtain⟨h1,h2,h3⟩:=(inP o).mp ho;have v2:=D1 b1 o.toNat h2;have tq:=qT (n:=o.toNat);exact⟨(hm (b1.set o.toNat false) (by rw[qK];exact bl1) (by walk_at "o")).1,rfl⟩
  have low:∃q,PgOk (sortK (parK n ts)) (perB n.toNat bs) q/\wK ts q=fo:=by
   rw[<-eFs] at fm;rcases zK.mp fm with z|z
   ·exact⟨[la]::q1,a02 co single (T5 _ _) (fun x hx=>by rw[zN.mp hx];exact hla) (by rw[pc];exact hq1),by rw[w8,j5,wq1];walk_at "o"⟩
   ·obtain⟨o,ho,eo⟩:=zE.mp z;obtain⟨h1,h2,h3⟩:=(inP o).mp ho;obtain⟨⟨q2,hq2,wq2⟩,_⟩:=step o ho;have pc2:=N6 (n:=n.toNat) (bs:=bs) (p:=la) (o:=o) (by walk_at "o") (by walk_at "o")
    rw[eb1] at pc2;have hom:o∈perB n.toNat bs:=by
     have:o∈perB n.toNat b1:=zM.mpr ⟨n8.mpr (by walk_at "o"),h2⟩
     rw[<-pc] at this;exact(zM.mp this).1
    refine⟨[o,la]::q2,a02 co ((g5 _).mem_iff.mpr (qE _ h3)) (T5 _ _) (fun x hx=>?_) (by rw[pc2];exact hq2),by rw[w8,wq2];exact eo⟩
    rcases(by simpa using hx:x=o\/x=la) with rfl|rfl
    ·exact hom
    ·exact hla
  have top:∀q,PgOk (sortK (parK n ts)) (perB n.toNat bs) q->wK ts q<=fo:=a8G hw hla hmx (by
   rw[eb1];exact fun q hq=>Int.le_trans (m1 q hq) (fu _ (by rw[<-eFs];exact zG))) (by
   rw[eb1];intro o ho hol hk q hq;have o0:=(n8.mp (zM.mp ho).1).1;have hb:b1.getD o.toNat false=true:=by
    have:o∈perB n.toNat b1:=by
     rw[<-pc];exact zM.mpr ⟨ho,zL (by simp;walk_at "o")⟩
    exact(zM.mp this).2
   have hk2:[o,la]∈ts.map key2:=by
    rcases j7.mp hk with ⟨j,_,e⟩|z
    ·cases e
    ·exact z
   have v2:=D1 b1 o.toNat hb;have tq:=qT (n:=o.toNat);have h3:=(hm (b1.set o.toNat false) (by rw[qK];exact bl1) (by walk_at "o")).2 q hq
   have h4:=fu (tieG ts ys b1 la o) (by rw[<-eFs];exact zJ _ (zE.mpr ⟨o,(inP o).mpr ⟨⟨o0,hol⟩,hb,hk2⟩,rfl⟩))
   unfold tieG at h4
   walk_at "o")
  refine⟨_,?_,ys++[fo],some (.int (val bs:Nat)),some (.int la),some (.int (val b1:Nat)),some (.o (.lst ((parB b1 ts la).map .int))),some (.o (.lst (((parB b1 ts la).map (tieG ts ys b1 la)).map .int))),rfl,rfl,rfl,by rw[qB,yl];rfl,fun cs hcl hcv=>?_⟩
  ·rw[jQ]
   repeat(first|walk_at "z r" | simp only[a35,el1,cl,e1,r3,f6])
   rw[l5 (ρ1:=[some (.v (.tup [.int n,.tup (ts.map tieD)])),some (.o (.dT KK VV)),some (.o (.lst (ys.map .int))),some (.v (.int (val bs:Nat))),some (.v (.int la)),some (.v (.int (val b1:Nat))),x6,x7]) (xs:=rngD 0 la.toNat) (fun B=>∃o1:Option D,B=[o1.map .v,some (.v (.dT KK VV)),some (.v (.int (val b1:Nat))),some (.v (.int la))]) (hasP b1 ts la) id]
   ·rw[pm]
    repeat(first|walk_at "z r" | simp only[f6,f7,lp])
    rw[l5 (ρ1:=[some (.v (.tup [.int n,.tup (ts.map tieD)])),some (.o (.dT KK VV)),some (.o (.lst (ys.map .int))),some (.v (.int (val bs:Nat))),some (.v (.int la)),some (.v (.int (val b1:Nat))),some (.o (.lst ((parB b1 ts la).map .int))),x7]) (xs:=(parB b1 ts la).map .int) (fun B=>∃o1:Option D,B=[o1.map .v,some (.v (.dT KK VV)),some (.v (.lst (ys.map .int))),some (.v (.int la)),some (.v (.int (val b1:Nat)))]) (fun _=>true) (tieF ts ys b1 la)]
    ·rw[tm]
     repeat(first|walk_at "z r" | simp only[f7,lt,a1,Ll,Ll2,eL,eL',om,zC,hlen])
    ·repeat(first|walk_at "z r" | simp only[lp])
    ·rintro _ ⟨_,rfl⟩;rfl
    ·exact⟨none,rfl⟩
    ·rw[zC];unfold lim;walk_at "o"
    ·rw[tm];exact lt
    ·rintro x hx _ zs ⟨o1,rfl⟩;obtain⟨o,ho,rfl⟩:=zE.mp hx;obtain⟨h1,h2,h3⟩:=(inP o).mp ho;have g1:=gx o la h3;have cq:CPow 1 o:=⟨by walk_at "o",by walk_at "o",by decide⟩
     have e2:=b0R (bs:=b1) (p:=o) h2;have v2:=D1 b1 o.toNat h2;have tq:=qT (n:=o.toNat);have a2:=a11 (ns:=ys) (i:=((val (b1.set o.toNat false):Nat):Int)) (by walk_at "o") (by walk_at "o")
     rw[qN] at a2;refine⟨[some (.v (.int o)),some (.v (.dT KK VV)),some (.v (.lst (ys.map .int))),some (.v (.int la)),some (.v (.int (val b1:Nat)))],.v (.int (tieG ts ys b1 la o)),⟨some _,rfl⟩,?_,rfl,fun _=>⟨?_,.inl rfl⟩⟩
     ·walk_at "q"
     ·unfold tieG
      repeat(first|walk_at "z r" | simp only[g1,cq,e2,a2])
   ·repeat(first|walk_at "z r" | simp only[r3])
   ·rintro _ ⟨_,rfl⟩;rfl
   ·exact⟨none,rfl⟩
   ·rw[U9];unfold lim;walk_at "o"
   ·rw[pm];exact lp
   ·rintro x hx _ zs ⟨o1,rfl⟩;obtain⟨p,rfl,hp⟩:=a0e hx;have cj:(0:Int)<=p:=hp.1;have bi:=a31 b1 p.toNat;have gip:=gi p la;have h01:(!decide ((0:Int)=0))=false:=rfl;have h11:(!decide ((1:Int)=0))=true:=rfl;refine⟨[some (.v (.int p)),some (.v (.dT KK VV)),some (.v (.int (val b1:Nat))),some (.v (.int la))],.v (.int p),⟨some _,rfl⟩,?_,?_,fun _=>⟨?_,.inl rfl⟩⟩
    ·walk_at "q"
    ·rw[show hasP b1 ts la (.int p)=(b1.getD p.toNat false&&decide ([p,la]∈ts.map key2)) from rfl];cases hb:b1.getD p.toNat false with
     | false=>
      rw[hb,if_neg (by decide)] at bi
      repeat(first|walk_at "z r" | simp only[cj,bi,a1z,h01,jZ])
     | true=>
      rw[hb,if_pos rfl] at bi
      repeat(first|walk_at "z r" | simp only[cj,bi,a1z,h11,gip,xI])
    ·walk_at "q"
  ·rw[qB,xM] at hcv;rw[zS]
   by_cases z:val cs<ys.length
   ·rw[qA z,<-zS];exact hm cs hcl z
   ·have ev:val cs=val bs:=by walk_at "o"
    rw[a0h (by walk_at "o") ev,qG (by walk_at "o"),show val bs-ys.length=0 by walk_at "o"]
    exact⟨low,top⟩
 ·rintro _ rfl ⟨ys,o3,o4,o5,x6,x7,rfl,f6,f7,yl,hm⟩;rw[U9] at yl;have ly:=m4 ys;refine⟨ys,by walk_at "o",hm,?_⟩
  repeat(first|walk_at "z r" | simp only[ly])
structure DOk (n:Int) (xs:List Int) (A:Int) (m:List (Int×Int)):Prop where
 nd:(m.map (·.1)).Nodup
 up:∀k v,lookM m k=some v->0<=v/\∃bs:List Bool,bs.length=n.toNat/\k=(val bs:Nat)/\2*v<=A+dot bs xs
def LoK (m:List (Int×Int)) (k L:Int):Prop:=∃v,lookM m k=some v/\L<=v
theorem DOk.put {n A s:Int}{xs:List Int}{m:List (Int×Int)}{bs:List Bool}(h:DOk n xs A m)(hl:bs.length=n.toNat)(s0:0<=s)(hs:2*s<=A+dot bs xs):DOk n xs A (putM m (val bs:Nat) (if s>(lookM m (val bs:Nat)).getD 0 then s else(lookM m (val bs:Nat)).getD 0)):=by
 refine⟨R8 h.nd,fun k v e=>?_⟩;rw[F4] at e
 by_cases ek:((val bs:Nat):Int)=k
 ·rw[if_pos ek] at e;cases e
  split
  ·exact⟨s0,bs,hl,ek.symm,hs⟩
  ·cases eo:lookM m (val bs:Nat) with
   | none=>rw[getD_none];exact⟨jS _,bs,hl,ek.symm,by walk_at "o"⟩
   | some u=>
    obtain⟨u0,bs',h1,h2,h3⟩:=h.up _ u eo;rw[getD_some];exact⟨u0,bs',h1,by rw[<-ek];exact h2,h3⟩
 ·rw[if_neg ek] at e;exact h.up k v e
theorem LoK.put {m:List (Int×Int)}{k L s b:Int}(h:LoK m k L):LoK (putM m b (if s>(lookM m b).getD 0 then s else(lookM m b).getD 0)) k L:=by
 obtain⟨v,e,hv⟩:=h;unfold LoK;rw[F4]
 by_cases ek:b=k
 ·rw[if_pos ek,ek,e,getD_some];exact⟨_,rfl,by split<;>walk_at "o"⟩
 ·rw[if_neg ek];exact⟨v,e,hv⟩
theorem LoK.new {m:List (Int×Int)}{L s b:Int}(h:L<=s):LoK (putM m b (if s>(lookM m b).getD 0 then s else(lookM m b).getD 0)) b L:=by
 unfold LoK;rw[F4,if_pos rfl];exact⟨_,rfl,by split<;>walk_at "o"⟩
theorem DOk.len {n A:Int}{xs:List Int}{m:List (Int×Int)}(h:DOk n xs A m)(hn:n<=8):m.length<=256:=by
 have nd:(m.map fun p=>p.1.toNat).Nodup:=by
  have h1:=h.nd;unfold List.Nodup at *;rw[jB] at h1 ⊢;refine xP ?_ h1;intro a b ha hb hab e;obtain⟨u,eu⟩:=t7 (zE.mpr ⟨a,ha,rfl⟩);obtain⟨_,bs,_,e1,_⟩:=h.up _ u eu;obtain⟨v,ev⟩:=t7 (zE.mpr ⟨b,hb,rfl⟩);obtain⟨_,bs',_,e2,_⟩:=h.up _ v ev;exact hab (by walk_at "o")
 have:=O0 (n:=256) nd fun x hx=>by
  obtain⟨a,ha,rfl⟩:=zE.mp hx;obtain⟨u,eu⟩:=t7 (zE.mpr ⟨a,ha,rfl⟩);obtain⟨_,bs,hl,e1,_⟩:=h.up _ u eu;have h1:=a2o bs;have h2:(2:Nat)^bs.length<=2^8:=jE (by decide) (by walk_at "o")
  walk_at "o"
 rwa [zC] at this
def Bs (n:Nat) (l:List Int):List Bool:=(List.range n).map fun(p:Nat)=>decide ((p:Int)∈l)
theorem K1 (n:Nat)(l:List Int):(Bs n l).length=n:=by unfold Bs;simp
theorem a2t {n p:Nat}{l:List Int}(h:p<n):(Bs n l).getD p false=decide ((p:Int)∈l):=by
 unfold Bs;rw[zS,qH,getElem?_range h];rfl
theorem a7E {n i:Nat}{l:List Int}(h:i<(Bs n l).length):(Bs n l)[i]=decide ((i:Int)∈l):=by
 have:=a2t (l:=l) (show i<n by rw[K1] at h;exact h)
 rw[zS,qL h] at this;exact this
theorem b1D {n:Nat}{l:List Int}{q:Int}(h0:0<=q)(h:q<n):(Bs n l).set q.toNat true=Bs n (l++[q]):=by
 apply ext_getElem
 ·rw[qK,K1,K1]
 ·intro i h1 h2;rw[qK,K1] at h1;rw[getElem_set,a7E,a7E]
  by_cases e:q.toNat=i
  ·rw[if_pos e]
   have:(i:Int)=q:=by walk_at "o"
   rw[this];simp
  ·rw[if_neg e]
   have:(i:Int)≠q:=by walk_at "o"
   simp[this]
theorem a3W (n:Nat):val (Bs n [])=0:=a3u fun p=>by
 by_cases h:p<n
 ·rw[a2t h];simp
 ·rw[zS,jI (by rw[K1];walk_at "o")];rfl
theorem a9f {n:Nat}{l:List Int}(h:l.Perm (up n)):Bs n l=List.replicate n true:=by
 apply ext_getElem
 ·rw[K1,length_replicate]
 ·intro i h1 h2;rw[K1] at h1;rw[a7E,List.getElem_replicate];exact zL (h.mem_iff.mpr (n8.mpr (by walk_at "o")))
def ahd (i:Int) (q:List (List Int)):List (List Int):=q.filter fun k=>decide (k.headD 0<i)
theorem a0g {n:Int}{ts:List Tie}(hw:WebOk n ts){k:List Int}(hk:k∈parK n ts):0<=k.headD 0/\k.headD 0<n/\k.headD 0∈k/\∀x∈k,k.headD 0<=x:=by
 rcases j7.mp hk with ⟨i,hi,rfl⟩|z
 ·refine⟨by show(0:Int)<=i;walk_at "o",by show(i:Int)<n;walk_at "o",zG,fun x hx=>?_⟩
  rw[zN.mp hx];exact jS _
 ·obtain⟨t,ht,rfl⟩:=zE.mp z;have h:=hw.t t ht;refine⟨h.1,by show t.1<n;walk_at "o",zG,fun x hx=>?_⟩
  show t.1<=x;rcases zK.mp hx with rfl|z
  ·exact jS _
  ·rw[zN.mp z];walk_at "o"
theorem ahd_0 {n:Int}{ts:List Tie}{q:List (List Int)}(hw:WebOk n ts)(h:∀k∈q,k∈sortK (parK n ts)):ahd 0 q=[]:=List.filter_eq_nil_iff.mpr fun k hk=>by
 have:=a0g hw ((g5 _).mem_iff.mp (h k hk))
 simp only[qO];walk_at "o"
theorem ahd_n {n:Int}{ts:List Tie}{q:List (List Int)}(hw:WebOk n ts)(h:∀k∈q,k∈sortK (parK n ts)):ahd n q=q:=List.filter_eq_self.mpr fun k hk=>by
 have:=a0g hw ((g5 _).mem_iff.mp (h k hk))
 exact zL this.2.1
theorem a0D {i:Int}{q r:List (List Int)}(p:q.Perm r):(ahd i q).Perm (ahd i r):=p.filter _
theorem a0l (i:Int)(k:List Int)(q:List (List Int)):ahd i (k::q)=if k.headD 0<i then k::ahd i q else ahd i q:=by
 unfold ahd;rw[yE];simp only[qO]
theorem a64 {i:Int}{q:List (List Int)}(h:∀k∈q,k.headD 0≠i):ahd (i+1) q=ahd i q:=filter_congr fun k hk=>by
 have:=h k hk
 rw[Bool.eq_iff_iff,qO,qO];walk_at "o"
theorem a7z {n i:Int}{ts:List Tie}{q:List (List Int)}(hw:WebOk n ts)(h0:0<=i)(h1:i<n)(hq:PgOk (sortK (parK n ts)) (up n.toNat) q):(ahd (i+1) q=ahd i q/\i∈(ahd i q).flatten)\/∃k∈parK n ts,k.headD 0=i/\(ahd (i+1) q).Perm (k::ahd i q)/\∀x∈k,0<=x/\x<n/\x∉(ahd i q).flatten:=by
 have nd:(up n.toNat).Nodup:=by
  unfold List.Nodup up;rw[jB];exact nodup_range.imp fun h e=>h (by walk_at "o")
 obtain⟨k,hk,hik⟩:=xD.mp (hq.perm.mem_iff.mpr (n8.mpr (show 0<=i/\i<(n.toNat:Int) by walk_at "o")))
 obtain⟨r1,r2,r3⟩:=hq.take (D2 hw) nd hk;have hkp:=(g5 _).mem_iff.mp (hq.mem k hk);obtain⟨g1,g2,g3,g4⟩:=a0g hw hkp;have far:∀k'∈q.erase k,∀x∈k',x∉k:=fun k' hk' x hx=>by
  have:=r1.perm.mem_iff.mp (xD.mpr ⟨k',hk',hx⟩)
  exact qM (zM.mp this).2
 have ne:∀k'∈q.erase k,k'.headD 0≠i:=fun k' hk' e=>by
  have:=(a0g hw ((g5 _).mem_iff.mp (r1.mem k' hk'))).2.2.1
  rw[e] at this;exact far k' hk' i this hik
 by_cases e:k.headD 0=i
 ·refine .inr ⟨k,hkp,e,?_,fun x hx=>?_⟩
  ·have p1:=a0D (i:=i+1) r2;have p2:=a0D (i:=i) r2;rw[a0l,if_pos (by walk_at "o"),a64 ne] at p1
   rw[a0l,if_neg (by walk_at "o")] at p2
   exact p1.trans (List.Perm.cons k p2.symm)
  ·have:=n8.mp (r3 x hx)
   refine⟨this.1,by walk_at "o",fun z=>?_⟩
   have p2:=a0D (i:=i) r2;rw[a0l,if_neg (by walk_at "o")] at p2
   have z:=p2.flatten.mem_iff.mp z;obtain⟨k',hk',hx'⟩:=xD.mp z;exact far k' (zM.mp hk').1 x hx' hx
 ·have hlt:k.headD 0<i:=by have:=g4 i hik;walk_at "o"
  refine .inl ⟨a64 fun k' hk'=>?_,xD.mpr ⟨k,zM.mpr ⟨hk,zL hlt⟩,hik⟩⟩;rcases zK.mp (r2.mem_iff.mp hk') with rfl|z
  ·exact e
  ·exact ne k' z
theorem a0z {n:Nat}{l m:List Int}(h:∀x,x∈l↔x∈m):Bs n l=Bs n m:=by
 unfold Bs;refine jG fun p _=>?_;rw[Bool.eq_iff_iff,qO,qO];exact h p
theorem a3Y {n:Nat}{l:List Int}{q:Int}(h0:0<=q)(h:q<n):(Bs n l).set q.toNat true=Bs n (q::l):=by
 rw[b1D h0 h];refine a0z fun x=>?_;rw[jA,zN,zK];exact Or.comm
theorem a0S {bs:List Bool}{p:Nat}(h:bs.getD p false=false):(bs.set p true).set p false=bs:=by
 apply ext_getElem
 ·rw[qK,qK]
 ·intro i h1 h2;rw[getElem_set,getElem_set]
  by_cases e:p=i
  ·subst e;rw[if_pos rfl];rw[zS,qL h2] at h;exact h.symm
  ·rw[if_neg e,if_neg e]
theorem a2G {bs:List Bool}{p i:Nat}:(bs.set p true).getD i false=((decide (i=p)&&decide (p<bs.length))||bs.getD i false):=by
 rw[zS,zS,getElem?_set]
 by_cases e:p=i
 ·subst e
  by_cases h:p<bs.length
  ·simp[h]
  ·simp[h]
 ·have:¬i=p:=fun z=>e z.symm
  simp[e,this]
theorem a2R {bs:List Bool}{p:Nat}(h:bs.getD p false=true):bs.set p true=bs:=by
 apply ext_getElem
 ·rw[qK]
 ·intro i h1 h2;rw[getElem_set]
  by_cases e:p=i
  ·subst e;rw[if_pos rfl];rw[zS,qL h2] at h;exact h.symm
  ·rw[if_neg e]
structure SOk (n:Int) (ts:List Tie) (i:Nat) (m:List (Int×Int)):Prop where
 nd:(m.map (·.1)).Nodup
 up:∀k v,lookM m k=some v->0<=v/\∃(bs:List Bool) (q:List (List Int)),bs.length=n.toNat/\k=(val bs:Nat)/\(∀p,p<i->bs.getD p false=true)/\PgOk (sortK (parK n ts)) (perB n.toNat bs) q/\wK ts q=v
theorem SOk.put {n s:Int}{ts:List Tie}{i:Nat}{m:List (Int×Int)}{bs:List Bool}{q:List (List Int)}(h:SOk n ts i m)(hl:bs.length=n.toNat)(s0:0<=s)(hb:∀p,p<i->bs.getD p false=true)(hq:PgOk (sortK (parK n ts)) (perB n.toNat bs) q)(hs:wK ts q=s):SOk n ts i (putM m (val bs:Nat) (if s>(lookM m (val bs:Nat)).getD 0 then s else(lookM m (val bs:Nat)).getD 0)):=by
 refine⟨R8 h.nd,fun k v e=>?_⟩;rw[F4] at e
 by_cases ek:((val bs:Nat):Int)=k
 ·rw[if_pos ek] at e;cases e
  by_cases c:s>(lookM m (val bs:Nat)).getD 0
  ·rw[if_pos c];exact⟨s0,bs,q,hl,ek.symm,hb,hq,hs⟩
  ·rw[if_neg c];cases eo:lookM m (val bs:Nat) with
   | none=>
    rw[eo,getD_none] at c;rw[getD_none];exact⟨jS _,bs,q,hl,ek.symm,hb,hq,by walk_at "o"⟩
   | some u=>
    obtain⟨u0,bs',q',h1,h2,h3⟩:=h.up _ u eo;rw[getD_some];exact⟨u0,bs',q',h1,by rw[<-ek];exact h2,h3⟩
 ·rw[if_neg ek] at e;exact h.up k v e
theorem SOk.len {n:Int}{ts:List Tie}{i:Nat}{m:List (Int×Int)}(h:SOk n ts i m)(hn:n<=8):m.length<=256:=by
 have nd:(m.map fun p=>p.1.toNat).Nodup:=by
  have h1:=h.nd;unfold List.Nodup at *;rw[jB] at h1 ⊢;refine xP ?_ h1;intro a b ha hb hab e;obtain⟨u,eu⟩:=t7 (zE.mpr ⟨a,ha,rfl⟩);obtain⟨_,bs,_,_,e1,_⟩:=h.up _ u eu;obtain⟨v,ev⟩:=t7 (zE.mpr ⟨b,hb,rfl⟩);obtain⟨_,bs',_,_,e2,_⟩:=h.up _ v ev;exact hab (by walk_at "o")
 have:=O0 (n:=256) nd fun x hx=>by
  obtain⟨a,ha,rfl⟩:=zE.mp hx;obtain⟨u,eu⟩:=t7 (zE.mpr ⟨a,ha,rfl⟩);obtain⟨_,bs,_,hl,e1,_⟩:=h.up _ u eu;have h1:=a2o bs;have h2:(2:Nat)^bs.length<=2^8:=jE (by decide) (by walk_at "o")
  walk_at "o"
 rwa [zC] at this
def aheadT (bs:List Bool) (p:Int) (ts:List Tie):List Tie:=ts.filter fun t=>(t.1==p) && !bs.getD t.2.1.toNat false
def opsL (bs:List Bool) (p:Int) (ts:List Tie):List (Nat×Int):=(val (bs.set p.toNat true),0)::if bs.getD p.toNat false=true then[] else(aheadT bs p ts).map fun t=>(val ((bs.set t.1.toNat true).set t.2.1.toNat true),t.2.2)
def opD (o:Nat×Int):D:=.tup [.int (o.1:Nat),.int o.2]
theorem b0X {n p v:Int}{ts:List Tie}{bs:List Bool}{q:List (List Int)}(hw:WebOk n ts)(p0:0<=p)(p1:p<n)(hl:bs.length=n.toNat)(hb:∀j,j<p.toNat->bs.getD j false=true)(hq:PgOk (sortK (parK n ts)) (perB n.toNat bs) q)(hv:wK ts q=v):∀o∈opsL bs p ts,0<=o.2/\∃(bs':List Bool) (q':List (List Int)),bs'.length=n.toNat/\o.1=val bs'/\(∀j,j<p.toNat+1->bs'.getD j false=true)/\PgOk (sortK (parK n ts)) (perB n.toNat bs') q'/\wK ts q'=v+o.2:=by
 intro o ho;have co:=D2 hw;have put:∀j,j<p.toNat+1->(bs.set p.toNat true).getD j false=true:=fun j hj=>by
  rw[a2G]
  by_cases e:j=p.toNat
  ·rw[zL e,zL (show p.toNat<bs.length by walk_at "o")];rfl
  ·rw[hb j (by walk_at "o")];simp
 unfold opsL at ho;rcases zK.mp ho with rfl|z
 ·refine⟨jS _,bs.set p.toNat true,?_⟩
  by_cases hp:bs.getD p.toNat false=true
  ·exact⟨q,by rw[qK];exact hl,rfl,put,by rw[a2R hp];exact hq,by walk_at "o"⟩
  ·have hp:bs.getD p.toNat false=false:=by simpa using hp
   refine⟨[p]::q,by rw[qK];exact hl,rfl,put,a02 co ((g5 _).mem_iff.mpr (j7.mpr (.inl ⟨p.toNat,by walk_at "o",by rw[jN p0]⟩))) (T5 _ _) (fun x hx=>?_) ?_,by rw[w8,j5];walk_at "o"⟩
   ·rw[zN.mp hx];exact zM.mpr ⟨n8.mpr (by walk_at "o"),put _ (by walk_at "o")⟩
   ·rw[M5 p0,a0S hp];exact hq
 ·split at z
  ·cases z
  ·rename_i hp;have hp:bs.getD p.toNat false=false:=by simpa using hp
   obtain⟨t,ht,rfl⟩:=zE.mp z;obtain⟨t1,t2⟩:=zM.mp ht;rw[qF,yB] at t2;obtain⟨e,hc⟩:=t2;have hc:bs.getD t.2.1.toNat false=false:=by simpa using hc
   have h:=hw.t t t1;rw[e] at h ⊢;have hcp:(bs.set p.toNat true).getD t.2.1.toNat false=false:=by
    rw[a2G,hc,zO (by walk_at "o")];rfl
   have g2:∀j,((bs.set p.toNat true).set t.2.1.toNat true).getD j false=((decide (j=t.2.1.toNat)&&decide (t.2.1.toNat<bs.length))||(bs.set p.toNat true).getD j false):=fun j=>by rw[a2G,qK]
   refine⟨by show 0<=t.2.2;walk_at "o",(bs.set p.toNat true).set t.2.1.toNat true,[p,t.2.1]::q,by rw[qK,qK];exact hl,rfl,fun j hj=>by rw[g2,put j hj];simp,a02 co ((g5 _).mem_iff.mpr (j7.mpr (.inr (zE.mpr ⟨t,t1,by unfold key2;rw[e]⟩)))) (T5 _ _) (fun x hx=>?_) ?_,?_⟩
   ·rcases(by simpa using hx:x=p\/x=t.2.1) with rfl|rfl
    ·exact zM.mpr ⟨n8.mpr (by walk_at "o"),by rw[g2,put _ (by walk_at "o")];simp⟩
    ·exact zM.mpr ⟨n8.mpr (by walk_at "o"),by rw[g2,zL rfl,zL (by walk_at "o")];rfl⟩
   ·rw[N6 (by walk_at "o") p0,a0S hcp,a0S hp];exact hq
   ·rw[w8,hv,show gainOf ts [p,t.2.1]=t.2.2 by rw[<-e];exact m8 hw.nk t1]
    show t.2.2+v=v+t.2.2;walk_at "o"
theorem b1d {n p:Int}{ts:List Tie}{q:List (List Int)}(hw:WebOk n ts)(p0:0<=p)(p1:p<n)(hq:PgOk (sortK (parK n ts)) (up n.toNat) q):(val (Bs n.toNat (ahd (p+1) q).flatten),wK ts (ahd (p+1) q)-wK ts (ahd p q))∈opsL (Bs n.toNat (ahd p q).flatten) p ts:=by
 rcases a7z hw p0 p1 hq with ⟨e,hi⟩|⟨k,hk,e,pm,hx⟩
 ·rw[e,Int.sub_self]
  have:(Bs n.toNat (ahd p q).flatten).getD p.toNat false=true:=by
   rw[a2t (by walk_at "o"),jN p0];exact zL hi
  unfold opsL;rw[a2R this];exact zG
 ·have ew:wK ts (ahd (p+1) q)-wK ts (ahd p q)=gainOf ts k:=by rw[O2 pm,w8];walk_at "o"
  have no:∀x∈k,(Bs n.toNat (ahd p q).flatten).getD x.toNat false=false:=fun x hx'=>by
   obtain⟨h0,h1,h2⟩:=hx x hx';rw[a2t (by walk_at "o"),jN h0];exact zO h2
  rw[ew];have ef:∀x,x∈(ahd (p+1) q).flatten↔x∈k++(ahd p q).flatten:=fun x=>by
   rw[pm.flatten.mem_iff,xQ]
  rw[a0z ef];rcases j7.mp hk with ⟨j,hj,rfl⟩|z
  ·have e:(j:Int)=p:=e;rw[j5,show[(j:Int)]++(ahd p q).flatten=p::(ahd p q).flatten by rw[e];rfl,<-a3Y p0 (by walk_at "o")]
   exact zG
  ·obtain⟨t,ht,rfl⟩:=zE.mp z;have e:t.1=p:=e;have h:=hw.t t ht;have n1:=no t.1 (by unfold key2;simp)
   have n2:=no t.2.1 (by unfold key2;simp)
   rw[e] at n1;unfold opsL;rw[if_neg (by rw[n1];decide)]
   refine zJ _ (zE.mpr ⟨t,zM.mpr ⟨ht,by rw[n2];simp[e]⟩,?_⟩)
   rw[m8 hw.nk ht,a3Y (by walk_at "o") (by walk_at "o"),a3Y (by walk_at "o") (by walk_at "o")]
   congr 2;refine a0z fun x=>?_;show x∈t.2.1::t.1::(ahd p q).flatten↔x∈t.1::t.2.1::(ahd p q).flatten;simp only[zK];exact or_left_comm
def BstS (n:Int) (ts:List Tie) (ps:List Int) (b:Int):Prop:=(∃q,PgOk (sortK (parK n ts)) ps q/\wK ts q=b)/\∀q,PgOk (sortK (parK n ts)) ps q->wK ts q<=b
theorem BstS.one {n:Int}{ts:List Tie}{ps:List Int}{b c:Int}(h:BstS n ts ps b)(k:BstS n ts ps c):b=c:=by
 obtain⟨⟨q,h1,h2⟩,h3⟩:=h;obtain⟨⟨r,k1,k2⟩,k3⟩:=k
 have:=h3 r k1
 have:=k3 q h1
 walk_at "o"
theorem a6n (n:Nat):(up n).Nodup:=by
 unfold List.Nodup up;rw[jB];exact nodup_range.imp fun h e=>h (by walk_at "o")
def aheadH (bs:List Bool) (p:Int):D->Bool
 | .tup [.int a,.int b,.int _]=>(a==p) && !bs.getD b.toNat false
 | _=>false
theorem a3V (bs:List Bool)(p:Int)(ts:List Tie):((ts.map tieD).filter (aheadH bs p)).map id=(aheadT bs p ts).map tieD:=by
 rw[map_id,filter_map];rfl
def optH (bs:List Bool):D->D
 | .tup [.int a,.int b,.int g]=>opD (val ((bs.set a.toNat true).set b.toNat true),g)
 | d=>d
theorem a7b (bs:List Bool)(ts:List Tie):((ts.map tieD).filter fun _=>true).map (optH bs)=(ts.map fun t=>(val ((bs.set t.1.toNat true).set t.2.1.toNat true),t.2.2)).map opD:=by
 rw[q8,qS,qS];rfl
theorem a6R (os:List (Nat×Int)):lfL (os.map opD)=true:=t4 fun x hx=>by obtain⟨t,_,rfl⟩:=zE.mp hx;rfl
abbrev L9:Stmt:=top 28
theorem S3:FnScope ["web","states","person","more","bits","options","ahead","held","gain"] ["web"] (defScope L9):=by walk_at "c"
def Y2 (g:LO):Prop:=∀(n:Int) (ts:List Tie),WebOk n ts->∃b:Int,BstS n ts (up n.toNat) b/\g [webD n ts]=some (.v (.int b))
theorem a12 (k7:mg "range"=none)(m_max:mg "max"=none)(F:Fun K "_law_best" "_law_best" L9 f fd)(B:Binds K fd ["web"] [])(hm:mg "_law_best"=some (.ref f)):∃g,Fn P w K mg base "_law_best" (k+1) g/\Y2 g:=by
 have nd:=S3.nd
 refine⟨_,w6 F S3 B hm rfl rfl (fun cdv A outer s H E hr=>(c5 (j6 1 nd a8A)
  (c5 (E1 qP rfl (a3m k7 (a8 (j0 hr (a7 0) a9) b9)) (c8 2 nd) (c5 (j6 3 nd a9c)
  (c5 (E1 qP rfl (qi_dk (a7 1)) (c8 4 nd) (c5 (j6 5 nd (w4 (a8 (u7 (a8 (a36 (a7 4) (J0 a9 (a7 2))) (a8 a9 b9))) b9)))
  (c5 (K4 (a0s hr (a2h (a4b (a7 4) (a7 2)) a9) a9) (c5 (K0 6 nd (B8 (N:=["tie","person","bits"]) (js:=[none,some 2,some 4]) (li:=none) rfl (u6 (by exact(.own (.cap rfl rfl rfl rfl (.cap rfl rfl rfl rfl .nil)))) rfl (by exact⟨rfl,⟨rfl,trivial⟩⟩) (by rfl)) (G2 (C2 (j0 hr (a7 0) a9))) (fun _ _ _ _=>(c8 0 (show((["tie","person","bits"]:List Str)++[accN]).Nodup by decide +kernel))) (fun _ _ _ _=>(G7 rfl (a1L (a0q (a0s hr (j0 hr (a7 0) a9) (a7 1)) (S2 (a0s hr (a2h (a4b (a7 2) (j0 hr (a7 0) a9)) a9) a9)))))) (fun _ _ _ _=>(a7 0))))
  (c6 (J4 (a1O (a7 5) (a8 (D5 (N:=["a","b","gain","bits"]) (js:=[none,none,none,some 4]) (li:=none) rfl (u6 (by exact(.own (.own (.own (.cap rfl rfl rfl rfl .nil))))) rfl (by exact⟨rfl,trivial⟩) (by rfl)) (E5 6) (fun _ _ _ _=>(W3 rfl (m7 (c8 0 (show((["a","b","gain","bits"]:List Str)++[accN]).Nodup by decide +kernel)) (m7 (c8 1 (show((["a","b","gain","bits"]:List Str)++[accN]).Nodup by decide +kernel)) (m7 (c8 2 (show((["a","b","gain","bits"]:List Str)++[accN]).Nodup by decide +kernel)) N2))))) (fun _ _ _ _=>B4) (fun _ _ _ _=>(u7 (a8 (a36 (a36 (a7 3) (J0 a9 (a7 0))) (J0 a9 (a7 1))) (a8 (a7 2) b9))))) b9))))) v5)
  (c6 (E1 qP rfl (C2 (a7 5)) (W3 rfl (m7 (c8 7 nd) (m7 (c8 8 nd) N2))) (c6 (a7y hr (a7 3) (a7 7) (qx_b (a1p rfl) a7f m_max (a8 (a6A hr (a7 3) (a8 (a7 7) (a8 a9 b9))) (a8 (q9 (j0 hr (a7 1) (a7 4)) (a7 8)) b9))))))))))
  (c6 (j6 1 nd (a7 3))))))
  (c6 (j8 (j0 hr (a7 1) (w5 (J0 a9 (j0 hr (a7 0) a9)) a9))))))),?_⟩
 intro n ts hw;have hn:=hw.n1;have hlen:=hw.len;have r1:(-(2^62:Int)<=n/\n<2^62):=by walk_at "o"
 unfold webD
 repeat(first|walk_at "z r" | simp only[r_dc1,r1])
 generalize el:loopF _ _ _=r;refine U1 el (fun i ρ=>∃(m:List (Int×Int)) (w1:W) (o2 o4 o7 o8:Option D) (x3 x5 x6:Option W),ρ=[some (.v (.tup [.int n,.tup (ts.map tieD)])),some w1,o2.map .v,x3,o4.map .v,x5,x6,o7.map .v,o8.map .v]/\(w1= .v (.dK (mK m) (mV m))\/w1= .o (.dK (mK m) (mV m)))/\freeO x3=true/\freeO x5=true/\freeO x6=true/\SOk n ts i m/\∀q,PgOk (sortK (parK n ts)) (up n.toNat) q->LoK m (val (Bs n.toNat (ahd (i:Int) q).flatten):Nat) (wK ts (ahd (i:Int) q))) ⟨[(0,0)],_,none,none,none,none,none,none,none,rfl,.inr rfl,rfl,rfl,rfl,?_,?_⟩ ?_ ?_
 ·refine⟨by simp,fun k v e=>?_⟩
  rw[lookM,lookM] at e;split at e
  ·rename_i ek;cases e;refine⟨jS _,Bs n.toNat [],[],K1 _ _,by rw[a3W];exact ek.symm,fun p hp=>absurd hp (Nat.not_lt_zero _),?_,rfl⟩
   rw[a7S (a3W _)];exact⟨fun k hk=>(by cases hk),List.Perm.refl _⟩
  ·cases e
 ·intro q hq;rw[show((0:Nat):Int)=0 from rfl,ahd_0 hw hq.mem,List.flatten_nil,a3W];exact⟨0,rfl,jS _⟩
 ·rintro i x _ hx ⟨m,w1,o2,o4,o7,o8,x3,x5,x6,rfl,hw1,f3,f5,f6,hs,hlo⟩;obtain⟨rfl,hi⟩:=a2b hx;rw[Int.zero_add];have lm:lfL (mV m)=true:=t4 fun x hx=>by unfold mV at hx;obtain⟨t,_,rfl⟩:=zE.mp hx;rfl
  have hin:i<n.toNat:=by walk_at "o"
  have ei:ik2 (varO 1 [some (.v (.tup [.int n,.tup (ts.map tieD)])),some w1,some (.v (.int (i:Int))),some (.o (.dK [] [])),o4.map .v,x5,x6,o7.map .v,o8.map .v] (some (some w1)))=some ((m.map (·.1)).map .int,[some (.v (.tup [.int n,.tup (ts.map tieD)])),some (.v (.dK (mK m) (mV m))),some (.v (.int (i:Int))),some (.o (.dK [] [])),o4.map .v,x5,x6,o7.map .v,o8.map .v]):=by
   rcases hw1 with rfl|rfl
   ·repeat(first|walk_at "z r" | simp only[b0O,a9Y,b0F,lm])
   ·repeat(first|walk_at "z r" | simp only[b0O,a9Y,b0F,lm])
  repeat(first|walk_at "z i" | simp only[f3,r_ik])
  rw[ei]
  repeat(walk_at "z i")
  have cpi:CPow 1 (i:Int):=⟨by walk_at "o",by walk_at "o",by decide⟩
  have ci:(0:Int)<=(i:Int):=by walk_at "o"
  generalize el2:loopF _ _ _=r2;refine N5 el2 (fun d ρ=>∃(m':List (Int×Int)) (o4 o7 o8:Option D) (x5 x6:Option W),ρ=[some (.v (.tup [.int n,.tup (ts.map tieD)])),some (.v (.dK (mK m) (mV m))),some (.v (.int (i:Int))),some (.o (.dK (mK m') (mV m'))),o4.map .v,x5,x6,o7.map .v,o8.map .v]/\freeO x5=true/\freeO x6=true/\SOk n ts (i+1) m'/\∀q,PgOk (sortK (parK n ts)) (up n.toNat) q->D.int (val (Bs n.toNat (ahd (i:Int) q).flatten):Nat)∈d->LoK m' (val (Bs n.toNat (ahd ((i:Int)+1) q).flatten):Nat) (wK ts (ahd ((i:Int)+1) q))) ⟨[],o4,o7,o8,x5,x6,rfl,f5,f6,⟨nodup_nil,fun k v e=>by cases e⟩,fun q hq h=>by cases h⟩ ?_ ?_
  ·rintro d x _ hx _ ⟨m',o4,o7,o8,x5,x6,rfl,f5,f6,hs',hl'⟩;obtain⟨h,hh,rfl⟩:=zE.mp hx;obtain⟨v,ev⟩:=t7 hh;obtain⟨v0,bs,qv,bl,eh,hb,hqv,wqv⟩:=hs.up _ v ev;have gx:oIxG (.dK (mK m) (mV m)) (.int h)=some (.v (.int v)):=a7d rfl (by rw[a0i,ev];rfl)
   subst eh;have oo:=b0X hw (p:=(i:Int)) (by walk_at "o") (by walk_at "o") bl (by rw[qN];exact hb) hqv wqv
   have bo:=a61 (bs:=bs) (p:=(i:Int)) (by rw[qN];walk_at "o")
   have ba:=a31 bs (i:Int).toNat
   repeat(first|walk_at "z i" | simp only[f5,cpi,bo])
   generalize hif:fIfS _ _ _ _=rr;obtain⟨x6',f6',rfl⟩:∃x6':Option W,freeO x6'=true/\rr=some (.nx [some (.v (.tup [.int n,.tup (ts.map tieD)])),some (.v (.dK (mK m) (mV m))),some (.v (.int (i:Int))),some (.o (.dK (mK m') (mV m'))),some (.v (.int (val bs:Nat))),some (.o (.lst ((opsL bs (i:Int) ts).map opD))),x6',o7.map .v,o8.map .v]):=by
    subst hif
    by_cases hp:bs.getD (i:Int).toNat false=true
    ·rw[if_pos hp] at ba;have z10:((1:Int)==0)=false:=rfl;refine⟨x6,f6,?_⟩;unfold opsL;rw[if_pos hp]
     repeat(first|walk_at "z r" | simp only[ci,ba,z10])
     rfl
    ·rw[if_neg hp] at ba;have z00:((0:Int)==0)=true:=rfl;have am:=a3V bs (i:Int) ts;have la:=C8 (aheadT bs (i:Int) ts);have al:(aheadT bs (i:Int) ts).length<=55:=zP (jK _ _) hlen;have om:=a7b bs (aheadT bs (i:Int) ts);have lo:=a6R ((aheadT bs (i:Int) ts).map fun t=>(val ((bs.set t.1.toNat true).set t.2.1.toNat true),t.2.2));have hle:1+(((aheadT bs (i:Int) ts).map fun t=>(val ((bs.set t.1.toNat true).set t.2.1.toNat true),t.2.2)).map opD).length<=1000000:=by
      rw[zC,zC];walk_at "o"
     have hle':(((aheadT bs (i:Int) ts).map fun t=>(val ((bs.set t.1.toNat true).set t.2.1.toNat true),t.2.2)).map opD).length<=999999:=by
      rw[zC,zC];walk_at "o"
     refine⟨some (.o (.lst ((aheadT bs (i:Int) ts).map tieD))),rfl,?_⟩;unfold opsL;rw[if_neg hp]
     repeat(first|walk_at "z r" | simp only[ci,ba,z00,f6])
     rw[l5 (ρ1:=[some (.v (.tup [.int n,.tup (ts.map tieD)])),some (.v (.dK (mK m) (mV m))),some (.v (.int (i:Int))),some (.o (.dK (mK m') (mV m'))),some (.v (.int (val bs:Nat))),some (.o (.lst [.tup [.int (val (bs.set (i:Int).toNat true):Nat),.int 0]])),x6,o7.map .v,o8.map .v]) (xs:=ts.map tieD) (fun B=>∃o1:Option D,B=[o1.map .v,some (.v (.int (i:Int))),some (.v (.int (val bs:Nat)))]) (aheadH bs (i:Int)) id]
     ·rw[am]
      repeat(first|walk_at "z r" | simp only[f6,la])
      rw[l5 (ρ1:=[some (.v (.tup [.int n,.tup (ts.map tieD)])),some (.v (.dK (mK m) (mV m))),some (.v (.int (i:Int))),some (.o (.dK (mK m') (mV m'))),some (.v (.int (val bs:Nat))),some (.o (.lst [.tup [.int (val (bs.set (i:Int).toNat true):Nat),.int 0]])),some (.o (.lst ((aheadT bs (i:Int) ts).map tieD))),o7.map .v,o8.map .v]) (xs:=(aheadT bs (i:Int) ts).map tieD) (fun B=>∃o1 o2 o3:Option D,B=[o1.map .v,o2.map .v,o3.map .v,some (.v (.int (val bs:Nat)))]) (fun _=>true) (optH bs)]
      ·rw[om]
       repeat(first|walk_at "z r" | simp only[lo,hle,hle',it_l,it_t])
       rfl
      ·repeat(first|walk_at "z r" | simp only[la])
      ·rintro _ ⟨_,_,_,rfl⟩;rfl
      ·exact⟨none,none,none,rfl⟩
      ·rw[zC];unfold lim;walk_at "o"
      ·rw[om];exact lo
      ·rintro x hx _ zs ⟨o1,o2,o3,rfl⟩;obtain⟨t,ht,rfl⟩:=F7 hx;have h:=hw.t t (zM.mp ht).1;have c1:CPow 1 t.1:=⟨by walk_at "o",by walk_at "o",by decide⟩
       have c2:CPow 1 t.2.1:=⟨by walk_at "o",by walk_at "o",by decide⟩
       have b1:=a61 (bs:=bs) (p:=t.1) (by walk_at "o")
       have b2:=a61 (bs:=bs.set t.1.toNat true) (p:=t.2.1) (by rw[qK];walk_at "o")
       refine⟨[some (.v (.int t.1)),some (.v (.int t.2.1)),some (.v (.int t.2.2)),some (.v (.int (val bs:Nat)))],.v (opD (val ((bs.set t.1.toNat true).set t.2.1.toNat true),t.2.2)),⟨some _,some _,some _,rfl⟩,?_,rfl,fun _=>⟨?_,.inl rfl⟩⟩
       ·walk_at "q"
       ·unfold opD
        repeat(first|walk_at "z r" | simp only[c1,c2,b1,b2])
     ·walk_at "q"
     ·rintro _ ⟨_,rfl⟩;rfl
     ·exact⟨none,rfl⟩
     ·rw[zC];unfold lim;walk_at "o"
     ·rw[am];exact la
     ·rintro x hx _ zs ⟨o1,rfl⟩;obtain⟨t,ht,rfl⟩:=F7 hx;have h:=hw.t t ht;have c2:(0:Int)<=t.2.1:=by walk_at "o"
      have bt:=a31 bs t.2.1.toNat;refine⟨[some (.v (.tup [.int t.1,.int t.2.1,.int t.2.2])),some (.v (.int (i:Int))),some (.v (.int (val bs:Nat)))],.v (.tup [.int t.1,.int t.2.1,.int t.2.2]),⟨some _,rfl⟩,?_,?_,fun _=>⟨?_,.inl rfl⟩⟩
      ·walk_at "q"
      ·rw[show aheadH bs (i:Int) (.tup [.int t.1,.int t.2.1,.int t.2.2])=((t.1==(i:Int)) && !bs.getD t.2.1.toNat false) from rfl];cases e1:(t.1==(i:Int)) with
       | false=>repeat(first|walk_at "z r" | simp only[e1,jZ])
       | true=>
        cases e2:bs.getD t.2.1.toNat false with
        | false=>
         rw[e2,if_neg (by decide)] at bt
         repeat(first|walk_at "z r" | simp only[e1,c2,bt,z00,xI,Bool.not_false])
        | true=>
         rw[e2,if_pos rfl] at bt;have z10:((1:Int)==0)=false:=rfl
         repeat(first|walk_at "z r" | simp only[e1,c2,bt,z10,xI,Bool.not_true])
      ·walk_at "q"
   have lo:=a6R (opsL bs (i:Int) ts)
   repeat(first|walk_at "z i" | simp only[lo])
   generalize el3:loopF _ _ _=r3;refine N5 el3 (fun d' ρ=>∃(m1:List (Int×Int)) (o7 o8:Option D),ρ=[some (.v (.tup [.int n,.tup (ts.map tieD)])),some (.v (.dK (mK m) (mV m))),some (.v (.int (i:Int))),some (.o (.dK (mK m1) (mV m1))),some (.v (.int (val bs:Nat))),some (.v (.lst ((opsL bs (i:Int) ts).map opD))),x6',o7.map .v,o8.map .v]/\SOk n ts (i+1) m1/\∀q,PgOk (sortK (parK n ts)) (up n.toNat) q->D.int (val (Bs n.toNat (ahd (i:Int) q).flatten):Nat)∈d\/(val bs=val (Bs n.toNat (ahd (i:Int) q).flatten)/\opD (val (Bs n.toNat (ahd ((i:Int)+1) q).flatten),wK ts (ahd ((i:Int)+1) q)-wK ts (ahd (i:Int) q))∈d')->LoK m1 (val (Bs n.toNat (ahd ((i:Int)+1) q).flatten):Nat) (wK ts (ahd ((i:Int)+1) q))) ⟨m',o7,o8,rfl,hs',fun q hq z=>z.elim (hl' q hq) fun z=>by cases z.2⟩ ?_ ?_
   ·rintro d' x _ hx _ ⟨m1,o7,o8,rfl,hs1,hl1⟩;obtain⟨⟨T,G⟩,hT,rfl⟩:=zE.mp hx;obtain⟨G0,bs',q',bl',eT,hb',hq',wq'⟩:=oo _ hT;have G0:0<=G:=G0;have eT:T=val bs':=eT;have wq':wK ts q'=v+G:=wq';rw[qN] at hb';have gm:∀ρ,ge6 (.int (T:Int)) (.int 0) ρ (some (.dK (mK m1) (mV m1)))=some (.v (.int ((lookM m1 (T:Int)).getD 0)),ρ):=fun ρ=>by
     rw[a9h,a0i];cases lookM m1 (T:Int)<;>rfl
    have hlen2:(mK m1).length<1000000:=by
     have:=hs1.len hn.2
     unfold mK;rw[zC];walk_at "o"
    have hput:=hs1.put (s:=v+G) bl' (by walk_at "o") hb' hq' wq'
    rw[<-eT] at hput;obtain⟨p1,p2⟩:=b0V (k:=(T:Int)) (v:=if v+G>(lookM m1 (T:Int)).getD 0 then v+G else(lookM m1 (T:Int)).getD 0) hs1.nd;refine⟨_,?_,putM m1 (T:Int) (if v+G>(lookM m1 (T:Int)).getD 0 then v+G else(lookM m1 (T:Int)).getD 0),some (.int (T:Int)),some (.int G),rfl,hput,fun q hq z=>?_⟩
    ·unfold opD
     repeat(first|walk_at "z r" | simp only[gm,gx,r_ek,r_ek2,r_ek3,r_ek4,r_ek5,r_ek6,hlen2,p1,p2])
    ·by_cases e:val bs=val (Bs n.toNat (ahd (i:Int) q).flatten)/\opD (val (Bs n.toNat (ahd ((i:Int)+1) q).flatten),wK ts (ahd ((i:Int)+1) q)-wK ts (ahd (i:Int) q))=opD (T,G)
     ·obtain⟨z1,e⟩:=e;unfold opD at e;injection e with e
      injection e with e1 e2
      injection e1 with e1
      injection e2 with e2 _
      injection e2 with e2
      have e1:((val (Bs n.toNat (ahd ((i:Int)+1) q).flatten):Nat):Int)=(T:Int):=e1;have e2:wK ts (ahd ((i:Int)+1) q)-wK ts (ahd (i:Int) q)=G:=e2;obtain⟨v',ev',hv'⟩:=hlo q hq;rw[<-z1,ev] at ev';cases ev';rw[e1];exact LoK.new (by walk_at "o")
     ·refine LoK.put (hl1 q hq ?_);rcases z with z|⟨z1,z2⟩
      ·exact .inl z
      ·rcases jA.mp z2 with z2|z2
       ·exact .inr ⟨z1,z2⟩
       ·exact absurd ⟨z1,zN.mp z2⟩ e
   ·rintro _ rfl ⟨m1,o7,o8,rfl,hs1,hl1⟩;refine⟨_,rfl,m1,some (.int (val bs:Nat)),o7,o8,some (.v (.lst ((opsL bs (i:Int) ts).map opD))),x6',rfl,rfl,f6',hs1,fun q hq z=>hl1 q hq ?_⟩;rcases jA.mp z with z|z
    ·exact .inl z
    ·have z:=zN.mp z;injection z with z
     have zz:val bs=val (Bs n.toNat (ahd (i:Int) q).flatten):=by walk_at "o"
     have eb:bs=Bs n.toNat (ahd (i:Int) q).flatten:=a0h (by rw[K1];exact bl) zz
     refine .inr ⟨zz,?_⟩;rw[eb];exact zE.mpr ⟨_,b1d hw (by walk_at "o") (by walk_at "o") hq,rfl⟩
  ·rintro _ rfl ⟨m',o4,o7,o8,x5,x6,rfl,f5,f6,hs',hl'⟩;have lm':lfL (mV m')=true:=t4 fun x hx=>by unfold mV at hx;obtain⟨t,_,rfl⟩:=zE.mp hx;rfl
   refine⟨_,?_,m',.v (.dK (mK m') (mV m')),some (.int (i:Int)),o4,o7,o8,some (.v (.dK (mK m') (mV m'))),x5,x6,rfl,.inl rfl,rfl,f5,f6,hs',fun q hq=>?_⟩
   ·repeat(first|walk_at "z r" | simp only[lm'])
   ·rw[show((i+1:Nat):Int)=(i:Int)+1 by walk_at "o"]
    refine hl' q hq ?_;obtain⟨v',ev',_⟩:=hlo q hq;exact zE.mpr ⟨_,a1X ev',rfl⟩
 ·rintro _ rfl ⟨m,w1,o2,o4,o7,o8,x3,x5,x6,rfl,hw1,f3,f5,f6,hs,hlo⟩;rw[U9] at hlo hs;have full:∀q,PgOk (sortK (parK n ts)) (up n.toNat) q->LoK m ((2^n.toNat-1:Nat):Int) (wK ts q):=fun q hq=>by
   have:=hlo q hq
   rw[jN (by walk_at "o"),ahd_n hw hq.mem,a9f hq.perm,L8] at this
   exact this
  obtain⟨q0,hq0⟩:=List.exists_mem_of_ne_nil _ (a2E hw);obtain⟨v,ev,_⟩:=full q0 (a3X (D2 hw) 9 _ (a6n _) q0 hq0);obtain⟨v0,bs,q,bl,ek,_,hq,wq⟩:=hs.up _ v ev;have eb:bs=List.replicate n.toNat true:=a0h (by rw[length_replicate];exact bl) (by rw[L8];walk_at "o")
  rw[eb,W5] at hq;have cp:CPow 1 n:=⟨by walk_at "o",by walk_at "o",by decide⟩
  have es:1*2^n.toNat-1=((2^n.toNat-1:Nat):Int):=by
   have:=qT (n:=n.toNat)
   rw[Int.one_mul,Int.natCast_sub this,xF];rfl
  have gx:oIxG (.dK (mK m) (mV m)) (.int ((2^n.toNat-1:Nat):Int))=some (.v (.int v)):=a7d rfl (by rw[a0i,ev];rfl)
  refine⟨v,⟨⟨q,hq,wq⟩,fun r hr=>?_⟩,?_⟩
  ·obtain⟨u,eu,hu⟩:=full r hr;rw[ev] at eu;cases eu;exact hu
  ·rcases hw1 with rfl|rfl
   ·repeat(first|walk_at "z r" | simp only[cp,es,gx])
   ·repeat(first|walk_at "z r" | simp only[cp,es,gx])
theorem BstS.perm {n:Int}{ts us:List Tie}{ps:List Int}{b:Int}(hw:WebOk n us)(p:ts.Perm us)(h:BstS n ts ps b):BstS n us ps b:=by
 have nd:=(hw.perm p).nk;have ew:∀q,wK ts q=wK us q:=fun q=>by
  unfold wK;rw[show gainOf ts=gainOf us from funext fun k=>a3r p nd k]
 have ep:∀q,PgOk (sortK (parK n ts)) ps q↔PgOk (sortK (parK n us)) ps q:=fun q=>by
  have hm:∀k,k∈sortK (parK n ts)↔k∈sortK (parK n us):=fun k=>by rw[(g5 _).mem_iff,(g5 _).mem_iff];exact a54 p
  exact⟨fun z=>⟨fun k hk=>(hm k).mp (z.mem k hk),z.perm⟩,fun z=>⟨fun k hk=>(hm k).mpr (z.mem k hk),z.perm⟩⟩
 obtain⟨⟨q,h1,h2⟩,h3⟩:=h;exact⟨⟨q,(ep q).mp h1,by rw[<-ew];exact h2⟩,fun r hr=>by rw[<-ew];exact h3 r ((ep r).mpr hr)⟩
theorem E4 {n:Int}{ts:List Tie}(hw:WebOk n ts)(f:Tie->Bool):WebOk n (ts.filter f):=
 ⟨hw.n1,fun t ht=>hw.t t (zM.mp ht).1,(filter_sublist.map _).nodup hw.nd,zP (jK _ _) hw.len⟩
def apartT (a b:Int) (ts:List Tie):List Tie:=ts.filter fun t=>!decide (t.1∈[a,b]) && !decide (t.2.1∈[a,b])
theorem V5 {a b:Int}{ts:List Tie}{t:Tie}:t∈apartT a b ts↔t∈ts/\t.1∉[a,b]/\t.2.1∉[a,b]:=by
 unfold apartT;rw[zM,qF,yF,yF,decide_eq_false_iff_not,decide_eq_false_iff_not]
theorem a8h {n:Int}{ts:List Tie}{f:Tie->Bool}(hw:WebOk n ts){k:List Int}(hk:k∈parK n (ts.filter f)):gainOf (ts.filter f) k=gainOf ts k:=by
 rcases j7.mp hk with ⟨i,_,rfl⟩|z
 ·rw[j5,j5]
 ·obtain⟨t,ht,rfl⟩:=zE.mp z;rw[m8 (E4 hw f).nk ht,m8 hw.nk (zM.mp ht).1]
theorem a98 {n:Int}{ts:List Tie}{f:Tie->Bool}(hw:WebOk n ts){q:List (List Int)}(h:∀k∈q,k∈parK n (ts.filter f)):wK (ts.filter f) q=wK ts q:=by
 unfold wK;congr 1;exact jG fun k hk=>a8h hw (h k hk)
theorem a59 {n a b c:Int}{ts:List Tie}(hw:WebOk n ts)(a0:0<=a)(ab:a<b)(bn:b<n)(h:BstS n (apartT a b ts) (up n.toNat) c):BstS n ts ((up n.toNat).filter fun x=>decide (x∉[a,b])) c:=by
 have ha:=E4 hw fun t=>!decide (t.1∈[a,b]) && !decide (t.2.1∈[a,b]);have nd:=a6n n.toNat;have alone:∀{x:Int} {k:List Int},x∈[a,b]->k∈parK n (apartT a b ts)->x∈k->k=[x]:=fun{x k} hx hk hxk=>by
  rcases j7.mp hk with ⟨i,_,rfl⟩|z
  ·rw[zN.mp hxk]
  ·obtain⟨t,ht,rfl⟩:=zE.mp z;obtain⟨_,h1,h2⟩:=V5.mp ht;have hxk:x∈[t.1,t.2.1]:=hxk;rcases zK.mp hxk with rfl|z
   ·exact absurd hx h1
   ·rw[zN.mp z] at hx;exact absurd hx h2
 have pk:∀{k},k∈sortK (parK n (apartT a b ts))↔k∈parK n (apartT a b ts):=fun{k}=>(g5 _).mem_iff;obtain⟨⟨q,h1,h2⟩,h3⟩:=h;refine⟨?_,fun q2 hq2=>?_⟩
 ·have take:∀{ps:List Int} {r:List (List Int)} {x:Int},ps.Nodup->x∈[a,b]->x∈ps->PgOk (sortK (parK n (apartT a b ts))) ps r->∃r',PgOk (sortK (parK n (apartT a b ts))) (ps.filter fun y=>decide (y∉[x])) r'/\wK (apartT a b ts) r=wK (apartT a b ts) r':=fun{ps r x} pnd hx hxp hr=>by
   obtain⟨k,hk,hxk⟩:=xD.mp (hr.perm.mem_iff.mpr hxp);have ek:=alone hx (pk.mp (hr.mem k hk)) hxk;subst ek;obtain⟨r1,r2,_⟩:=hr.take (D2 ha) pnd hk;exact⟨_,r1,by rw[O2 r2,w8,j5];walk_at "o"⟩
  obtain⟨r1,p1,w1⟩:=take (x:=a) nd (by simp) (n8.mpr (by walk_at "o")) h1
  obtain⟨r2,p2,w2⟩:=take (x:=b) (nd.sublist xC) (by simp) (zM.mpr ⟨n8.mpr (by walk_at "o"),zL (by simp;walk_at "o")⟩) p1
  rw[List.filter_filter] at p2;have ef:(up n.toNat).filter (fun x=>decide (x∉[b])&&decide (x∉[a]))=(up n.toNat).filter fun x=>decide (x∉[a,b]):=filter_congr fun x _=>by
   rw[Bool.eq_iff_iff,qF,qO,qO,qO];simp only[zK,yD,or_false,not_or];exact And.comm
  rw[ef] at p2;have hm:∀k∈r2,k∈parK n (apartT a b ts):=fun k hk=>pk.mp (p2.mem k hk);refine⟨r2,⟨fun k hk=>?_,p2.perm⟩,by rw[<-a98 hw hm];show wK (apartT a b ts) r2=c;walk_at "o"⟩
  refine(g5 _).mem_iff.mpr ?_;rcases j7.mp (hm k hk) with z|z
  ·exact j7.mpr (.inl z)
  ·obtain⟨t,ht,rfl⟩:=zE.mp z;exact j7.mpr (.inr (zE.mpr ⟨t,(V5.mp ht).1,rfl⟩))
 ·have hm:∀k∈q2,k∈parK n (apartT a b ts):=fun k hk=>by
   have far:∀x∈k,x∉[a,b]:=fun x hx=>qM (zM.mp (hq2.perm.mem_iff.mp (xD.mpr ⟨k,hk,hx⟩))).2;rcases j7.mp ((g5 _).mem_iff.mp (hq2.mem k hk)) with z|z
   ·exact j7.mpr (.inl z)
   ·obtain⟨t,ht,rfl⟩:=zE.mp z;exact j7.mpr (.inr (zE.mpr ⟨t,V5.mpr ⟨ht,far t.1 (by unfold key2;simp),far t.2.1 (by unfold key2;simp)⟩,rfl⟩))
  have one:∀x,0<=x->x<n->[x]∈sortK (parK n (apartT a b ts)):=fun x x0 x1=>pk.mpr (j7.mpr (.inl ⟨x.toNat,by walk_at "o",by rw[jN x0]⟩))
  have:=h3 ([a]::[b]::q2) ⟨fun k hk=>?_,?_⟩
  ·rw[w8,w8,j5,j5,show wK (apartT a b ts) q2=wK ts q2 from a98 hw hm] at this;walk_at "o"
  ·rcases zK.mp hk with rfl|z
   ·exact one a a0 (by walk_at "o")
   ·rcases zK.mp z with rfl|z
    ·exact one b (by walk_at "o") bn
    ·exact pk.mpr (hm k z)
  ·rw[xQ,xQ,<-yH];refine(List.Perm.append_left ([a]++[b]) hq2.perm).trans ((List.perm_ext_iff_of_nodup ?_ nd).mpr fun x=>?_)
   ·rw[xN];refine⟨by simp;walk_at "o",nd.sublist xC,fun y hy z hz e=>?_⟩
    subst e;exact absurd hy (qM (zM.mp hz).2)
   ·rw[jA,zM];constructor
    ·rintro(z|z)
     ·refine n8.mpr ?_;rcases(by simpa using z:x=a\/x=b) with rfl|rfl<;>walk_at "o"
     ·exact z.1
    ·intro z
     by_cases e:x∈[a,b]
     ·exact .inl e
     ·exact .inr ⟨z,zL e⟩
theorem said {n a b g b0 b2:Int}{ts T:List Tie}(hw:WebOk n ts)(a0:0<=a)(ab:a<b)(bn:b<n)(g1:1<=g)(g2:g<=10^12)(pT:T.Perm (bareT [a,b] ts++[(a,b,g)]))(h0:BstS n (bareT [a,b] ts) (up n.toNat) b0)(h2:BstS n (bareT [a,b] ts) ((up n.toNat).filter fun x=>decide (x∉[a,b])) b2):
  WebOk n T/\(b0-b2<g->∀q∈bestP n T,[a,b]∈q)/\(b0-b2=g->∃q∈bestP n T,[a,b]∈q)/\(g<b0-b2->∀q∈bestP n T,[a,b]∉q):=by
 have hn:=hw.n1;have hu:WebOk n (bareT [a,b] ts):=E4 hw _;have no:[a,b]∉(bareT [a,b] ts).map key2:=fun z=>by
  obtain⟨t,ht,e⟩:=zE.mp z
  have:=(zM.mp ht).2
  rw[yF,decide_eq_false_iff_not] at this;exact this e
 generalize hU:bareT [a,b] ts=U at *;have hT':WebOk n (U++[(a,b,g)]):=by
  refine Tz.web (a:=n+1) (b:=0) ⟨fun t ht=>?_,?_⟩ hn
  ·rcases jA.mp ht with z|z
   ·have:=hu.t t z;walk_at "o"
   ·rw[zN.mp z];show 0<=a/\a<b/\b<n/\1<=g/\g<=10^12/\(a<n+1\/a=n+1/\b<0);walk_at "o"
  ·rw[jQ,xN];refine⟨hu.nd,by simp,fun x hx y hy e=>?_⟩
   subst e;obtain⟨t,ht,e⟩:=zE.mp hx;have hy:x=(a,b):=by simpa using hy
   rw[hy] at e;injection e with e1 e2
   exact no (zE.mpr ⟨t,ht,by unfold key2;rw[e1,e2]⟩)
 have hT:WebOk n T:=hT'.perm pT;refine⟨hT,?_⟩;have gT:gainOf T [a,b]=g:=m8 (t:=(a,b,g)) hT.nk (pT.mem_iff.mpr (qE _ (List.mem_singleton_self _)));have gO:∀k,k≠[a,b]->gainOf T k=gainOf U k:=fun k hk=>by
  by_cases z:k∈U.map key2
  ·obtain⟨t,ht,rfl⟩:=zE.mp z;rw[m8 hu.nk ht,m8 hT.nk (pT.mem_iff.mpr (xV _ ht))]
  ·rw[C0 z,C0 fun y=>?_];obtain⟨t,ht,rfl⟩:=zE.mp y;rcases jA.mp (pT.mem_iff.mp ht) with y|y
   ·exact z (zE.mpr ⟨t,y,rfl⟩)
   ·rw[zN.mp y] at hk;exact hk rfl
 have wO:∀q:List (List Int),[a,b]∉q->wK T q=wK U q:=fun q hq=>by
  unfold wK;congr 1;exact jG fun k hk=>gO k fun e=>hq (by rw[<-e];exact hk)
 have pU:∀k,k∈sortK (parK n U)↔k∈parK n U:=fun k=>(g5 _).mem_iff;have pTm:∀k,k∈sortK (parK n T)↔k=[a,b]\/k∈parK n U:=fun k=>by
  rw[(g5 _).mem_iff,j7,j7];constructor
  ·rintro(z|z)
   ·exact .inr (.inl z)
   ·obtain⟨t,ht,rfl⟩:=zE.mp z;rcases jA.mp (pT.mem_iff.mp ht) with y|y
    ·exact .inr (.inr (zE.mpr ⟨t,y,rfl⟩))
    ·rw[zN.mp y];exact .inl rfl
  ·rintro(z|z|z)
   ·rw[z];exact .inr (zE.mpr ⟨(a,b,g),pT.mem_iff.mpr (qE _ (List.mem_singleton_self _)),rfl⟩)
   ·exact .inl z
   ·obtain⟨t,ht,rfl⟩:=zE.mp z;exact .inr (zE.mpr ⟨t,pT.mem_iff.mpr (xV _ ht),rfl⟩)
 have noU:[a,b]∉parK n U:=fun z=>by
  rcases j7.mp z with ⟨i,_,e⟩|y
  ·cases e
  ·exact no y
 have nd:=a6n n.toNat;have pw:(up n.toNat).Pairwise (· < ·):=by
  unfold up;rw[jB];exact List.pairwise_lt_range.imp fun h=>by walk_at "o"
 have with_:∀q,PgOk (sortK (parK n T)) (up n.toNat) q->[a,b]∈q->wK T q<=g+b2:=fun q hq hk=>by
  obtain⟨r1,r2,_⟩:=hq.take (D2 hT) nd hk;have nr:[a,b]∉q.erase [a,b]:=fun z=>by
   have:=(zM.mp (r1.perm.mem_iff.mp (xD.mpr ⟨_,z,zG⟩))).2
   exact absurd zG (qM this)
  have:=h2.2 (q.erase [a,b]) ⟨fun k hk'=>(pU k).mpr (((pTm k).mp (r1.mem k hk')).resolve_left fun e=>nr (e▸hk')),r1.perm⟩
  rw[O2 r2,w8,gT,wO _ nr];walk_at "o"
 have without:∀q,PgOk (sortK (parK n T)) (up n.toNat) q->[a,b]∉q->wK T q<=b0:=fun q hq hk=>by
  rw[wO q hk];exact h0.2 q ⟨fun k hk'=>(pU k).mpr (((pTm k).mp (hq.mem k hk')).resolve_left fun e=>hk (by rw[<-e];exact hk')),hq.perm⟩
 obtain⟨q0,k1,k2⟩:=h0.1;obtain⟨q2,k3,k4⟩:=h2.1;have n0:[a,b]∉q0:=fun z=>noU ((pU _).mp (k1.mem _ z));have n2:[a,b]∉q2:=fun z=>noU ((pU _).mp (k3.mem _ z));have ok0:PgOk (sortK (parK n T)) (up n.toNat) q0:=⟨fun k hk=>(pTm k).mpr (.inr ((pU k).mp (k1.mem k hk))),k1.perm⟩;have ok2:PgOk (sortK (parK n T)) (up n.toNat) ([a,b]::q2):=a02 (D2 hT) ((pTm _).mpr (.inl rfl)) nd (fun x hx=>n8.mpr (by rcases(by simpa using hx:x=a\/x=b) with rfl|rfl<;>walk_at "o")) ⟨fun k hk=>(pTm k).mpr (.inr ((pU k).mp (k3.mem k hk))),k3.perm⟩
 have w0:wK T q0=b0:=by rw[wO q0 n0];exact k2
 have w2:wK T ([a,b]::q2)=g+b2:=by rw[w8,gT,wO q2 n2,k4]
 have ne:=a2E hT;have pos:0<((allP n T).map (wK T)).length:=by rw[zC];exact List.length_pos_iff.mpr ne
 obtain⟨m1,m2⟩:=a3y pos;obtain⟨M,eM⟩:∃M:Int,maxI ((allP n T).map (wK T))=M:=⟨_,rfl⟩;have inB:∀q,q∈bestP n T↔q∈allP n T/\wK T q=M:=fun q=>by
  unfold bestP;rw[zM,yB,eM]
 rw[eM] at m1 m2;have up_:∀q,PgOk (sortK (parK n T)) (up n.toNat) q->wK T q<=M:=fun q hq=>by
  obtain⟨q',z1,z2⟩:=a2j (D2 hT) 9 (up n.toNat) (by rw[Q2];walk_at "o") pw q hq
  rw[<-O2 z2];exact m2 _ (zE.mpr ⟨q',z1,rfl⟩)
 have isP:∀q∈allP n T,PgOk (sortK (parK n T)) (up n.toNat) q:=fun q hq=>a3X (D2 hT) 9 _ nd q hq;have u0:=up_ q0 ok0;have u2:=up_ _ ok2;refine⟨fun hg q hq=>?_,fun hg=>?_,fun hg q hq hk=>?_⟩
 ·obtain⟨z1,z2⟩:=(inB q).mp hq;apply Classical.byContradiction;intro hk
  have:=without q (isP q z1) hk
  walk_at "o"
 ·obtain⟨q',z1,z2⟩:=a2j (D2 hT) 9 (up n.toNat) (by rw[Q2];walk_at "o") pw _ ok2
  refine⟨q',(inB q').mpr ⟨z1,?_⟩,z2.mem_iff.mpr zG⟩;rw[O2 z2,w2];obtain⟨qm,y1,y2⟩:=zE.mp m1
  by_cases hk:[a,b]∈qm
  ·have:=with_ qm (isP qm y1) hk
   walk_at "o"
  ·have:=without qm (isP qm y1) hk
   walk_at "o"
 ·obtain⟨z1,z2⟩:=(inB q).mp hq
  have:=with_ q (isP q z1) hk
  walk_at "o"
def apaH (a b:Int):D->Bool
 | .tup [.int x,.int y,.int _]=>!decide (x∈[a,b]) && !decide (y∈[a,b])
 | _=>false
theorem a8u (a b:Int)(ts:List Tie):((ts.map tieD).filter (apaH a b)).map id=(apartT a b ts).map tieD:=by
 rw[map_id,filter_map];rfl
abbrev J5:Stmt:=top 29
theorem O3:FnScope ["web","people"] ["web","people"] (defScope J5):=by walk_at "c"
def U5 (g:LO):Prop:=∀(n:Int) (ts:List Tie) (a b:Int),WebOk n ts->g [webD n ts,.lst [.int a,.int b]]=some (.v (webD n (apartT a b ts)))
theorem a05 (v7:mg "tuple"=none)(F:Fun K "_law_apart" "_law_apart" J5 f fd)(B:Binds K fd ["web","people"] [])(hm:mg "_law_apart"=some (.ref f)):∃g,Fn P w K mg base "_law_apart" (k+1) g/\U5 g:=by
 have nd:=O3.nd;refine⟨_,w6 F O3 B hm rfl rfl (fun cdv A outer s H E hr=>(c6 (j8 (u7 (a8 (j0 hr (a7 0) a9) (a8 (qx_t A5 V3 v7 (a8 (D5 (N:=["tie","people"]) (js:=[none,some 1]) (li:=none) rfl (u6 (by exact(.own (.cap rfl rfl rfl rfl .nil))) rfl (by exact⟨rfl,trivial⟩) (by rfl)) (G2 (C2 (j0 hr (a7 0) a9))) (fun _ _ _ _=>(c8 0 (show((["tie","people"]:List Str)++[accN]).Nodup by decide +kernel))) (fun _ _ _ _=>(G7 rfl (a1L (a0q (V7 hr (j0 hr (a7 0) a9) (a7 1)) (S2 (V7 hr (j0 hr (a7 0) a9) (a7 1))))))) (fun _ _ _ _=>(a7 0))) b9)) b9)))))),?_⟩
 intro n ts a b hw;have hlen:=hw.len;have am:=a8u a b ts;have la:=C8 (apartT a b ts);have ix0:oIxG (webD n ts) (.int 0)=some (.v (.int n)):=rfl;have ix1:oIxG (webD n ts) (.int 1)=some (.v (.tup (ts.map tieD))):=rfl
 repeat(first|walk_at "z r" | simp only[ix0,ix1])
 rw[l5 (ρ1:=[some (.v (webD n ts)),some (.v (.lst [.int a,.int b]))]) (xs:=ts.map tieD) (fun B=>∃o1:Option D,B=[o1.map .v,some (.v (.lst [.int a,.int b]))]) (apaH a b) id]
 ·rw[am]
  repeat(first|walk_at "z r" | simp only[la])
  rfl
 ·repeat(first|walk_at "z r" | simp only[ix1])
 ·rintro _ ⟨_,rfl⟩;rfl
 ·exact⟨none,rfl⟩
 ·rw[zC];unfold lim;walk_at "o"
 ·rw[am];exact la
 ·rintro x hx _ zs ⟨o1,rfl⟩;obtain⟨t,ht,rfl⟩:=F7 hx;have gi:∀y:Int,oInG true (.int y) (.lst [.int a,.int b])=some (.v (.bl (!decide (y∈[a,b])))):=fun y=>by
   have:=a5r (b:=true) (n:=y) (n5 [a,b])
   rw[nb_t] at this;exact this
  have g1:=gi t.1;have g2:=gi t.2.1;refine⟨[some (.v (.tup [.int t.1,.int t.2.1,.int t.2.2])),some (.v (.lst [.int a,.int b]))],.v (.tup [.int t.1,.int t.2.1,.int t.2.2]),⟨some _,rfl⟩,?_,?_,fun _=>⟨?_,.inl rfl⟩⟩
  ·walk_at "q"
  ·rw[show apaH a b (.tup [.int t.1,.int t.2.1,.int t.2.2])=(!decide (t.1∈[a,b]) && !decide (t.2.1∈[a,b])) from rfl];cases e1:(!decide (t.1∈[a,b])) with
   | false=>
    rw[e1] at g1
    repeat(first|walk_at "z r" | simp only[g1,jZ])
   | true=>
    rw[e1] at g1
    repeat(first|walk_at "z r" | simp only[g1,g2,xI])
  ·walk_at "q"
abbrev J1:Stmt:=top 30
theorem O8:FnScope ["found"] ["found"] (defScope J1):=by walk_at "c"
def S6 (g:LO):Prop:=∀i:Int,g [.int i]=some (.v (.bl true))
theorem a07 (m5:mg "isinstance"=none)(m_int:mg "int"=none)(W2:mg "bool"=none)(F:Fun K "_law_whole" "_law_whole" J1 f fd)(B:Binds K fd ["found"] [])(hm:mg "_law_whole"=some (.ref f)):∃g,Fn P w K mg base "_law_whole" (k+1) g/\S6 g:=by
 have nd:=O8.nd;refine⟨_,w6 F O8 B hm rfl rfl (fun cdv A outer s H E hr=>(c6 (j8 (a3E (a2f (T:="int") (a2n (by decide)) m5 m_int (a7 0)) (a3S (a46 (a2f (T:="bool") (a2n (by decide)) m5 W2 (a7 0)))))))),?_⟩
 intro i;have i1:=a8a (d:=.int i) rfl;have i2:=a48 (d:=.int i) rfl;have j1:isI (.int i)=true:=rfl;have j2:isB (.int i)=false:=rfl
 repeat(first|walk_at "z r" | simp only[i1,i2,j1,j2])
theorem a5z {xs:List D}(i:Nat):cutD xs none (some (i:Int))=xs.take i:=by
 unfold cutD;rw[HT.sIx_nat,HT.sIx_none,List.drop_zero,Nat.sub_zero]
 by_cases h:i<=xs.length
 ·rw[Nat.min_eq_left h]
 ·rw[Nat.min_eq_right (by walk_at "o"),take_length,List.take_of_length_le (by walk_at "o")]
abbrev J3:Stmt:=top 31
theorem O4:FnScope ["script"] ["script"] (defScope J3):=by walk_at "c"
def T6 (g:LO):Prop:=∀ns:List Int,ns.length<=63->∃cs:List Int,g [.lst (ns.map .int)]=some (.o (.lst (cs.map .int)))
theorem a04 (m_sum:mg "sum"=none)(F:Fun K "_law_cells" "_law_cells" J3 f fd)(B:Binds K fd ["script"] [])(hm:mg "_law_cells"=some (.ref f)):∃g,Fn P w K mg base "_law_cells" (k+1) g/\T6 g:=by
 have nd:=O4.nd;refine⟨_,w6 F O4 B hm rfl rfl (fun cdv A outer s H E hr=>(c6 (j8 (q9 (q9 (w4 (a8 a9 b9)) (U2 (a7 0) a0b (Z7 a9))) (w4 (a8 (qx_b ((a1R rfl).or (a1i rfl)) a4J m_sum (a8 (a7 0) b9)) b9)))))),?_⟩;intro ns hl;have c4:cutD (ns.map D.int) none (some 4)=(ns.take 4).map .int:=by
  have:=a5z (xs:=ns.map D.int) 4
  rw[<-List.map_take] at this;exact this
 have os:=a7P (n5 ns);have l4:(ns.take 4).length<=4:=by rw[length_take];walk_at "o"
 have h1:1+((ns.take 4).map D.int).length<=1000000:=by rw[zC];walk_at "o"
 have h2:((ns.take 4).map D.int).length<=999999:=by rw[zC];walk_at "o"
 have h3:((ns.take 4).map D.int).length<=999998:=by rw[zC];walk_at "o"
 have h4:((ns.take 4).map D.int).length+1+1<=1000000:=by rw[zC];walk_at "o"
 have h5:1+((ns.take 4).map D.int).length+1<=1000000:=by rw[zC];walk_at "o"
 have h9:(ns.take 4).length<=999998:=by walk_at "o"
 have h6:1+(ns.take 4).length<=1000000:=by walk_at "o"
 have h7:(ns.take 4).length+1+1<=1000000:=by walk_at "o"
 have h8:1+(ns.take 4).length+1<=1000000:=by walk_at "o"
 have ln:=m4 ns;have lt:=m4 (ns.take 4);refine⟨0::(ns.take 4++[ns.sum]),?_⟩;rw[zH,jQ]
 repeat(first|walk_at "z r" | simp only[c4,os,h1,h2,h3,h4,h5,h6,h7,h8,h9,ln,lt,qB,qC,xX,zC])
 try rfl
abbrev N0:Stmt:=top 21
theorem T7:FnScope ["web","one","other","most"] ["web","one","other"] (defScope N0):=by walk_at "c"
def Y0 (g:LO):Prop:=∀(n:Int) (ts:List Tie) (a b lo hi:Int),WebOk n ts->0<=lo->lo<hi->hi<n->(a=lo/\b=hi)\/(a=hi/\b=lo)->∃b0 b2:Int,BstS n (bareT [lo,hi] ts) (up n.toNat) b0/\BstS n (bareT [lo,hi] ts) ((up n.toNat).filter fun x=>decide (x∉[lo,hi])) b2/\g [webD n ts,.int a,.int b]=some (.v (.int (b0-b2)))
theorem a2y {A7:LO}{z8:LO}(A8:Fn P w K mg base "most_by_crowd" k A7)(B0:K3 A7)(z9:Fn P w K mg base "put_gain" k z8)(A4:R1 z8)(m_len:mg "len"=none)(F:Fun K "from_gain" "from_gain" N0 f fd)(B:Binds K fd ["web","one","other"] [])(hm:mg "from_gain"=some (.ref f)):∃g,Fn P w K mg base "from_gain" (k+1) g/\Y0 g:=by
 have nd:=T7.nd
 refine⟨_,w6 F T7 B hm rfl rfl (fun cdv A outer s H E hr=>(c5 (j6 3 nd (k5 A8 hr (a8 (k5 z9 hr (a8 (a7 0) (a8 (a7 1) (a8 (a7 2) (a8 a9 b9))))) b9)))
  (c6 (j8 (w5 (j0 hr (a7 3) (a78 a9)) (j0 hr (a7 3) (w5 (w5 (w5 (qx_b a18 b1p m_len (a8 (a7 3) b9)) a9) (J0 a9 (a7 1))) (J0 a9 (a7 2))))))))),?_⟩
 intro n ts a b lo hi hw h0 h1 h2 h;have hn:=hw.n1;obtain⟨T,pT,e1⟩:=A4 n ts a b lo hi 0 hw h0 h1 h2 h;rw[if_neg (by decide),jP] at pT
 have hu:WebOk n (bareT [lo,hi] ts):=E4 hw _;have wT:WebOk n T:=hu.perm pT;obtain⟨ys,yl,hm,e2⟩:=B0 n T wT;have lw:=D6 n ts;have lT:=D6 n T;have ly:=m4 ys;have gl:(List.replicate n.toNat true).length=n.toNat:=length_replicate;have gt:∀p:Nat,p<n.toNat->(List.replicate n.toNat true).getD p false=true:=fun p hp=>by
  rw[zS,qL (by walk_at "o"),List.getElem_replicate];rfl
 have v1:=D1 (List.replicate n.toNat true) hi.toNat (gt _ (by walk_at "o"))
 have v2:=D1 ((List.replicate n.toNat true).set hi.toNat false) lo.toNat (by rw[a4z,gt _ (by walk_at "o"),zO (by walk_at "o")];rfl)
 rw[L8] at v1;have t1:=qT (n:=hi.toNat);have t2:=qT (n:=lo.toNat);have f0:=hm (List.replicate n.toNat true) gl (by have:=a2o (List.replicate n.toNat true);rw[gl] at this;walk_at "o")
 have f2:=hm (((List.replicate n.toNat true).set hi.toNat false).set lo.toNat false) (by rw[qK,qK];exact gl) (by have:=qT (n:=n.toNat);rw[yl];generalize 2^n.toNat=N at *;generalize 2^hi.toNat=A at *;generalize 2^lo.toNat=B at *;walk_at "o")
 rw[L8,W5] at f0;rw[<-N6 (by walk_at "o") h0,W5] at f2
 obtain⟨V,eV⟩:∃V:Nat,val (((List.replicate n.toNat true).set hi.toNat false).set lo.toNat false)=V:=⟨_,rfl⟩;rw[eV] at f2 v2;have b0:=BstS.perm hu pT f0;have b2:=BstS.perm hu pT f2;have p1:=qT (n:=n.toNat);obtain⟨N,eN⟩:∃N:Nat,2^n.toNat=N:=⟨_,rfl⟩;obtain⟨A,eA⟩:∃A:Nat,2^lo.toNat=A:=⟨_,rfl⟩;obtain⟨B,eB⟩:∃B:Nat,2^hi.toNat=B:=⟨_,rfl⟩;have iA:(1:Int)*2^lo.toNat=(A:Int):=by rw[Int.one_mul,<-eA,xF];rfl
 have iB:(1:Int)*2^hi.toNat=(B:Int):=by rw[Int.one_mul,<-eB,xF];rfl
 rw[eN] at yl b0 p1 v1;rw[eA] at v2;rw[eB] at v1;have al:atI (ys.map D.int) (-1)=some (.int (ys.getD (N-1) 0)):=by
  unfold atI ixN;rw[if_neg (by decide),if_pos (by rw[zC];walk_at "o"),bind_some,zC,qH,show(-1+(ys.length:Int)).toNat=N-1 by walk_at "o",qL (by walk_at "o"),zS,qL (by walk_at "o")]
  rfl
 have a2:=a11 (ns:=ys) (i:=(V:Int)) (by walk_at "o") (by walk_at "o")
 rw[qN] at a2;refine⟨_,_,b0,b2,?_⟩;rcases h with ⟨rfl,rfl⟩|⟨rfl,rfl⟩
 ·have cl:CPow 1 a:=⟨by walk_at "o",by walk_at "o",by decide⟩
  have ch:CPow 1 b:=⟨by walk_at "o",by walk_at "o",by decide⟩
  have ei:(ys.length:Int)-1-(A:Int)-(B:Int)=(V:Int):=by walk_at "o"
  repeat(first|walk_at "z r" | simp only[e1,e2,lw,lT,ly,al,zC,cl,ch,iA,iB,ei,a2])
 ·have cl:CPow 1 b:=⟨by walk_at "o",by walk_at "o",by decide⟩
  have ch:CPow 1 a:=⟨by walk_at "o",by walk_at "o",by decide⟩
  have ei:(ys.length:Int)-1-(B:Int)-(A:Int)=(V:Int):=by walk_at "o"
  repeat(first|walk_at "z r" | simp only[e1,e2,lw,lT,ly,al,zC,cl,ch,iA,iB,ei,a2])
def hasK (a b:Int):D->D
 | .tup xs=>match tupsOf xs with
  | some ks=>.bl (decide ([a,b]∈ks))
  | none=>.bl false
 | _=>.bl false
theorem a1t (a b:Int)(q:List (List Int)):hasK a b (pairD q)= .bl (decide ([a,b]∈q)):=by unfold hasK pairD;dsimp only;rw[C3]
theorem a8l (a b:Int)(qs:List (List (List Int))):((qs.map pairD).filter fun _=>true).map (hasK a b)=(qs.map fun q=>decide ([a,b]∈q)).map .bl:=by
 rw[q8,qS,qS];exact jG fun q _=>a1t a b q
theorem a9s (a b:Int)(q:List (List Int)):oInG false (.tup [.int a,.int b]) (pairD q)=some (.v (.bl (decide ([a,b]∈q)))):=by
 unfold oInG pairD;rw[if_neg (show ¬isDi (D.tup (q.map tupI))=true from zT)];dsimp only;rw[show intsOf [D.int a,.int b]=some [a,b] from n5 [a,b],bind_some,show items (.tup (q.map tupI))=some (q.map tupI) from rfl,bind_some,C3];rfl
abbrev L5:Stmt:=top 32
theorem U3:FnScope ["web","a","b","gain","start","having"] ["web","a","b","gain","start"] (defScope L5):=by walk_at "c"
def Z3 (g:LO):Prop:=∀(n:Int) (ts:List Tie) (a b gn b0 b2:Int),WebOk n ts->0<=a->a<b->b<n->1<=gn->gn<=10^12->BstS n (bareT [a,b] ts) (up n.toNat) b0->BstS n (bareT [a,b] ts) ((up n.toNat).filter fun x=>decide (x∉[a,b])) b2->g [webD n ts,.int a,.int b,.int gn,.int (b0-b2)]=some (.v (.bl true))
theorem a2u {Q6:LO}{z8:LO}(Q4:Fn P w K mg base "all_best" k Q6)(P6:a0y Q6)(z9:Fn P w K mg base "put_gain" k z8)(A4:R1 z8)(F:Fun K "_law_said" "_law_said" L5 f fd)(B:Binds K fd ["web","a","b","gain","start"] [])(hm:mg "_law_said"=some (.ref f)):∃g,Fn P w K mg base "_law_said" (k+1) g/\Z3 g:=by
 have nd:=U3.nd
 refine⟨_,w6 F U3 B hm rfl rfl (fun cdv A outer s H E hr=>(c5 (K0 5 nd (B8 (N:=["pairing","a","b"]) (js:=[none,some 1,some 2]) (li:=none) rfl (u6 (by exact(.own (.cap rfl rfl rfl rfl (.cap rfl rfl rfl rfl .nil)))) rfl (by exact⟨rfl,⟨rfl,trivial⟩⟩) (by rfl)) (G2 (C2 (k5 Q4 hr (a8 (k5 z9 hr (a8 (a7 0) (a8 (a7 1) (a8 (a7 2) (a8 (a7 3) b9))))) b9)))) (fun _ _ _ _=>(c8 0 (show((["pairing","a","b"]:List Str)++[accN]).Nodup by decide +kernel))) (fun _ _ _ _=>B4) (fun _ _ _ _=>(b1C hr (u7 (a8 (a7 1) (a8 (a7 2) b9))) (a7 0)))))
  (c5 (K4 (a95 (a7 3) (a7 4)) (c6 (j8 (a5F a2Y (a7 5)))) v5)
  (c6 (j8 (b0d hr (b01 a2Y (a7 5)) (b0d hr (a7 3) (a7 4)))))))),?_⟩
 intro n ts a b gn b0 b2 hw a0 ab bn g1 g2 h0 h2;obtain⟨T,pT,e1⟩:=A4 n ts a b a b gn hw a0 ab bn (.inl ⟨rfl,rfl⟩);rw[if_pos (by walk_at "o")] at pT
 obtain⟨wT,s1,s2,s3⟩:=said hw a0 ab bn g1 g2 pT h0 h2;have e2:=P6 n T wT;have lw:=D6 n ts;have lT:=D6 n T;have bl:(bestP n T).length<=40320:=zP (jK _ _) (a3p wT);have lb:=B9 (bestP n T);generalize bestP n T=Q at s1 s2 s3 e2 bl lb;have hm:=a8l a b Q;have lh:lfL ((Q.map fun q=>decide ([a,b]∈q)).map D.bl)=true:=t4 fun x hx=>by obtain⟨t,_,rfl⟩:=zE.mp hx;rfl
 have gf:=a4f (neg:=true) (i:=false) (bs:=Q.map fun q=>decide ([a,b]∈q));have gt:=a4f (neg:=false) (i:=true) (bs:=Q.map fun q=>decide ([a,b]∈q));rw[nb_t] at gf;rw[nb_f] at gt;generalize b0-b2=st at s1 s2 s3 ⊢
 repeat(first|walk_at "z r" | simp only[e1,e2,lw,lT,lb])
 rw[l5 (ρ1:=[some (.v (webD n ts)),some (.v (.int a)),some (.v (.int b)),some (.v (.int gn)),some (.v (.int st)),none]) (xs:=Q.map pairD) (fun B=>∃o1:Option D,B=[o1.map .v,some (.v (.int a)),some (.v (.int b))]) (fun _=>true) (hasK a b)]
 ·rw[hm]
  by_cases hg:st<gn
  ·have dg:decide (gn>st)=true:=zL hg;have dg':decide (st<gn)=true:=zL hg;have no:decide (false∈Q.map fun q=>decide ([a,b]∈q))=false:=zO fun z=>by
    obtain⟨q,hq,e⟩:=zE.mp z;exact of_decide_eq_false e (s1 hg q hq)
   rw[no] at gf
   repeat(first|walk_at "z r" | simp only[dg,dg',lh,gf,Bool.not_false])
  ·have dg:decide (gn>st)=false:=zO hg;have dg':decide (st<gn)=false:=zO hg;have yes:decide (true∈Q.map fun q=>decide ([a,b]∈q))=(gn==st):=by
    by_cases e:gn=st
    ·rw[yB.mpr e];obtain⟨q,hq,hk⟩:=s2 e.symm;exact zL (zE.mpr ⟨q,hq,zL hk⟩)
    ·rw[show(gn==st)=false by simpa using e]
     refine zO fun z=>?_;obtain⟨q,hq,k⟩:=zE.mp z;exact s3 (by walk_at "o") q hq (qM k)
   rw[yes] at gt;obtain⟨E,eE⟩:∃E:Bool,(gn==st)=E:=⟨_,rfl⟩;rw[eE] at gt;have bb:(E==E)=true:=beq_self_eq_true _
   repeat(first|walk_at "z r" | simp only[dg,dg',lh,gt,eE,bb])
 ·repeat(first|walk_at "z r" | simp only[e1,e2,lw,lT,lb])
 ·rintro _ ⟨_,rfl⟩;rfl
 ·exact⟨none,rfl⟩
 ·rw[zC];unfold lim;walk_at "o"
 ·rw[hm];exact lh
 ·rintro x hx _ zs ⟨o1,rfl⟩;obtain⟨q,hq,rfl⟩:=zE.mp hx;have gp:=a9s a b q;refine⟨[some (.v (pairD q)),some (.v (.int a)),some (.v (.int b))],.v (.bl (decide ([a,b]∈q))),⟨some _,rfl⟩,?_,rfl,fun _=>⟨?_,.inl (by rw[a1t])⟩⟩
  ·walk_at "q"
  ·repeat(first|walk_at "z r" | simp only[gp])
theorem a9m {C:Prop}{b:D->FS}{xs:List D}{ρ:Ev}{r:Option R}(e:loopF b xs ρ=r)(I:Ev->Prop)(h0:I ρ)(st:∀x ρ,x∈xs->I ρ->∃ρ',(b x ρ=some (.nx ρ')\/b x ρ=some (.ct ρ'))/\I ρ')(c:∀ρ',r=some (.nx ρ')->I ρ'->C):C:=by
 obtain⟨ρ',h,i⟩:=a1G (fun _=>I) xs [] ρ h0 (fun _=>st);exact c ρ' (by rw[<-e];exact h) i
abbrev T1:Stmt:=top 33
theorem a7r:FnScope ["script","cell","left","web","a","b","bare","start","gain"] ["script"] (defScope T1):=by walk_at "c"
theorem b07 {G3:LO}{L7:LO}{Q9:LL}{m6:LL}{C5:LO}{B5:LO}{G9:LO}{K7:LO}{L0:LO}(J2:Fn P w K mg base "_law_cells" k G3)(G4:T6 G3)(M0:Fn P w K mg base "_law_deal" k L7)(K9:Y4 L7)(P4:FnL P w K mg base "_law_web" k Q9)(R6:a0I Q9)(g9:FnL P w K mg base "_law_next" k m6)(c9:D0 m6)(D3:Fn P w K mg base "_law_best" k C5)(C9:Y2 C5)(G1:Fn P w K mg base "_law_apart" k B5)(J8:U5 B5)(G5:Fn P w K mg base "_law_whole" k G9)(J7:S6 G9)(A6:Fn P w K mg base "from_gain" k K7)(C6:Y0 K7)(M7:Fn P w K mg base "_law_said" k L0)(M3:Z3 L0)(v7:mg "tuple"=none)(F:Fun K "law" "law" T1 f fd):FnOk P w K mg base CX0 (k+1) f fd ["script"] (spLaw K):=by
 have nd:=a7r.nd
 refine b1M F a7r rfl rfl (fun cdv A outer s H E hr=>(c5 (E1 qP rfl (C2 (k5 J2 hr (a8 (a7 0) b9))) (c8 1 nd) (c5 (j6 2 nd (k5 M0 hr (a8 (a7 1) b9)))
  (c5 (j6 3 nd (z3 P4 hr (a8 (a7 2) b9)))
  (c5 (K4 (b03 hr (j0 hr (a7 3) a9) a9) (c6 a9e) v5)
  (c5 (j6 4 nd (z3 g9 hr (a8 (a7 2) (a8 (w5 (j0 hr (a7 3) a9) a9) b9))))
  (c5 (j6 5 nd (q9 (q9 (a7 4) a9) (z3 g9 hr (a8 (a7 2) (a8 (w5 (w5 (j0 hr (a7 3) a9) a9) (a7 4)) b9)))))
  (c5 (j6 6 nd (u7 (a8 (j0 hr (a7 3) a9) (a8 (qx_t A5 V3 v7 (a8 (D5 (N:=["tie","a","b"]) (js:=[none,some 4,some 5]) (li:=none) rfl (u6 (by exact(.own (.cap rfl rfl rfl rfl (.cap rfl rfl rfl rfl .nil)))) rfl (by exact⟨rfl,⟨rfl,trivial⟩⟩) (by rfl)) (G2 (C2 (j0 hr (a7 3) a9))) (fun _ _ _ _=>(c8 0 (show((["tie","a","b"]:List Str)++[accN]).Nodup by decide +kernel))) (fun _ _ _ _=>(G7 rfl (a4W hr (U2 (a7 0) a0b (Z7 a9)) (u7 (a8 (a7 1) (a8 (a7 2) b9)))))) (fun _ _ _ _=>(a7 0))) b9)) b9))))
  (c5 (j6 7 nd (w5 (k5 D3 hr (a8 (a7 6) b9)) (k5 D3 hr (a8 (k5 G1 hr (a8 (a7 6) (a8 (w4 (a8 (a7 4) (a8 (a7 5) b9))) b9))) b9))))
  (c5 (K4 (a1L (b0s (a2B (a0E (k5 G5 hr (a8 (k5 A6 hr (a8 (a7 3) (a8 (a7 4) (a8 (a7 5) b9)))) b9)))) (b0s (a4W hr (k5 A6 hr (a8 (a7 3) (a8 (a7 4) (a8 (a7 5) b9)))) (a7 7)) (b1G (a4W hr (k5 A6 hr (a8 (a7 3) (a8 (a7 5) (a8 (a7 4) b9)))) (a7 7)))))) (c6 (j8 a2Y)) v5)
  (c6 (E1 qP rfl (C2 (w4 (a8 (w5 (a7 7) a9) (a8 (a7 7) (a8 (q9 (a7 7) a9) (a8 (q9 a9 (z3 g9 hr (a8 (a7 2) (a8 (W7 a9 a9) b9)))) b9)))))) (c8 8 nd) (c6 (K4 (a1L (a0q (a8I a9 (a7 8) (W7 a9 a9)) (S2 (a2B (a0E (k5 M7 hr (a8 (a7 3) (a8 (a7 4) (a8 (a7 5) (a8 (a7 8) (a8 (a7 7) b9))))))))))) (c6 (j8 a2Y)) v5)))))))))))))
  (c6 (j8 a2Y)))) ?_
 intro ns hl;have ln:=m4 ns;obtain⟨cs,ec⟩:=G4 ns hl;have lc:=m4 cs
 repeat(first|walk_at "z r" | simp only[ln,ec,lc])
 generalize el:loopF _ _ _=r;refine a9m el (fun ρ=>∃x1 x2 x3 x4 x5 x6 x7 x8:Option W,ρ=[some (.v (.lst (ns.map .int))),x1,x2,x3,x4,x5,x6,x7,x8]/\freeO x1=true/\freeO x2=true/\freeO x3=true/\freeO x4=true/\freeO x5=true/\freeO x6=true/\freeO x7=true/\freeO x8=true) ⟨none,none,none,none,none,none,none,none,rfl,rfl,rfl,rfl,rfl,rfl,rfl,rfl,rfl⟩ ?_ ?_
 ·rintro x _ hx ⟨x1,x2,x3,x4,x5,x6,x7,x8,rfl,f1,f2,f3,f4,f5,f6,f7,f8⟩;obtain⟨c,_,rfl⟩:=zE.mp hx;obtain⟨p,e1⟩:=K9 c;obtain⟨n,q,ts,hw,e2⟩:=R6 p;have hn:=hw.n1;have hlen:=hw.len;have lp:∀q,lfC (poolD q)=true:=fun q=>rfl;have lp':∀q,lfW (.o (poolD q))=true:=fun q=>rfl;have lw:=D6 n ts;have ix0:oIxG (webD n ts) (.int 0)=some (.v (.int n)):=rfl;have ix1:oIxG (webD n ts) (.int 1)=some (.v (.tup (ts.map tieD))):=rfl
  by_cases h2:n<2
  ·have d2:decide (n<2)=true:=zL h2;refine⟨_,.inr ?_,some (.v (.int c)),some (.o (poolD q)),some (.v (webD n ts)),x4,x5,x6,x7,x8,rfl,rfl,rfl,rfl,f4,f5,f6,f7,f8⟩
   repeat(first|walk_at "z r" | simp only[f1,f2,f3,e1,lp,lp',e2,lw,ix0,d2])
  ·have d2:decide (n<2)=false:=zO h2;obtain⟨a,q1,ha,e3⟩:=c9 q (n-1) (v3 (by walk_at "o") (by walk_at "o"))
   obtain⟨j,q2,hj,e4⟩:=c9 q1 (n-1-a) (v3 (by walk_at "o") (by walk_at "o"))
   obtain⟨b,eb,hb⟩:∃b:Int,a+1+j=b/\a<b/\b<n:=⟨_,rfl,by walk_at "o",by walk_at "o"⟩
   have km:=a1J [a,b] ts;have hu:WebOk n (bareT [a,b] ts):=E4 hw _;have hA:WebOk n (apartT a b (bareT [a,b] ts)):=E4 hu _;have lb:=C8 (bareT [a,b] ts);obtain⟨b0,h0,e5⟩:=C9 n (bareT [a,b] ts) hu;obtain⟨b2,h2',e6⟩:=C9 n (apartT a b (bareT [a,b] ts)) hA;have h2:=a59 hu ha.1 hb.1 hb.2 h2';have e7:=J8 n (bareT [a,b] ts) a b hu;obtain⟨c0,c2,k0,k2,e8⟩:=C6 n ts a b a b hw ha.1 hb.1 hb.2 (.inl ⟨rfl,rfl⟩);obtain⟨c0',c2',k0',k2',e9⟩:=C6 n ts b a a b hw ha.1 hb.1 hb.2 (.inr ⟨rfl,rfl⟩);rw[BstS.one k0 h0,BstS.one k2 h2] at e8;rw[BstS.one k0' h0,BstS.one k2' h2] at e9;have e10:=J7 (b0-b2);have e11:=fun gn g1 g2=>M3 n ts a b gn b0 b2 hw ha.1 hb.1 hb.2 g1 g2 h0 h2;have lA:=D6 n (apartT a b (bareT [a,b] ts));have e5:C5 [.tup [.int n,.tup ((bareT [a,b] ts).map tieD)]]=some (.v (.int b0)):=e5;have e7:B5 [.tup [.int n,.tup ((bareT [a,b] ts).map tieD)],.lst [.int a,.int b]]=some (.v (webD n (apartT a b (bareT [a,b] ts)))):=e7;obtain⟨j2,q3,hj2,e12⟩:=c9 q2 ((10:Int)^(12:Int).toNat) (v3 (by decide) (by decide))
   have pw:CPow 10 12:=by decide
   obtain⟨st,est⟩:∃st:Int,b0-b2=st:=⟨_,rfl⟩;rw[est] at e8 e9 e10 e11;have ne0:(st==st)=true:=beq_self_eq_true _
   repeat(first|walk_at "z r" | simp only[f1,f2,f3,f4,f5,f6,e1,lp,lp',e2,lw,ix0,d2,e3,e4,eb,ix1])
   rw[l5 (ρ1:=[some (.v (.lst (ns.map .int))),some (.v (.int c)),some (.o (poolD q2)),some (.v (webD n ts)),some (.v (.int a)),some (.v (.int b)),x6,x7,x8]) (xs:=ts.map tieD) (fun B=>∃o1:Option D,B=[o1.map .v,some (.v (.int a)),some (.v (.int b))]) (keyNe [a,b]) id]
   ·rw[km]
    repeat(first|walk_at "z r" | simp only[f6,f7,lb,e5,e6,e7,lA,est,e8,e9,e10,lw,ne0,pw,e12,lp,lp'])
    generalize el2:loopF _ _ _=r2;refine N5 el2 (fun _ ρ=>∃x8:Option W,ρ=[some (.v (.lst (ns.map .int))),some (.v (.int c)),some (.o (poolD q3)),some (.v (webD n ts)),some (.v (.int a)),some (.v (.int b)),some (.v (.tup [.int n,.tup ((bareT [a,b] ts).map tieD)])),some (.v (.int st)),x8]/\freeO x8=true) ⟨x8,rfl,f8⟩ ?_ ?_
    ·rintro d' y _ hy _ ⟨x8,rfl,f8⟩;obtain⟨gn,rfl⟩:∃gn:Int,y= .int gn:=by
      simp only[zK,yD,or_false] at hy;rcases hy with rfl|rfl|rfl|rfl<;>exact⟨_,rfl⟩
     refine⟨_,?_,some (.v (.int gn)),rfl,rfl⟩;have pz:(10:Int)^(12:Int).toNat=10^12:=rfl
     by_cases c1:1<=gn
     ·have d1:decide (1<=gn)=true:=zL c1
      by_cases c2:gn<=10^12
      ·have d3:decide (gn<=(10:Int)^(12:Int).toNat)=true:=zL c2;have e13:=e11 gn c1 c2
       repeat(first|walk_at "z r" | simp only[f8,d1,pw,d3,e13,lw,Bool.and_self,xI])
      ·have d3:decide (gn<=(10:Int)^(12:Int).toNat)=false:=zO c2
       repeat(first|walk_at "z r" | simp only[f8,d1,pw,d3,xI])
     ·have d1:decide (1<=gn)=false:=zO c1
      repeat(first|walk_at "z r" | simp only[f8,d1,pw,jZ])
    ·rintro _ rfl ⟨x8,rfl,f8⟩;exact⟨_,.inl rfl,some (.v (.int c)),some (.o (poolD q3)),some (.v (webD n ts)),some (.v (.int a)),some (.v (.int b)),some (.v (.tup [.int n,.tup ((bareT [a,b] ts).map tieD)])),some (.v (.int st)),x8,rfl,rfl,rfl,rfl,rfl,rfl,rfl,rfl,f8⟩
   ·repeat(first|walk_at "z r" | simp only[ix1])
   ·rintro _ ⟨_,rfl⟩;rfl
   ·exact⟨none,rfl⟩
   ·rw[zC];unfold lim;walk_at "o"
   ·rw[km];exact lb
   ·rintro x hx _ zs ⟨o1,rfl⟩;obtain⟨t,ht,rfl⟩:=F7 hx;have dk:deqL (deq 19) [D.int t.1,.int t.2.1] [.int a,.int b]=some (decide ([t.1,t.2.1]=[a,b])):=E9 [t.1,t.2.1] [a,b];refine⟨[some (.v (.tup [.int t.1,.int t.2.1,.int t.2.2])),some (.v (.int a)),some (.v (.int b))],.v (.tup [.int t.1,.int t.2.1,.int t.2.2]),⟨some _,rfl⟩,?_,?_,fun _=>⟨?_,.inl rfl⟩⟩
    ·walk_at "q"
    ·rw[show keyNe [a,b] (.tup [.int t.1,.int t.2.1,.int t.2.2])= !decide ([t.1,t.2.1]=[a,b]) from rfl]
     repeat(first|walk_at "z r" | simp only[a2k,dk])
    ·walk_at "q"
 ·rintro _ rfl ⟨x1,x2,x3,x4,x5,x6,x7,x8,rfl,_⟩;walk_at "q"
end
end Q73
namespace Q73
open PySem PySem.Spec PyProof.Rows L2 Z
structure DI (K:PySem.W.Frag) (x:Str) (st:Stmt) (f:Addr) (fd:FuncData):Prop where
 a:PySem.W.nsIn K mainGlobals x=some (some (.ref f))
 F:Fun K x x st f fd
theorem DI.mk2 {K:PySem.W.Frag}{x:Str}{st:Stmt}{f:Addr}{od an:Option Addr}{sl:Array (Option Value)}{oc kV dc pm cd ct:Value}(a:PySem.W.nsIn K mainGlobals x=some (some (.ref f)))(l:K.lookup f=some ⟨oc,od,.func (PySem.W.fnOf x x (defArgs st) (defBody st) (defScope st) .none kV dc pm an cd ct),sl⟩)(c:PySem.W.codeIn K cd x=true)(k:PySem.W.keepIn K (.ref f)=true):DI K x st f (PySem.W.fnOf x x (defArgs st) (defBody st) (defScope st) .none kV dc pm an cd ct):=⟨a,a6q l c k⟩
section
variable {P:Program}{w:World}{K:PySem.W.Frag}{mg:Str->Option Value}{base:Heap}{x:Str}{j k:Nat}
theorem _root_.Z.FnS.up {sp:Sp}(F:FnS P w K mg base x j sp)(h:j<=k:=by decide):FnS P w K mg base x k sp:=F.mono h
end
theorem b1R {l:PySem.W.OpenLaw}{w:World}{K:PySem.W.Frag}{h:Heap}{mg:Str->Option Value}{fa f1 f2 f3 f4 f5 f6 f7 f8 f9 f10 f11 f12 f13 f14 f15 f16 f17 f18 f19 f20 f21 f22 f23 f24:Addr}{d1 d2 d3 d4 d5 d6 d7 d8 d9 d10 d11 d12 d13 d14 d15 d16 d17 d18 d19 d20 d21 d22 d23:FuncData}(X:K.In h)(G:h.Ns mainGlobals mg)(hfa:mg "law"=some (.ref fa))
  {od an:Option Addr} {sl:Array (Option Value)} {oc kV dc pm cd ct:Value}
  (i1:DI K "_law_cells" J3 f1 d1) (i2:DI K "_law_mixed" G6 f2 d2) (i3:DI K "_law_deal" L6 f3 d3) (i4:DI K "_law_next" M2 f4 d4) (i5:DI K "_law_tie" R3 f5 d5) (i6:DI K "_law_web" P9 f6 d6) (i7:DI K "_law_best" L9 f7 d7) (i8:DI K "_law_apart" J5 f8 d8) (i9:DI K "_law_whole" J1 f9 d9) (i10:DI K "gains" a2F f10 d10) (i11:DI K "most_by_crowd" A9 f11 d11) (i12:DI K "is_whole" Q0 f12 d12) (i13:DI K "is_person" M8 f13 d13) (i14:DI K "must_be_person" A3 f14 d14) (i15:DI K "two_of" a0R f15 d15) (i16:DI K "put_gain" Q1 f16 d16) (i17:DI K "from_gain" N0 f17 d17) (i18:DI K "pairings_among" A2 f18 d18) (i19:DI K "parties" W4 f19 d19) (i20:DI K "pairings_of" E2 f20 d20) (i21:DI K "worth" a2l f21 d21) (i22:DI K "all_best" Q8 f22 d22) (i23:DI K "_law_said" L5 f23 d23)
  (a:PySem.W.nsIn K mainGlobals "law"=some (some (.ref f24))) (ll:K.lookup f24=some ⟨oc,od,.func (PySem.W.fnOf "law" "law" (defArgs T1) (defBody T1) (defScope T1) .none kV dc pm an cd ct),sl⟩) (c:PySem.W.codeIn K cd "law"=true) (k:PySem.W.keepIn K (.ref f24)=true)
  (y1:PySem.W.nsIn K mainGlobals "sum"=some none) (y2:PySem.W.nsIn K mainGlobals "range"=some none) (y3:PySem.W.nsIn K mainGlobals "divmod"=some none) (y4:PySem.W.nsIn K mainGlobals "tuple"=some none) (y5:PySem.W.nsIn K mainGlobals "max"=some none) (y6:PySem.W.nsIn K mainGlobals "isinstance"=some none) (y7:PySem.W.nsIn K mainGlobals "int"=some none) (y8:PySem.W.nsIn K mainGlobals "bool"=some none) (y9:PySem.W.nsIn K mainGlobals "min"=some none) (y10:PySem.W.nsIn K mainGlobals "sorted"=some none) (y11:PySem.W.nsIn K mainGlobals "len"=some none) (y12:PySem.W.nsIn K mainGlobals "list"=some none) (y13:PySem.W.nsIn K mainGlobals "zip"=some none):
  ∃fd:FuncData,(∀(s:Shared) (v:Value),BindsTo s fd ⟨[v],[]⟩ [("script",v)])/\∀base:Heap,K.In base->base.Ns mainGlobals mg->FnOk l.prog w K mg base CX0 60 fa fd ["script"] (spLaw K):=by
 cases hfa.symm.trans (zZ X G a);have m_sum:=qI X G y1;have k7:=qI X G y2;have a0o:=qI X G y3;have v7:=qI X G y4;have m_max:=qI X G y5;have m5:=qI X G y6;have m_int:=qI X G y7;have W2:=qI X G y8;have m_min:=qI X G y9;have E7:=qI X G y10;have m_len:=qI X G y11;have a34:=qI X G y12;have m_zip:=qI X G y13;refine⟨PySem.W.fnOf "law" "law" (defArgs T1) (defBody T1) (defScope T1) .none kV dc pm an cd ct,fun s v=>.of_eq rfl,fun base _ _=>?_⟩;obtain⟨G3,J2,G4⟩:=a04 (P:=l.prog) (w:=w) (base:=base) (k:=0) m_sum i1.F (i1.F.binds (ps:=["script"]) fun _ _ _ _ _ _ us hl=>us1 hl fun _=>rfl) (zZ X G i1.a);obtain⟨J6,K2,F8⟩:=a03 (P:=l.prog) (w:=w) (base:=base) (k:=0) i2.F (i2.F.binds (ps:=["cell","k"]) fun _ _ _ _ _ _ us hl=>us2 hl fun _ _=>rfl) (zZ X G i2.a);obtain⟨L7,M0,K9⟩:=a2a (P:=l.prog) (w:=w) (base:=base) (k:=1) K2.up F8 k7 i3.F (i3.F.binds (ps:=["cell"]) fun _ _ _ _ _ _ us hl=>us1 hl fun _=>rfl) (zZ X G i3.a);obtain⟨m6,g9,c9⟩:=a2d (P:=l.prog) (w:=w) (base:=base) (k:=0) a0o i4.F (i4.F.binds (ps:=["left","many"]) fun _ _ _ _ _ _ us hl=>us2 hl fun _ _=>rfl) (zZ X G i4.a);obtain⟨Q3,R0,R5⟩:=a2O (P:=l.prog) (w:=w) (base:=base) (k:=1) g9.up c9 i5.F (i5.F.binds (ps:=["left","a","b","kind"]) fun _ _ _ _ _ _ us hl=>us4 hl fun _ _ _ _=>rfl) (zZ X G i5.a);obtain⟨Q9,P4,R6⟩:=a3i (P:=l.prog) (w:=w) (base:=base) (k:=2) g9.up c9 R0.up R5 k7 v7 i6.F (i6.F.binds (ps:=["left"]) fun _ _ _ _ _ _ us hl=>us1 hl fun _=>rfl) (zZ X G i6.a);obtain⟨C5,D3,C9⟩:=a12 (P:=l.prog) (w:=w) (base:=base) (k:=0) k7 m_max i7.F (i7.F.binds (ps:=["web"]) fun _ _ _ _ _ _ us hl=>us1 hl fun _=>rfl) (zZ X G i7.a);obtain⟨B5,G1,J8⟩:=a05 (P:=l.prog) (w:=w) (base:=base) (k:=0) v7 i8.F (i8.F.binds (ps:=["web","people"]) fun _ _ _ _ _ _ us hl=>us2 hl fun _ _=>rfl) (zZ X G i8.a);obtain⟨G9,G5,J7⟩:=a07 (P:=l.prog) (w:=w) (base:=base) (k:=0) m5 m_int W2 i9.F (i9.F.binds (ps:=["found"]) fun _ _ _ _ _ _ us hl=>us1 hl fun _=>rfl) (zZ X G i9.a);obtain⟨N8,N1,N4⟩:=a6I (P:=l.prog) (w:=w) (base:=base) (k:=0) i10.F (i10.F.binds (ps:=["web"]) fun _ _ _ _ _ _ us hl=>us1 hl fun _=>rfl) (zZ X G i10.a);obtain⟨A7,A8,B0⟩:=X0 (P:=l.prog) (w:=w) (base:=base) (k:=1) N1.up N4 k7 m_max i11.F (i11.F.binds (ps:=["web"]) fun _ _ _ _ _ _ us hl=>us1 hl fun _=>rfl) (zZ X G i11.a);obtain⟨P7,P1,P0⟩:=a3x (P:=l.prog) (w:=w) (base:=base) (k:=0) m5 m_int W2 i12.F (i12.F.binds (ps:=["thing"]) fun _ _ _ _ _ _ us hl=>us1 hl fun _=>rfl) (zZ X G i12.a);obtain⟨M9,M6,M1⟩:=a17 (P:=l.prog) (w:=w) (base:=base) (k:=1) P1.up P0 i13.F (i13.F.binds (ps:=["people","thing"]) fun _ _ _ _ _ _ us hl=>us2 hl fun _ _=>rfl) (zZ X G i13.a);obtain⟨z7,t9,u4⟩:=T8 (P:=l.prog) (w:=w) (base:=base) (k:=2) M6.up M1 i14.F (i14.F.binds (ps:=["web","thing"]) fun _ _ _ _ _ _ us hl=>us2 hl fun _ _=>rfl) (zZ X G i14.a);obtain⟨a0V,a0U,a0Z⟩:=a5U (P:=l.prog) (w:=w) (base:=base) (k:=3) t9.up u4 m_min m_max i15.F (i15.F.binds (ps:=["web","one","other"]) fun _ _ _ _ _ _ us hl=>us3 hl fun _ _ _=>rfl) (zZ X G i15.a);obtain⟨z8,z9,A4⟩:=a3h (P:=l.prog) (w:=w) (base:=base) (k:=4) a0U.up a0Z v7 E7 i16.F (i16.F.binds (ps:=["web","one","other","gain"]) fun _ _ _ _ _ _ us hl=>us4 hl fun _ _ _ _=>rfl) (zZ X G i16.a);obtain⟨K7,A6,C6⟩:=a2y (P:=l.prog) (w:=w) (base:=base) (k:=5) A8.up B0 z9.up A4 m_len i17.F (i17.F.binds (ps:=["web","one","other"]) fun _ _ _ _ _ _ us hl=>us3 hl fun _ _ _=>rfl) (zZ X G i17.a);obtain⟨u5,n9,o6⟩:=U6 (P:=l.prog) (w:=w) (base:=base) (k:=0) i18.F (i18.F.binds (ps:=["choices","people"]) fun _ _ _ _ _ _ us hl=>us2 hl fun _ _=>rfl) (zZ X G i18.a);obtain⟨X1,V4,X5⟩:=a3R (P:=l.prog) (w:=w) (base:=base) (k:=0) E7 k7 i19.F (i19.F.binds (ps:=["web"]) fun _ _ _ _ _ _ us hl=>us1 hl fun _=>rfl) (zZ X G i19.a);obtain⟨D9,D7,D8⟩:=a0Y (P:=l.prog) (w:=w) (base:=base) (k:=10) n9.up o6 V4.up X5 a34 k7 i20.F (i20.F.binds (ps:=["web"]) fun _ _ _ _ _ _ us hl=>us1 hl fun _=>rfl) (zZ X G i20.a);obtain⟨Z9,a10,a2s⟩:=a7p (P:=l.prog) (w:=w) (base:=base) (k:=1) N1.up N4 m_sum i21.F (i21.F.binds (ps:=["web","some"]) fun _ _ _ _ _ _ us hl=>us2 hl fun _ _=>rfl) (zZ X G i21.a);obtain⟨Q6,Q4,P6⟩:=a3e (P:=l.prog) (w:=w) (base:=base) (k:=11) D7.up D8 a10.up a2s m_max m_zip i22.F (i22.F.binds (ps:=["web"]) fun _ _ _ _ _ _ us hl=>us1 hl fun _=>rfl) (zZ X G i22.a);obtain⟨L0,M7,M3⟩:=a2u (P:=l.prog) (w:=w) (base:=base) (k:=12) Q4.up P6 z9.up A4 i23.F (i23.F.binds (ps:=["web","a","b","gain","start"]) fun _ _ _ _ _ _ us hl=>us5 hl fun _ _ _ _ _=>rfl) (zZ X G i23.a);exact b07 (P:=l.prog) (w:=w) (base:=base) (k:=59) J2.up G4 M0.up K9 P4.up R6 g9.up c9 D3.up C9 G1.up J8 G5.up J7 A6.up C6 M7.up M3 v7 (a6q (st:=T1) ll c k)
end Q73
open PySem PySem.W PyProof.Rows
namespace PySem.W.Fast
def tw11397853340132537112:=()
def tw5552184784871229278:=()
def tw283401423323695209:=()
def tw4621908109342227691:=()
def tw16413019369584561827:=()
def tw7167128880201375232:=()
def tw3289764353985661878:=()
def tw14919642332146822787:=()
def tw2221818102040130771:=()
def tw12115148369184274938:=()
def tw17416647405939414737:=()
def tw16510375356664211953:=()
def tw14907061659458098914:=()
def tw2217573539463254798:=()
def tw17380509542515638039:=()
def tw748856171539040699:=()
def tw9649553788672263526:=()
def tw15096333625434720737:=()
def tw17007956566203843679:=()
def tw3291335466659445440:=()
def tw9095236008891702528:=()
def tw13718644803032343780:=()
def tw11457874329380020298:=()
def tw8769124006658297712:=()
def tw11650028476707179803:=()
def tw11630958602011491865:=()
def tw13487529354895101811:=()
def tw5834132844444062638:=()
def tw15942902082973329660:=()
def tw10218005698594806752:=()
def tw9852657220474763114:=()
def tw8477499056652618845:=()
def tw757073015321124326:=()
def tw3837905429687333515:=()
def tw12901177878814427330:=()
def tw3442688535652179120:=()
def tw14834387776960688627:=()
def tw12512013209046209416:=()
def tw14535659369609486066:=()
def tw15126462133466723802:=()
def tw6103575390270710156:=()
def tw16246509259698715199:=()
def tw13558638523950949621:=()
def tw10175323344702288237:=()
def tw10772489633220772381:=()
def tw5100560891367209512:=()
def tw8326702460240973428:=()
def tw5721206797293864078:=()
def tw8851113870696129439:=()
def tw12684477104037706528:=()
def tw4586424497684001567:=()
def tw2534999388411527643:=()
def tw17735616134423134555:=()
def tw14187340826745934499:=()
def tw5391500852030014507:=()
def tw6849036322707144925:=()
def tw8143379436806272095:=()
def tw9671050878100521215:=()
def tw15570695474225263018:=()
def tw2701502334348721094:=()
def tw1757872601055880846:=()
def tw16041586048222613920:=()
def tw17238394872837776610:=()
def tw4799840733159930437:=()
def tw13627282987557555945:=()
def tw13671708396365034704:=()
def tw7554451470065291306:=()
def tw10520857132236219737:=()
def tw10100907879009534194:=()
def tw6288826882000866031:=()
def tw15226242679979358787:=()
def tw16595362874958850357:=()
def tw11837800301809297564:=()
def tw6422597376385202346:=()
def tw18390688194845927091:=()
def tw16942638405187873536:=()
def tw5892480884719081387:=()
def tw14344745720943744981:=()
def tw11930577880702168789:=()
def tw5782743118303216791:=()
def tw14859220370206466582:=()
def tw7065321293687054241:=()
def tw14698129667279677029:=()
def tw13580243046070559573:=()
def tw14115079540042947659:=()
def tw9264524925163009772:=()
def tw1953091574867468898:=()
def tw4831329850879675174:=()
def tw5920048508772002198:=()
def tw8889145919567392958:=()
def tw13870211416372268078:=()
def tw6840144143260037771:=()
def tw12805719818373877780:=()
def tw571980027650366369:=()
def tw10710002816392863291:=()
def tw3876644918799511373:=()
def tw2744197636565496974:=()
def tw11883609455438111003:=()
def tw2126984071250421722:=()
def tw4801462934700783239:=()
def tw15412484976389752309:=()
def tw14042719362588759123:=()
def tw12435222420778173793:=()
def tw1231068925491690784:=()
def tw14989396560609551556:=()
def tw314597603720599941:=()
def tw5595678596321879523:=()
def tw3986152145094064520:=()
def tw1476023374318766588:=()
def tw14680648602185234120:=()
end PySem.W.Fast
set_option maxRecDepth 100000 in
set_option maxHeartbeats 0 in
theorem PySem.Challenge.cw_twainhoard_k73_from_which_gain_on_holds : PySem.Challenge.rw_twainhoard_k73_from_which_gain_on.Holds := by
 w_on;o_law;k_head;(case hw=>w_witness2)
 k_fill
 refine Z.walk (l:=PySem.Challenge.rw_twainhoard_k73_from_which_gain_on) rfl rfl (fun w h Y=>PySem.W.kIn_of Y) ?F
 case F=>
  intro w mg fa h KX G hmg
  refine' Q73.b1R KX G hmg (Q73.DI.mk2 ?_ ?_ ?_ ?_) (Q73.DI.mk2 ?_ ?_ ?_ ?_) (Q73.DI.mk2 ?_ ?_ ?_ ?_) (Q73.DI.mk2 ?_ ?_ ?_ ?_) (Q73.DI.mk2 ?_ ?_ ?_ ?_) (Q73.DI.mk2 ?_ ?_ ?_ ?_) (Q73.DI.mk2 ?_ ?_ ?_ ?_) (Q73.DI.mk2 ?_ ?_ ?_ ?_) (Q73.DI.mk2 ?_ ?_ ?_ ?_) (Q73.DI.mk2 ?_ ?_ ?_ ?_) (Q73.DI.mk2 ?_ ?_ ?_ ?_) (Q73.DI.mk2 ?_ ?_ ?_ ?_) (Q73.DI.mk2 ?_ ?_ ?_ ?_) (Q73.DI.mk2 ?_ ?_ ?_ ?_) (Q73.DI.mk2 ?_ ?_ ?_ ?_) (Q73.DI.mk2 ?_ ?_ ?_ ?_) (Q73.DI.mk2 ?_ ?_ ?_ ?_) (Q73.DI.mk2 ?_ ?_ ?_ ?_) (Q73.DI.mk2 ?_ ?_ ?_ ?_) (Q73.DI.mk2 ?_ ?_ ?_ ?_) (Q73.DI.mk2 ?_ ?_ ?_ ?_) (Q73.DI.mk2 ?_ ?_ ?_ ?_) (Q73.DI.mk2 ?_ ?_ ?_ ?_) ?_ ?_ ?_ ?_ ?_ ?_ ?_ ?_ ?_ ?_ ?_ ?_ ?_ ?_ ?_ ?_ ?_
  all_goals try k_is
