import PyProof.Rows.All
import Wide.All
import OpenK.AllK
import Wide.FinOn
import Lean
import PyProof.EqAt
import PyProof.EqKinds
import PyProof.TupleCall
import PyProof.CompUse
import PyProof.SumWalkG
import KE.KSort
import PyProof.EnumMake
import PyProof.Rows.ZipGen
import PyProof.Rows.RuleDivmod
import PyProof.ListRange
import PyProof.DictCompW
import PyProof.ListMulAny
import PyProof.ReprRoads
import PyProof.FitsInt
import PyProof.Rows.MinMaxN
import PyProof.FString
import PyProof.StrWalks
import KE.KIntText
import KE.IntTextLaws
import PyProof.StrLawsTight
import PyProof.StrLawsJoin
import PyProof.StrLawsOccR
import PyProof.StrLawsIdx
import PyProof.FitsReplace
import PyProof.Rows.StrJoinMade
import PyProof.Rows.ReprOcc
import PySem.Challenge.RW_twainhoard_k79_texts_refused
set_option Elab.async false
set_option compiler.extract_closed false
set_option genSizeOf false
set_option genInjectivity false
set_option bootstrap.genMatcherCode false
set_option linter.all false
set_option maxRecDepth 100000
theorem ex5 {α β:Type}{A B C:α->β->Prop}{G:Prop}(h:∃x y,A x y/\B x y/\C x y)(k:∀x y,A x y->B x y->C x y->G):G:=by
 obtain ⟨x,y,a,b,c⟩:=h;exact k x y a b c
open List (mem_filter mem_range mem_filterMap nodup_cons of_mem_zip length_take zip_cons_cons find?_cons any_cons getElem?_set drop_length all_map getElem_mem drop_zero nil_append not_mem_nil drop_drop map_append takeWhile_cons mem_of_mem_drop map_eq_nil_iff any_map sum_cons)
open Option (isSome_map bind_some bind_none getD_some)
open PySem.Heap (size_push)
abbrev zA:=@PySem.wpAny_bind
abbrev zB:=@decide_eq_false
abbrev zC:=@decide_eq_true
abbrev zD:=@List.length_map
abbrev zE:=@PySem.W.mg_of
abbrev zF:=@Nat.lt_of_lt_of_le
abbrev zG:=@List.mem_cons_self
abbrev zH:=@List.mem_cons_of_mem
abbrev zI:=@Nat.le_refl
abbrev zJ:=@PySem.wpAny_mono
abbrev zK:=@PySem.wpAny_pure
abbrev zL:=@List.getElem?_set_ne
abbrev zM:=@List.getElem?_eq_some_iff
abbrev zN:=@PySem.Heap.get?_push_of_some
abbrev zO:=@Nat.le_trans
abbrev zP:=@List.length_append
abbrev zQ:=@List.map_map
abbrev zR:=@List.map_cons
abbrev zS:=@Nat.ne_of_lt
abbrev zT:=@List.mem_cons
abbrev zU:=@List.length_cons
abbrev zV:=@PySem.Heap.lt_size
abbrev zW:=@Bool.false_ne_true
abbrev zX:=@List.size_toArray
abbrev zY:=@List.mem_map
abbrev zZ:=@Int.emod_lt_of_pos
abbrev qA:=@Ne.symm
abbrev qB:=@PySem.Heap.get?_push_size
abbrev qC:=@List.getElem?_append_left
abbrev qD:=@List.mem_append_right
abbrev qE:=@Int.emod_nonneg
abbrev qF:=@Bool.and_eq_true
abbrev qG:=@PySem.W.mg_none_of
abbrev qH:=@Option.map_some
abbrev qI:=@List.getElem?_append_right
abbrev qJ:=@PySem.PassesOwn.never
abbrev qK:=@Nat.zero_le
abbrev qL:=@Nat.pow_le_pow_right
abbrev qM:=@beq_eq_false_iff_ne
abbrev qN:=@Option.map_none
abbrev qO:=@PySem.wpAny_field
abbrev qP:=@decide_eq_true_eq
abbrev qQ:=@PyProof.Rows.slot_tuple_getitem
abbrev qR:=@List.mem_singleton
abbrev qS:=@List.mem_of_getElem?
abbrev qT:=@if_true
abbrev qU:=@List.getElem?_map
abbrev qV:=@Bool.false_and
abbrev qW:=@List.length_drop
abbrev qX:=@List.all_eq_true
abbrev qY:=@PySem.wpAny_truthy_bool
abbrev qZ:=@PySem.wpAny_newObj_type
abbrev jA:=@of_decide_eq_true
abbrev jB:=@Array.length_toList
abbrev jC:=@Option.some.inj
abbrev jD:=@Bool.true_and
abbrev jE:=@PySem.wpAny_callSpecial?_slot
abbrev jF:=@congrArg
abbrev jG:=@PySem.W.kia_one
abbrev jH:=@List.getElem?_eq_getElem
abbrev jI:=@Array.toList_append
abbrev jJ:=@Option.isSome_some
abbrev jK:=@PySem.wpAny_Call_Name_kw
abbrev jL:=@List.takeWhile_append_dropWhile
abbrev jM:=@List.length_set
abbrev jN:=@Bool.eq_iff_iff
abbrev jO:=@Nat.lt_irrefl
abbrev jP:=@PySem.wpAny_holding
abbrev jQ:=@List.filterMap_cons
abbrev jR:=@List.length_singleton
abbrev jS:=@PySem.wpAny_seqItems
abbrev jT:=@List.append_nil
abbrev jU:=@PyProof.Rows.callWith_type1
abbrev jV:=@Nat.sub_self
abbrev jW:=@Bool.false_eq_true
abbrev jX:=@PySem.wpAny_setField_rec
abbrev jY:=@PySem.wpAny_passesOwn
abbrev jZ:=@List.map_nil
abbrev xA:=@PySem.wpAny_standAt
abbrev xB:=@List.getD_eq_getElem?_getD
abbrev xD:=@List.mem_append
abbrev xE:=@List.drop_eq_getElem_cons
abbrev xF:=@List.getElem?_eq_none_iff
abbrev xG:=@Classical.byContradiction
abbrev xK:=@Option.getD_none
abbrev xM:=@List.cons_append
abbrev xN:=@PySem.Str.cps_append
abbrev xO:=@PySem.wpAny_execs_cons
abbrev xQ:=@PySem.wpAny_call_entry
abbrev xR:=@Array.all_eq_true_iff_forall_mem
abbrev xS:=@PySem.mem_of_lookup
abbrev xT:=@PySem.wpAny_getItem_str_slice
abbrev xU:=@PySem.wpAny_execs_nil
abbrev xV:=@PySem.AutoSeq1.wpAny_loadPart'
abbrev xW:=@List.length_nil
abbrev xX:=@PySem.typeIs_str
abbrev xY:=@List.getElem?_cons_succ
abbrev xZ:=@List.drop_eq_nil_of_le
abbrev yA:=@PySem.F.slot_str_split
abbrev yB:=@Option.isSome_none
abbrev yC:=@Option.isSome_iff_exists
abbrev yD:=@PySem.wpAny_loadPart_at
abbrev yE:=@List.take_of_length_le
noncomputable section
local macro_rules | `(tactic| walk_at "o") => `(tactic| first | lia | omega)
namespace L2
open PySem PySem.Spec PyProof.Rows
abbrev Key:=Sum Int Str
def keyIs:Key->Value->Bool
 | .inl k,v=>Value.isInt k v
 | .inr x,v=>Value.isStrOf x v
def keyH (w:World):Key->Int
 | .inl k=>hashInt k
 | .inr x=>hashStr w x
theorem D1:∀{k:Key} {v:Value},keyIs k v=true->(∃i t,k=Sum.inl i/\v=Value.int i t)\/(∃x t,k=Sum.inr x/\v=Value.str x t)
 | .inl i,v,h=>by
  obtain⟨t,e⟩:=Value.isInt_shape (k:=i) (v:=v) h;exact .inl ⟨i,t,rfl,e⟩
 | .inr x,v,h=>by
  obtain⟨t,e⟩:=Value.isStrOf_shape (x:=x) (v:=v) h;exact .inr ⟨x,t,rfl,e⟩
theorem b4n (a b:Int):decide ((Sum.inl a:Key)=Sum.inl b)=(a==b):=by
 by_cases e:a=b
 ·subst e;simp
 ·have h:¬(Sum.inl a:Key)=Sum.inl b:=fun q=>e (Sum.inl.inj q);rw[zB h];exact(qM.mpr e).symm
theorem b2W (a b:Str):decide ((Sum.inr a:Key)=Sum.inr b)=decide (a=b):=by
 by_cases e:a=b
 ·subst e;simp
 ·have h:¬(Sum.inr a:Key)=Sum.inr b:=fun q=>e (Sum.inr.inj q);rw[zB h,zB e]
theorem b4M (a:Int)(b:Str):decide ((Sum.inl a:Key)=Sum.inr b)=false:=zB (fun q=>nomatch q)
theorem b4i (a:Str)(b:Int):decide ((Sum.inr a:Key)=Sum.inl b)=false:=zB (fun q=>nomatch q)
def mixKind (prog:Program) (w:World):PySem.KeyKind prog w Key where
 is:=keyIs
 hash:=keyH w
 inj:=fun v a b ha hb=>by
  rcases D1 ha with ⟨i,t,rfl,rfl⟩|⟨x,t,rfl,rfl⟩
  ·rcases D1 hb with ⟨j,u,rfl,e⟩|⟨y,u,rfl,e⟩
   ·injection e with e1 _;rw[e1]
   ·exact nomatch e
  ·rcases D1 hb with ⟨j,u,rfl,e⟩|⟨y,u,rfl,e⟩
   ·exact nomatch e
   ·injection e with e1 _;rw[e1]
 byValue:=fun k v h=>by
  rcases D1 h with ⟨i,t,rfl,rfl⟩|⟨x,t,rfl,rfl⟩<;>rfl
 pyHash:=fun hv h=>by
  rcases D1 hv with ⟨i,t,rfl,rfl⟩|⟨x,t,rfl,rfl⟩
  ·exact wpAny_pyHash_int h
  ·exact wpAny_pyHash_str h
 eqBool:=fun hu hv h=>by
  rcases D1 hu with ⟨i,t,rfl,rfl⟩|⟨x,t,rfl,rfl⟩
  ·rcases D1 hv with ⟨j,u,rfl,rfl⟩|⟨y,u,rfl,rfl⟩
   ·rw[b4n] at h;exact wpAny_eqBool_int h
   ·rw[b4M] at h;exact SeqAt.EqAt.int_str i t y u _ _ _ _ h
  ·rcases D1 hv with ⟨j,u,rfl,rfl⟩|⟨y,u,rfl,rfl⟩
   ·rw[b4i] at h;exact SeqAt.EqAt.str_int x t j u _ _ _ _ h
   ·rw[b2W] at h;exact wpAny_eqBool_str h
 «strs»:=fun k x t v h=>by
  rcases D1 h with ⟨i,u,rfl,e⟩|⟨y,u,rfl,e⟩
  ·exact nomatch e
  ·injection e with e1 _
   subst e1;cases v<;>rfl
inductive V where
 | non|bl (b:Bool)|int (i:Int)|str (x:Str)|byt (b:Array UInt8)|flt (b:UInt64)|ref (a:Addr)|ty (n:String)
def RelV:V->Value->Prop
 | .non,u=>u=Value.none
 | .bl b,u=>u=Value.bool b
 | .int i,u=>∃t,u=Value.int i t
 | .str x,u=>∃t,u=Value.str x t
 | .byt b,u=>∃t,u=Value.bytes b t
 | .flt b,u=>∃t,u=Value.float b t
 | .ref a,u=>u=Value.ref a
 | .ty n,u=>u=Value.type n
abbrev Vals:List V->List Value->Prop:=Paired RelV
theorem Vals.length {xs:List V}{us:List Value}(r:Vals xs us):xs.length=us.length:=Paired.length r
theorem Vals.get:∀{xs:List V} {us:List Value} {i:Nat} {x:V},Vals xs us->xs[i]? =some x->∃u,us[i]? =some u/\RelV x u
 | _,_,_,_,.nil,e=>by simp at e
 | _,_,0,_,.cons r _,e=>by simp at e;subst e;exact⟨_,rfl,r⟩
 | _,_,i+1,x,.cons _ t,e=>by
  obtain⟨u,h1,h2⟩:=Vals.get (i:=i) (x:=x) t (by simpa using e)
  exact⟨u,by simpa using h1,h2⟩
theorem Vals.set {x:V}{u:Value}(r:RelV x u):∀{xs:List V} {us:List Value} (i:Nat),Vals xs us->Vals (xs.set i x) (us.set i u)
 | _,_,_,.nil=>.nil
 | _,_,0,.cons _ t=>.cons r t
 | _,_,i+1,.cons q t=>.cons q (Vals.set r i t)
theorem Vals.append:∀{xs ys:List V} {us ws:List Value},Vals xs us->Vals ys ws->Vals (xs++ys) (us++ws)
 | _,_,_,_,.nil,s=>s
 | _,_,_,_,.cons r t,s=>.cons r (Vals.append t s)
theorem Vals.take:∀{xs:List V} {us:List Value} (n:Nat),Vals xs us->Vals (xs.take n) (us.take n)
 | _,_,0,_=>.nil
 | _,_,_+1,.nil=>.nil
 | _,_,n+1,.cons r t=>.cons r (Vals.take n t)
theorem Vals.drop:∀{xs:List V} {us:List Value} (n:Nat),Vals xs us->Vals (xs.drop n) (us.drop n)
 | _,_,0,r=>r
 | _,_,_+1,.nil=>.nil
 | _,_,n+1,.cons _ t=>Vals.drop n t
def RelO:Option V->Option Value->Prop
 | some v,some u=>RelV v u
 | none,none=>True
 | _,_=>False
def KV {κ:Type}:List (κ×V)->List (κ×Value)->Prop:=Paired fun(p:κ×V) (q:κ×Value)=>p.1=q.1/\RelV p.2 q.2
def kV:Key->V
 | .inl i=>.int i
 | .inr x=>.str x
inductive HO where
 | lst (xs:List V)
 | tup (xs:List V)
 | dK (kvs:List (Key×V))|dT (kvs:List (List Key×V))
 | set (S:Int->Bool) (n:Nat)
 | ins (C dx:Addr) (fs:List (Str×V))
 | own (x:Addr)
 | xd (fs:List (Str×V))
 | met (f x:Addr)
 | rng (lo hi:Int)
 | frz (o:Obj) (u:HO)
 | tbl (ps:Array Value)
 | ext (φ:Heap->Prop)
abbrev Hp:=Addr->Option HO
def upd (H:Hp) (a:Addr) (o:HO):Hp:=fun b=>if b=a then some o else H b
theorem C3 {H:Hp}{a:Addr}{o:HO}:upd H a o a=some o:=by unfold upd;rw[if_pos rfl]
theorem k8 {H:Hp}{a b:Addr}{o:HO}(h:b≠a):upd H a o b=H b:=by unfold upd;rw[if_neg h]
theorem B4 {H:Hp}{a b:Addr}{o:HO}(h:H a=some o)(h':H b=none):a≠b:=by
 intro e;subst e;rw[h] at h';cases h'
def TupN (h:Heap) (a:Addr) (its:Array Value):Prop:=∃o,h.get? a=some o/\o.cls= .type "tuple"/\(∃n,o.data= .seq its n)/\o.dict=none
theorem TupN.is {h:Heap}{a:Addr}{its:Array Value}(x:TupN h a its):IsTup h a its:=let ⟨o,e,c,d,_⟩:=x;⟨o,e,c,d⟩
theorem TupN.new (h:Heap)(its:Array Value):TupN (h.push {cls:=.type "tuple",data:=.seq its}) h.objs.size its:=⟨_,qB _ rfl,rfl,⟨_,rfl⟩,rfl⟩
section
variable (P:Program)(w:World)
def ObjOk (H:Hp) (h:Heap) (a:Addr):HO->Prop
 | .lst xs=>xs.length<=sizeLine/\∃(its:List Value) (n:Nat),Vals xs its/\h.get? a=some {cls:=.type "list",data:=.seq its.toArray n}
 | .tup xs=>xs.length<=sizeLine/\∃its:List Value,Vals xs its/\TupN h a its.toArray
 | .dK kvs=>kvs.length<=sizeLine/\(a==sysModules)=false/\∃vs,KV kvs vs/\h.DictAt (mixKind P w) a vs kvs.length
 | .dT kvs=>kvs.length<=sizeLine/\(a==sysModules)=false/\∃xs:List (List Key×Addr×Value),
   Paired (fun(p:List Key×V) (q:List Key×Addr×Value)=>p.1=q.1/\H q.2.1=some (.tup (p.1.map kV))/\RelV p.2 q.2.2) kvs xs/\
   ∃o es,h.get? a=some o/\o.ExactDict/\o.data= .dict es kvs.length/\es.toList=xs.map (entryOfKey (tupleKind (mixKind P w)))/\(xs.map (·.1)).Nodup
 | .set S n=>h.SetOf (intKind P w) a S n
 | .ins C dx fs=>H dx=some (.own a)/\fs.length<=1000/\dx≠a/\h.get? a=some (PySem.W.instObj C dx)/\
   ∃mA,h.Ns1 dx mA/\(∀f,RelO (fs.lookup f) (mA f))/\PySem.Within mA (fs.map (·.1))
 | .own _=>∃o,h.get? a=some o
 | .xd fs=>∃mA,h.Ns1 a mA/\∀f,RelO (fs.lookup f) (mA f)
 | .rng lo hi=>∃t u v,h.get? a=some {cls:=.type "range",data:=.fields #[.int lo t,.int hi u,.int 1 v]}
 | .frz o u=>h.get? a=some o/\ObjOk H h a u
 | .tbl ps=>h.get? a=some {cls:=.none,data:=.fields ps}
 | .met f x=>h.get? a=some (PySem.W.methodObj (.ref f) (.ref x))
 | .ext φ=>φ h/\(∃o,h.get? a=some o)/\∀h1 h2:Heap,φ h1->(∀o,h1.get? a=some o->h2.get? a=some o)->φ h2
def HOk (H:Hp) (h:Heap):Prop:=∀a o,H a=some o->ObjOk P w H h a o
end
section
variable {P:Program}{w:World}{H H':Hp}{h h':Heap}{a:Addr}{o:HO}
theorem ObjOk.lt (x:ObjOk P w H h a o):a<h.objs.size:=by
 cases o with
 | lst xs=>obtain⟨_,_,_,_,e⟩:=x;exact zV e
 | tup xs=>obtain⟨_,_,_,p⟩:=x;exact p.is.lt
 | dK kvs=>obtain⟨_,_,_,_,o,_,e,_⟩:=x;exact zV e
 | dT kvs=>obtain⟨_,_,_,_,o,_,e,_⟩:=x;exact zV e
 | set S n=>obtain⟨o,_,_,_,e,_⟩:=x;exact zV e
 | ins C dx fs=>obtain⟨_,_,_,e,_⟩:=x;exact zV e
 | own y=>obtain⟨_,e⟩:=x;exact zV e
 | xd fs=>obtain⟨_,⟨_,_,_,e,_⟩,_⟩:=x;exact zV e
 | rng lo hi=>obtain⟨_,_,_,e⟩:=x;exact zV e
 | frz ob u=>obtain⟨e,_⟩:=x;exact zV e
 | tbl ps=>exact zV (show h.get? a=some _ from x)
 | met f y=>exact zV (show h.get? a=some _ from x)
 | ext φ=>obtain⟨_,⟨_,e⟩,_⟩:=x;exact zV e
theorem Paired.mapP {α β:Type}{F G:α->β->Prop}:∀{l₁:List α} {l₂:List β},Paired F l₁ l₂->(∀a b,F a b->G a b)->Paired G l₁ l₂
 | _,_,.nil,_=>.nil
 | _,_,.cons r t,f=>.cons (f _ _ r) (Paired.mapP t f)
theorem ObjOk.stay (x:ObjOk P w H h a o)(k:∀b u,(b=a\/H b=some (.own a))->h.get? b=some u->h'.get? b=some u)
  (ho:∀b,H b=some (.own a)->H' b=some (.own a)) (ht:∀b xs,H b=some (.tup xs)->H' b=some (.tup xs)):ObjOk P w H' h' a o:=by
 induction o with
 | lst xs=>obtain⟨z,its,n,r,e⟩:=x;exact⟨z,its,n,r,k _ _ (.inl rfl) e⟩
 | tup xs=>obtain⟨z,its,r,ob,e,c⟩:=x;exact⟨z,its,r,ob,k _ _ (.inl rfl) e,c⟩
 | dK kvs=>obtain⟨z,y,vs,r,ob,es,e,c⟩:=x;exact⟨z,y,vs,r,ob,es,k _ _ (.inl rfl) e,c⟩
 | dT kvs=>
  obtain⟨z,y,xs,r,ob,es,e,c⟩:=x;exact⟨z,y,xs,Paired.mapP r fun p q z=>⟨z.1,ht _ _ z.2.1,z.2.2⟩,ob,es,k _ _ (.inl rfl) e,c⟩
 | set S n=>obtain⟨ob,es,ep,t,e,c⟩:=x;exact⟨ob,es,ep,t,k _ _ (.inl rfl) e,c⟩
 | ins C dx fs=>
  obtain⟨d,z,ne,e,mA,⟨od,es,ep,e2,c⟩,r⟩:=x;exact⟨ho _ d,z,ne,k _ _ (.inl rfl) e,mA,⟨od,es,ep,k _ _ (.inr d) e2,c⟩,r⟩
 | own y=>obtain⟨ob,e⟩:=x;exact⟨ob,k _ _ (.inl rfl) e⟩
 | xd fs=>obtain⟨mA,⟨od,es,ep,e,c⟩,r⟩:=x;exact⟨mA,⟨od,es,ep,k _ _ (.inl rfl) e,c⟩,r⟩
 | rng lo hi=>obtain⟨t,u,v,e⟩:=x;exact⟨t,u,v,k _ _ (.inl rfl) e⟩
 | frz ob u ih=>obtain⟨e,q⟩:=x;exact⟨k _ _ (.inl rfl) e,ih q⟩
 | tbl ps=>
  have e:h.get? a=some {cls:=.none,data:=.fields ps}:=x;show h'.get? a=some {cls:=.none,data:=.fields ps};exact k a _ (.inl rfl) e
 | met f y=>
  have e:h.get? a=some (PySem.W.methodObj (.ref f) (.ref y)):=x;show h'.get? a=some (PySem.W.methodObj (.ref f) (.ref y));exact k a _ (.inl rfl) e
 | ext φ=>obtain⟨p,⟨o,e⟩,st⟩:=x;exact⟨st _ _ p fun o q=>k _ _ (.inl rfl) q,⟨o,k _ _ (.inl rfl) e⟩,st⟩
theorem HOk.lt (x:HOk P w H h)(e:H a=some o):a<h.objs.size:=(x a o e).lt
theorem HOk.fresh (x:HOk P w H h)(e:h.objs.size<=a):H a=none:=by
 cases q:H a with
 | none=>rfl
 | some u=>exact absurd (zF (x.lt q) e) (jO _)
theorem HOk.kept (x:HOk P w H h)(k:∀b u,h.get? b=some u->h'.get? b=some u):HOk P w H h':=fun a o e=>
 (x a o e).stay (fun b u _ q=>k b u q) (fun _ q=>q) fun _ _ q=>q
theorem HOk.laid (x:HOk P w H h)(k:∀b u,h.get? b=some u->h'.get? b=some u)(hp:h.objs.size<=a)(new:ObjOk P w (upd H a o) h' a o):HOk P w (upd H a o) h':=fun b u e=>by
 have hn:=x.fresh hp
 by_cases hb:b=a
 ·subst hb;rw[C3] at e;cases e;exact new
 ·rw[k8 hb] at e;exact(x b u e).stay (fun c v _ q=>k c v q) (fun c q=>by rw[k8 (B4 q hn)];exact q) fun c xs q=>by rw[k8 (B4 q hn)];exact q
end
def Rd (H:Hp) (a:Addr) (u:HO):Prop:=H a=some u\/∃o,H a=some (.frz o u)
theorem Rd.ok {P:Program}{w:World}{H:Hp}{h:Heap}{a:Addr}{u:HO}(r:Rd H a u)(x:HOk P w H h):ObjOk P w H h a u:=by
 rcases r with r|⟨o,r⟩
 ·exact x a u r
 ·obtain⟨_,q⟩:=x a _ r;exact q
def Mut:Option HO->Prop
 | some (.lst _)=>True
 | some (.dK _)=>True
 | some (.dT _)=>True
 | some (.set _ _)=>True
 | some (.ins _ _ _)=>True
 | some (.ext _)=>True
 | _=>False
section
variable {P:Program}{w:World}{H:Hp}{h h':Heap}{x e:Addr}{o':HO}
theorem HOk.write (ok:HOk P w H h)(mu:Mut (H x))(he:e=x\/H e=some (.own x))(k:∀b u,b≠e->h.get? b=some u->h'.get? b=some u)(heo:∃u,h'.get? e=some u)
  (new:ObjOk P w (upd H x o') h' x o'):HOk P w (upd H x o') h':=fun b u q=>by
 have nown:∀c y,H c=some (.own y)->c≠x:=fun c y r z=>by subst z;rw[r] at mu;exact mu
 have ntup:∀c xs,H c=some (.tup xs)->c≠x:=fun c xs r z=>by subst z;rw[r] at mu;exact mu
 by_cases hb:b=x
 ·subst hb;rw[C3] at q;cases q;exact new
 ·rw[k8 hb] at q
  by_cases hbe:b=e
  ·have q':H b=some (.own x):=by
    rcases he with z|z
    ·exact absurd (hbe.trans z) hb
    ·rw[hbe];exact z
   rw[q] at q';cases q';obtain⟨v,hv⟩:=heo;exact⟨v,by rw[hbe];exact hv⟩
  ·refine(ok b u q).stay (fun c v hc r=>k c v ?_ r) (fun c r=>by rw[k8 (nown c b r)];exact r) fun c xs r=>by rw[k8 (ntup c xs r)];exact r
   rcases hc with rfl|hc
   ·exact hbe
   ·rintro rfl;rcases he with z|z
    ·exact nown c b hc z
    ·rw[hc] at z;cases z;exact hb rfl
end
structure Un (fs ex:List Addr) (H H':Hp) (h h':Heap):Prop where
 keep:∀b o,h.get? b=some o->H b=none->b∉fs->b∉ex->h'.get? b=some o
 slot:∀b o,h.get? b=some o->H b=none->b∈fs->b∉ex->∃sl,h'.get? b=some {o with slots:=sl}
 free:∀b o,h.get? b=some o->H b=none->b∉ex->H' b=none
 there:∀b o,h.get? b=some o->b∉ex->∃o',h'.get? b=some o'
 tups:∀b xs,H b=some (.tup xs)->H' b=some (.tup xs)
 frzs:∀b o u,H b=some (.frz o u)->H' b=some (.frz o u)
 tbls:∀b ps,H b=some (.tbl ps)->∃more,H' b=some (.tbl (ps++more))
section
variable {fs ex:List Addr}{H H1:Hp}{h h1 h':Heap}{a x e:Addr}{o:HO}
theorem Un.any (u:Un fs ex H H1 h h1){b:Addr}{ob:Obj}(q:h.get? b=some ob)(n:H b=none)(hx:b∉ex):∃sl,h1.get? b=some {ob with slots:=sl}:=by
 by_cases hb:b∈fs
 ·exact u.slot b ob q n hb hx
 ·exact⟨ob.slots,u.keep b ob q n hb hx⟩
theorem Un.kept (k:∀b u,h.get? b=some u->h'.get? b=some u):Un fs ex H H h h':=
 ⟨fun b ob q _ _ _=>k b ob q,fun b ob q _ _ _=>⟨ob.slots,k b ob q⟩,fun _ _ _ n _=>n,fun b ob q _=>⟨ob,k b ob q⟩,fun _ _ q=>q,fun _ _ _ q=>q,fun _ ps q=>⟨#[],by rw[q];simp⟩⟩
theorem Un.refl:Un fs ex H H h h:=Un.kept fun _ _ q=>q
theorem Un.laid (k:∀b u,h.get? b=some u->h'.get? b=some u)(hp:h.objs.size<=a)(hn:H a=none):Un fs ex H (upd H a o) h h' where
 keep:=fun b u q _ _ _=>k b u q
 slot:=fun b u q _ _ _=>⟨u.slots,k b u q⟩
 free:=fun b u q n _=>by rw[k8 (zS (zF (zV q) hp))];exact n
 there:=fun b u q _=>⟨u,k b u q⟩
 tups:=fun b xs q=>by rw[k8 (B4 q hn)];exact q
 frzs:=fun b u xs q=>by rw[k8 (B4 q hn)];exact q
 tbls:=fun b ps q=>⟨#[],by rw[k8 (B4 q hn),q];simp⟩
theorem Un.write (mu:Mut (H x))(he:e=x\/H e=some (.own x))(k:∀b u,b≠e->h.get? b=some u->h'.get? b=some u)(heo:∃u,h'.get? e=some u):Un fs ex H (upd H x o) h h':=by
 have hx:∀b,H b=none->b≠x:=fun b n z=>by subst z;rw[n] at mu;exact mu
 have hb:∀b,H b=none->b≠e:=fun b n z=>by
  subst z;rcases he with r|r
  ·exact hx b n r
  ·rw[n] at r;cases r
 have hm:∀b u,H b=some u->¬Mut (some u)->b≠x:=fun b u q nm z=>by subst z;rw[q] at mu;exact nm mu
 refine⟨fun b u q n _ _=>k b u (hb b n) q,fun b u q n _ _=>⟨u.slots,k b u (hb b n) q⟩,fun b u q n _=>by rw[k8 (hx b n)];exact n,fun b u q _=>?_,
  fun b xs q=>by rw[k8 (hm b _ q fun z=>z)];exact q,fun b u xs q=>by rw[k8 (hm b _ q fun z=>z)];exact q,fun b ps q=>⟨#[],by rw[k8 (hm b _ q fun z=>z),q];simp⟩⟩
 by_cases hbe:b=e
 ·subst hbe;exact heo
 ·exact⟨u,k b u hbe q⟩
end
def trk (h:Heap) (H:Hp):List Addr:=(List.range h.objs.size).filter fun a=>(H a).isSome
def hidT (h:Heap) (H:Hp):Heap:=PySem.W.hideAll h (trk h H)
theorem a8F (h:Heap)(H:Hp):(hidT h H).objs.size=h.objs.size:=PySem.W.hideAll_size _ _
theorem a9q {h:Heap}{H:Hp}{b:Addr}{o:Obj}(e:h.get? b=some o)(n:H b=none):(hidT h H).get? b=some o:=
 PySem.W.hideAll_get _ e fun hm=>by
  have q:(H b).isSome=true:=(mem_filter.mp hm).2;rw[n] at q;simp at q
theorem b2b {h:Heap}{H:Hp}{b:Addr}{o:Obj}(e:(hidT h H).get? b=some o):h.get? b=some o/\H b=none:=by
 have e':h.get? b=some o:=PySem.W.of_hideAll (trk h H) e;refine⟨e',?_⟩;cases q:H b with
 | none=>rfl
 | some x=>
  have hm:b∈trk h H:=mem_filter.mpr ⟨mem_range.mpr (zV e'),by simp[q]⟩
  have z:(hidT h H).get? b=none:=PySem.W.hideAll_none (trk h H) hm;rw[z] at e;cases e
def allNews (g h:Heap) (L:Addr):List (Addr×Obj):=(List.range h.objs.size).filterMap fun a=>if a=L\/(g.get? a).isSome=true then none else(h.get? a).map fun o=>(a,o)
def rest (g h:Heap) (L d:Addr):List (Addr×Obj):=(allNews g h L).filter fun p=>decide (p.1≠d)
structure Mod (K:PySem.W.Frag) (mg:Str->Option Value) (base:Heap):Prop where
 kin:K.In base
 glob:base.Ns mainGlobals mg
 blt:∃mb,base.Ns builtinsNs mb/\∀x:Str,x≠"__name__"->mb x=bootBuiltins x
 nolimit:base.NoLimit
structure Cx where
 prog:Program
 w:World
 K:PySem.W.Frag
 mg:Str->Option Value
 base:Heap
 A:Around
 N:List Str
 s₀:Shared
 H₀:Hp
 env:Env
 outer:List Env
 stack:List Env
 ex:List Addr
 fn:Str->Bool
 calm:Bool
 pn:List (Addr×Obj)
 xe:Value->Shared->Prop
def frs (l:List Env):List Addr:=l.filterMap (·.frame)
abbrev Cx.fs (X:Cx):List Addr:=frs X.outer
def Vis (sc:Scope) (x:Str):Prop:=sc.names.lookup x=some .local\/sc.names.lookup x=some .cell\/sc.names.lookup x=some .free
def Loc (sc:Scope) (x:Str):Prop:=sc.names.lookup x=some .local\/sc.names.lookup x=some .cell
def Look (env:Env) (h:Heap) (m:Str->Option Value) (x:Str) (u:Value):Prop:=
 (env.kindOf x=some .local/\m x=some u)\/((env.kindOf x=some .cell\/env.kindOf x=some .free)/\∃c,env.cells.lookup x=some c/\h.IsCell c (some u))
structure Cx.Ok (X:Cx):Prop where
 mod:Mod X.K X.mg X.base
 kind:X.env.scope.kind= .function
 glob:X.env.globals=mainGlobals
 blt:X.env.builtins=builtinsNs
 above:X.s₀.heap.objs.size<=X.env.locals
 inj:∀x y c,X.env.cells.lookup x=some c->X.env.cells.lookup y=some c->x=y
 has:∀x,(X.env.kindOf x=some .cell\/X.env.kindOf x=some .free)->∃c,X.env.cells.lookup x=some c
 cab:∀x c,X.fn x=true->X.env.cells.lookup x=some c->X.s₀.heap.objs.size<=c
 hd:X.calm=true->X.A.handled=none
 frames:X.A.frames=some X.stack
 stk:X.stack=X.outer\/(X.stack=X.env::X.outer/\X.env.frame=some X.env.locals)
 exf:∀b∈X.ex,b≠X.env.locals/\∀x c,X.env.cells.lookup x=some c->c≠b
 bs:∀b o,X.base.get? b=some o->X.s₀.heap.get? b=some o/\X.H₀ b=none
 bsz:X.base.objs.size<=X.s₀.heap.objs.size
 noex:∀b o,X.base.get? b=some o->b∉X.ex
 exfs:∀b∈X.ex,b∉X.fs
 funs:X.s₀.heap.FunFrames X.base X.outer
 frf:∀b∈X.fs,X.H₀ b=none
structure Inv (X:Cx) (pins:List (Addr×Obj)) (σ:List (Option V)) (H:Hp) (s:Shared):Prop where
 ok:X.Ok
 os:s.os=X.s₀.os
 bare:AllBare s.gens
 base:Un X.fs X.ex X.H₀ H X.s₀.heap s.heap
 loc:∃m,s.heap.Ns X.env.locals m/\∀(i:Nat) (x:Str) (v:V),X.N[i]? =some x->σ[i]? =some (some v)->Vis X.env.scope x->∃u,RelV v u/\Look X.env s.heap m x u
 cell:∀x c,X.env.cells.lookup x=some c->∃v,s.heap.IsCell c v
 free:H X.env.locals=none
 freeC:∀x c,X.env.cells.lookup x=some c->H c=none
 pin:∀p∈X.pn++pins,s.heap.get? p.1=some p.2/\H p.1=none/\p.1≠X.env.locals/\p.1∉X.fs/\∀v,p.2.data≠.cell v
 hok:HOk X.prog X.w H s.heap
 len:σ.length=X.N.length
section
variable {X:Cx}{pins:List (Addr×Obj)}{σ:List (Option V)}{H H':Hp}{s:Shared}{h':Heap}
theorem Cx.Ok.nofr (ok:X.Ok){b:Addr}{o:Obj}(e:X.base.get? b=some o):b∉X.fs:=fun hb=>by
 have:=(ok.funs.mem hb).1
 rw[e] at this;cases this
theorem Inv.bs (I:Inv X pins σ H s):∀b o,X.base.get? b=some o->s.heap.get? b=some o/\H b=none:=fun b o e=>
 ⟨I.base.keep b o (I.ok.bs b o e).1 (I.ok.bs b o e).2 (I.ok.nofr e) (I.ok.noex b o e),I.base.free b o (I.ok.bs b o e).1 (I.ok.bs b o e).2 (I.ok.noex b o e)⟩
theorem Inv.bk (I:Inv X pins σ H s):∀b o,X.base.get? b=some o->s.heap.get? b=some o:=fun b o e=>(I.bs b o e).1
theorem Inv.mod (I:Inv X pins σ H s):Mod X.K X.mg X.base:=I.ok.mod
theorem Inv.kIn (I:Inv X pins σ H s):X.K.In s.heap:=I.ok.mod.kin.keeps I.bk
theorem Inv.lt (I:Inv X pins σ H s):X.env.locals<s.heap.objs.size:=let ⟨_,hn,_⟩:=I.loc;hn.lt
theorem Inv.sz (I:Inv X pins σ H s):X.s₀.heap.objs.size<=s.heap.objs.size:=zO I.ok.above (Nat.le_of_lt I.lt)
theorem Inv.nofs (I:Inv X pins σ H s){a:Addr}(h:s.heap.objs.size<=a):a∉X.fs:=fun hb=>by
 obtain⟨_,o,ho,_⟩:=I.ok.funs.mem hb;exact absurd (zF (zV ho) (zO I.sz h)) (jO _)
theorem Inv.cne (I:Inv X pins σ H s):∀x c,X.env.cells.lookup x=some c->c≠X.env.locals:=fun x c e z=>by
 obtain⟨v,o,ho,hd⟩:=I.cell x c e;obtain⟨m,⟨o',es,ep,ho',hd',_⟩,_⟩:=I.loc;rw[z,ho'] at ho;cases ho;rw[hd'] at hd;cases hd
theorem Inv.funs (I:Inv X pins σ H s):s.heap.FunFrames X.base X.outer:=by
 have all:∀(l:List Env),(∀b∈frs l,b∈X.fs)->X.s₀.heap.FunFrames X.base l->s.heap.FunFrames X.base l:=by
  intro l
  induction l with
  | nil=>intro _ _;trivial
  | cons env r ih=>
   intro hs hl;obtain⟨hk,⟨L,o,hf,hn,ho,hd⟩,hr⟩:=hl;have hL:L∈X.fs:=hs L (by unfold frs;rw[jQ,hf];exact zG)
   obtain⟨sl,e⟩:=I.base.slot L o ho (I.ok.frf L hL) hL fun z=>I.ok.exfs L z hL;exact⟨hk,⟨L,_,hf,hn,e,hd⟩,ih (fun b hb=>hs b (by unfold frs;rw[jQ,hf];exact zH _ hb)) hr⟩
 exact all X.outer (fun _ hb=>hb) I.ok.funs
theorem Inv.stack (I:Inv X pins σ H s):s.heap.FunFrames X.base X.stack:=by
 rcases I.ok.stk with e|⟨e,hf⟩
 ·rw[e];exact I.funs
 ·rw[e];obtain⟨m,hn,_⟩:=I.loc;refine .cons (by rw[I.ok.kind];decide) hf hn ?_ I.funs
  exact Heap.get?_none_of_le (zO I.ok.bsz I.ok.above)
theorem Inv.stkSub (I:Inv X pins σ H s):∀b∈frs X.stack,b∈X.env.locals::X.fs:=fun b hb=>by
 rcases I.ok.stk with e|⟨e,hf⟩
 ·rw[e] at hb;exact zH _ hb
 ·rw[e] at hb;unfold frs at hb;rw[jQ,hf] at hb;exact hb
theorem Inv.stkFree (I:Inv X pins σ H s):∀b∈frs X.stack,H b=none:=fun b hb=>by
 rcases zT.mp (I.stkSub b hb) with e|hb
 ·rw[e];exact I.free
 ·obtain⟨_,o,ho,_⟩:=I.ok.funs.mem hb;exact I.base.free b o ho (I.ok.frf b hb) fun z=>I.ok.exfs b z hb
theorem Inv.step {g':Array GenState}{t':Nat}{d':Drawn}{ch:List Addr}(I:Inv X pins σ H s)
  (hch:∀b∈ch,(b∈X.ex\/X.s₀.heap.objs.size<=b)/\b≠X.env.locals/\(∀x c,X.env.cells.lookup x=some c->c≠b)/\∀p∈X.pn++pins,p.1≠b)
  (keep:∀b o,b≠X.env.locals->b∉X.fs->b∉ch->s.heap.get? b=some o->H b=none->h'.get? b=some o)
  (slot:∀b o,b≠X.env.locals->b∈X.fs->b∉ch->s.heap.get? b=some o->H b=none->∃sl,h'.get? b=some {o with slots:=sl}) (free:∀b o,b∉ch->s.heap.get? b=some o->H b=none->H' b=none)
  (there:∀b o,b∉ch->s.heap.get? b=some o->∃o',h'.get? b=some o')
  (tups:∀b xs,H b=some (.tup xs)->H' b=some (.tup xs)) (frzs:∀b o u,H b=some (.frz o u)->H' b=some (.frz o u)) (tbls:∀b ps,H b=some (.tbl ps)->∃more,H' b=some (.tbl (ps++more)))
  (ns:∀m,s.heap.Ns X.env.locals m->h'.Ns X.env.locals m) (hok:HOk X.prog X.w H' h') (hg:AllBare g'):
  Inv X pins σ H' {s with heap:=h',gens:=g',drawn:=d',toks:=t'}:=by
 have neL:∀b o,X.s₀.heap.get? b=some o->b≠X.env.locals:=fun b o e=>zS (zF (zV e) I.ok.above);have neC:∀b o,X.s₀.heap.get? b=some o->b∉X.ex->b∉ch:=fun b o e hx hb=>by
  rcases(hch b hb).1 with z|z
  ·exact hx z
  ·exact absurd (zF (zV e) z) (jO _)
 have cellK:∀x c,X.env.cells.lookup x=some c->∀v,s.heap.IsCell c v->h'.IsCell c v:=fun x c e v ⟨o,ho,hd⟩=>by
  have nch:c∉ch:=fun z=>(hch c z).2.2.1 x c e rfl
  by_cases hc:c∈X.fs
  ·obtain⟨sl,q⟩:=slot c o (I.cne x c e) hc nch ho (I.freeC x c e);exact⟨_,q,hd⟩
  ·exact⟨o,keep c o (I.cne x c e) hc nch ho (I.freeC x c e),hd⟩
 refine⟨I.ok,I.os,hg,⟨fun b o e n hb hx=>?_,fun b o e n hb hx=>?_,fun b o e n hx=>?_,fun b o e hx=>?_,fun b xs e=>tups b xs (I.base.tups b xs e),fun b o xs e=>frzs b o xs (I.base.frzs b o xs e),fun b ps e=>?_⟩,?_,fun x c e=>?_,?_,fun x c e=>?_,fun p hp=>?_,hok,I.len⟩
 ·exact keep b o (neL b o e) hb (neC b o e hx) (I.base.keep b o e n hb hx) (I.base.free b o e n hx)
 ·obtain⟨sl,e1⟩:=I.base.slot b o e n hb hx;obtain⟨sl',e2⟩:=slot b _ (neL b o e) hb (neC b o e hx) e1 (I.base.free b o e n hx);exact⟨sl',e2⟩
 ·obtain⟨o',e1⟩:=I.base.there b o e hx;exact free b o' (neC b o e hx) e1 (I.base.free b o e n hx)
 ·obtain⟨o',e1⟩:=I.base.there b o e hx;exact there b o' (neC b o e hx) e1
 ·obtain⟨m1,e1⟩:=I.base.tbls b ps e;obtain⟨m2,e2⟩:=tbls b _ e1;exact⟨m1++m2,by rw[e2,Array.append_assoc]⟩
 ·obtain⟨m,hn,hl⟩:=I.loc;refine⟨m,ns m hn,fun i x v e1 e2 e3=>?_⟩;obtain⟨u,r,l⟩:=hl i x v e1 e2 e3;refine⟨u,r,?_⟩;rcases l with l|⟨k,c,e,z⟩
  ·exact .inl l
  ·exact .inr ⟨k,c,e,cellK x c e _ z⟩
 ·obtain⟨v,z⟩:=I.cell x c e;exact⟨v,cellK x c e v z⟩
 ·obtain⟨m,⟨o,_,_,ho,_⟩,_⟩:=I.loc;exact free _ o (fun z=>(hch _ z).2.1 rfl) ho I.free
 ·obtain⟨v,o,ho,hd⟩:=I.cell x c e;exact free c o (fun z=>(hch c z).2.2.1 x c e rfl) ho (I.freeC x c e)
 ·obtain⟨e,n,ne,nf,d⟩:=I.pin p hp;have nch:p.1∉ch:=fun z=>(hch p.1 z).2.2.2 p hp rfl;exact⟨keep p.1 p.2 ne nf nch e n,free p.1 p.2 nch e n,ne,nf,d⟩
theorem Inv.un {t':Nat}(I:Inv X pins σ H s)(u:Un X.fs [] H H' s.heap h')(hok:HOk X.prog X.w H' h'):Inv X pins σ H' {s with heap:=h',toks:=t'}:=by
 obtain⟨m,⟨o,es,ep,ho,r⟩,_⟩:=id I.loc;obtain⟨sl,hL⟩:=u.any ho I.free (by simp)
 exact I.step (g':=s.gens) (d':=s.drawn) (ch:=[]) (fun _ z=>nomatch z) (fun b o _ hb _ e n=>u.keep b o e n hb (by simp)) (fun b o _ hb _ e n=>u.slot b o e n hb (by simp)) (fun b o _ e n=>u.free b o e n (by simp)) (fun b o _ e=>u.there b o e (by simp)) u.tups u.frzs u.tbls (fun m' hm=>by
  obtain⟨o',es',ep',ho',r'⟩:=hm;rw[ho] at ho';cases ho'
  exact⟨_,es',ep',hL,r'⟩) hok I.bare
theorem Inv.call {g':Array GenState}{t':Nat}{d':Drawn}{ch:List Addr}(I:Inv X pins σ H s)(u:Un (frs X.stack) ch H H' s.heap h')(hok:HOk X.prog X.w H' h')(hg:AllBare g')
  (hch:∀b∈ch,(b∈X.ex\/X.s₀.heap.objs.size<=b)/\b≠X.env.locals/\(∀x c,X.env.cells.lookup x=some c->c≠b)/\∀p∈X.pn++pins,p.1≠b):
  Inv X pins σ H' {s with heap:=h',gens:=g',drawn:=d',toks:=t'}:=by
 obtain⟨m,⟨o,es,ep,ho,r⟩,_⟩:=id I.loc;obtain⟨sl,hL⟩:=u.any ho I.free fun z=>(hch _ z).2.1 rfl
 exact I.step (ch:=ch) hch (fun b o hL hb hc e n=>u.keep b o e n (fun z=>(zT.mp (I.stkSub b z)).elim hL hb) hc) (fun b o _ _ hc e n=>u.any e n hc) (fun b o hc e n=>u.free b o e n hc) (fun b o hc e=>u.there b o e hc) u.tups u.frzs u.tbls (fun m' hm=>by
  obtain⟨o',es',ep',ho',r'⟩:=hm;rw[ho] at ho';cases ho'
  exact⟨_,es',ep',hL,r'⟩) hok hg
theorem Inv.turned {t':Nat}{it:Addr}(I:Inv X pins σ H s)(k:∀b o,b≠it->s.heap.get? b=some o->h'.get? b=some o)(hn:H it=none)(hL:it≠X.env.locals)
  (h1:it∈X.ex\/X.s₀.heap.objs.size<=it) (h2:∀x c,X.env.cells.lookup x=some c->c≠it) (h3:∀p∈X.pn++pins,p.1≠it):Inv X pins σ H {s with heap:=h',toks:=t'}:=by
 have nit:∀b u,H b=some u->b≠it:=fun b u e z=>by rw[z,hn] at e;cases e
 refine I.step (g':=s.gens) (d':=s.drawn) (ch:=[it]) (fun b hb=>?_) (fun b o _ _ hc e _=>k b o (fun z=>hc (by simp[z])) e) (fun b o _ _ hc e _=>⟨o.slots,k b o (fun z=>hc (by simp[z])) e⟩) (fun _ _ _ _ n=>n)
  (fun b o hc e=>⟨o,k b o (fun z=>hc (by simp[z])) e⟩) (fun _ _ e=>e) (fun _ _ _ e=>e) (fun b ps e=>⟨#[],by rw[e];simp⟩) (fun m hm=>?_) (fun b u e=>?_) I.bare
 ·have e:b=it:=by simpa using hb
  subst e;exact⟨h1,hL,h2,h3⟩
 ·obtain⟨o,es,ep,ho,r⟩:=hm;exact⟨o,es,ep,k _ o (qA hL) ho,r⟩
 ·refine(I.hok b u e).stay (fun c v hc q=>k c v ?_ q) (fun _ q=>q) fun _ _ q=>q;rcases hc with z|z
  ·rw[z];exact nit b u e
  ·exact nit c _ z
theorem Inv.tok (I:Inv X pins σ H s)(t:Nat):Inv X pins σ H {s with toks:=t}:=I.un (h':=s.heap) (t':=t) Un.refl I.hok
theorem Inv.kept {t':Nat}(I:Inv X pins σ H s)(k:∀b u,s.heap.get? b=some u->h'.get? b=some u):Inv X pins σ H {s with heap:=h',toks:=t'}:=I.un (Un.kept k) (I.hok.kept k)
theorem Inv.laid {a:Addr}{o:HO}{t':Nat}(I:Inv X pins σ H s)(k:∀b u,s.heap.get? b=some u->h'.get? b=some u)(hp:s.heap.objs.size<=a)(new:ObjOk X.prog X.w (upd H a o) h' a o):
  Inv X pins σ (upd H a o) {s with heap:=h',toks:=t'}:=I.un (Un.laid k hp (I.hok.fresh hp)) (I.hok.laid k hp new)
theorem Inv.write {x e:Addr}{o:HO}{t':Nat}(I:Inv X pins σ H s)(mu:Mut (H x))(he:e=x\/H e=some (.own x))(k:∀b u,b≠e->s.heap.get? b=some u->h'.get? b=some u)(heo:∃u,h'.get? e=some u)
  (new:ObjOk X.prog X.w (upd H x o) h' x o):Inv X pins σ (upd H x o) {s with heap:=h',toks:=t'}:=I.un (Un.write mu he k heo) (I.hok.write mu he k heo new)
theorem Inv.pins_of {pins':List (Addr×Obj)}(I:Inv X pins σ H s)(h:∀p∈pins',s.heap.get? p.1=some p.2/\H p.1=none/\p.1≠X.env.locals/\p.1∉X.fs/\∀v,p.2.data≠.cell v):Inv X pins' σ H s:=
 ⟨I.ok,I.os,I.bare,I.base,I.loc,I.cell,I.free,I.freeC,fun p hp=>(xD.mp hp).elim (fun z=>I.pin p (List.mem_append_left _ z)) (h p),I.hok,I.len⟩
theorem a4e {N:List Str}(hN:N.Nodup){i j:Nat}{x:Str}(a:N[i]? =some x)(b:N[j]? =some x):i=j:=by
 obtain⟨h1,e1⟩:=zM.mp a;obtain⟨h2,e2⟩:=zM.mp b;exact(List.getElem_inj hN).mp (e1.trans e2.symm)
theorem a8C {M:Model}{A:Around}{E:Value->Shared->Prop}{i:Nat}{x:Str}{v:V}{u:Value}{Q:Unit->Shared->Prop}(I:Inv X pins σ H s)(hN:X.N.Nodup)(hi:X.N[i]? =some x)(hx:Loc X.env.scope x)(r:RelV v u)
  (h:∀s',Inv X pins (σ.set i (some v)) H s'->(∃a,Heap.SameBut a s.heap s'.heap/\(a=X.env.locals\/X.env.cells.lookup x=some a))->Q () s') (hf:X.fn x=true\/X.env.scope.names.lookup x=some .local:=by first|exact .inl rfl|exact .inr rfl|assumption):wpAny M A (storeName X.env x u) Q E s:=by
 obtain⟨m,hn,hl⟩:=id I.loc;have hcls:(X.env.scope.kind == .class||(X.env.scope.kind == .module&&X.env.locals != X.env.globals))=false:=by rw[I.ok.kind];rfl
 have hiσ:i<σ.length:=by rw[I.len];exact(zM.mp hi).1
 have cne:=I.cne;have tracked:∀{a:Addr} {h':Heap},(∃o,s.heap.get? a=some o/\H a=none)->Heap.SameBut a s.heap h'->HOk X.prog X.w H h':=fun{a h'} ha hs b ob e=>by
  obtain⟨_,_,hfree⟩:=ha;refine(I.hok b ob e).stay (fun c w' hc q=>(hs.2 c ?_).trans q) (fun _ q=>q) fun _ _ q=>q;rintro rfl;rcases hc with rfl|hc
  ·rw[hfree] at e;cases e
  ·rw[hfree] at hc;cases hc
 rcases hx with hk|hk
 ·refine wpAny_storeName_local hk hn (fun h' hn' hs=>?_) hcls;obtain⟨oL,_,_,hoL,_⟩:=id hn;refine h _ ⟨I.ok,I.os,I.bare,⟨fun b o e n hb hx=>?_,fun b o e n hb hx=>?_,I.base.free,fun b o e hx=>?_,I.base.tups,I.base.frzs,I.base.tbls⟩,⟨_,hn',fun j y v' e1 e2 e3=>?_⟩,fun y c e=>?_,I.free,I.freeC,fun p hp=>?_,tracked ⟨oL,hoL,I.free⟩ hs,by simpa using I.len⟩ ⟨_,hs,.inl rfl⟩
  ·exact(hs.2 b (zS (zF (zV e) I.ok.above))).trans (I.base.keep b o e n hb hx)
  ·obtain⟨sl,e1⟩:=I.base.slot b o e n hb hx;exact⟨sl,(hs.2 b (zS (zF (zV e) I.ok.above))).trans e1⟩
  ·obtain⟨o',e1⟩:=I.base.there b o e hx;exact⟨o',(hs.2 b (zS (zF (zV e) I.ok.above))).trans e1⟩
  ·by_cases hj:j=i
   ·subst hj;rw[hi] at e1;cases e1;rw[List.getElem?_set_self hiσ] at e2;cases e2;exact⟨u,r,.inl ⟨hk,by simp⟩⟩
   ·rw[zL (qA hj)] at e2;obtain⟨u',r',q⟩:=hl j y v' e1 e2 e3;refine⟨u',r',?_⟩;rcases q with ⟨k,e⟩|⟨k,c,e,z⟩
    ·refine .inl ⟨k,?_⟩
     have:y≠x:=fun e=>hj (a4e hN e1 (e▸hi))
     simp[this,e]
    ·exact .inr ⟨k,c,e,z.sameBut hs (cne y c e)⟩
  ·obtain⟨w',z⟩:=I.cell y c e;exact⟨w',z.sameBut hs (cne y c e)⟩
  ·obtain⟨e,n,ne,nf,d⟩:=I.pin p hp;exact⟨(hs.2 p.1 ne).trans e,n,ne,nf,d⟩
 ·have hfn:X.fn x=true:=by
   rcases hf with z|z
   ·exact z
   ·rw[z] at hk;cases hk
  obtain⟨c,hc⟩:=I.ok.has x (.inl hk);obtain⟨w',z⟩:=I.cell x c hc;refine wpAny_storeName_cell I.ok.kind hk hc z (fun h' hc' hs=>?_);obtain⟨oc,hoc,hocd⟩:=id z;refine h {s with heap:=h'} ⟨I.ok,I.os,I.bare,⟨fun b o e n hb hx=>?_,fun b o e n hb hx=>?_,I.base.free,fun b o e hx=>?_,I.base.tups,I.base.frzs,I.base.tbls⟩,⟨m,hn.sameBut hs (qA (cne x c hc)),fun j y v' e1 e2 e3=>?_⟩,fun y c' e=>?_,I.free,I.freeC,fun p hp=>?_,tracked ⟨oc,hoc,I.freeC x c hc⟩ hs,by simpa using I.len⟩ ⟨c,hs,.inr hc⟩
  ·exact(hs.2 b (zS (zF (zV e) (I.ok.cab x c hfn hc)))).trans (I.base.keep b o e n hb hx)
  ·obtain⟨sl,e1⟩:=I.base.slot b o e n hb hx;exact⟨sl,(hs.2 b (zS (zF (zV e) (I.ok.cab x c hfn hc)))).trans e1⟩
  ·obtain⟨o',e1⟩:=I.base.there b o e hx;exact⟨o',(hs.2 b (zS (zF (zV e) (I.ok.cab x c hfn hc)))).trans e1⟩
  ·by_cases hj:j=i
   ·subst hj;rw[hi] at e1;cases e1;rw[List.getElem?_set_self hiσ] at e2;cases e2;exact⟨u,r,.inr ⟨.inl hk,c,hc,hc'⟩⟩
   ·rw[zL (qA hj)] at e2;obtain⟨u',r',q⟩:=hl j y v' e1 e2 e3;refine⟨u',r',?_⟩;rcases q with q|⟨k,c',e,z'⟩
    ·exact .inl q
    ·refine .inr ⟨k,c',e,z'.sameBut hs ?_⟩;rintro rfl;exact hj (a4e hN e1 (I.ok.inj _ _ _ e hc▸hi))
  ·by_cases hcc:c'=c
   ·subst hcc;exact⟨_,hc'⟩
   ·obtain⟨w2,z2⟩:=I.cell y c' e;exact⟨w2,z2.sameBut hs hcc⟩
  ·obtain⟨e,n,ne,nf,d⟩:=I.pin p hp;refine⟨(hs.2 p.1 ?_).trans e,n,ne,nf,d⟩;intro q;rw[q,hoc] at e;have q':oc=p.2:=jC e;exact d w' (by rw[<-q'];exact hocd)
theorem a0O {M:Model}{A:Around}{E:Value->Shared->Prop}{i:Nat}{x:Str}{v:V}{u:Value}{Q:Unit->Shared->Prop}(I:Inv X pins σ H s)(hN:X.N.Nodup)(hi:X.N[i]? =some x)(hx:Loc X.env.scope x)(r:RelV v u)
  (h:∀s',Inv X pins (σ.set i (some v)) H s'->Q () s') (hf:X.fn x=true\/X.env.scope.names.lookup x=some .local:=by first|exact .inl rfl|exact .inr rfl|assumption):wpAny M A (storeName X.env x u) Q E s:=
 a8C I hN hi hx r (fun s' I' _=>h s' I') hf
theorem Inv.call' {s':Shared}{ch:List Addr}(I:Inv X pins σ H s)(ho:s'.os=s.os)(u:Un (frs X.stack) ch H H' s.heap s'.heap)(hok:HOk X.prog X.w H' s'.heap)(hg:AllBare s'.gens)
  (hch:∀b∈ch,(b∈X.ex\/X.s₀.heap.objs.size<=b)/\b≠X.env.locals/\(∀x c,X.env.cells.lookup x=some c->c≠b)/\∀p∈X.pn++pins,p.1≠b):Inv X pins σ H' s':=by
 obtain⟨h',g',d',t',o'⟩:=s';have e:o'=s.os:=ho;subst e;exact I.call (g':=g') (t':=t') (d':=d') u hok hg hch
end
abbrev XK:=Value->Option Addr->Hp->Prop
abbrev St:=List (Option V)
abbrev VK:=V->Hp->Prop
abbrev TE:=St->Hp->VK->Prop
abbrev TT:=St->Hp->(Bool->Hp->Prop)->Prop
abbrev TA:=St->Hp->(List V->Hp->Prop)->Prop
structure Ends where
 nx:St->Hp->Prop
 rt:VK
 bk:St->Hp->Prop:=fun _ _=>False
 ct:St->Hp->Prop:=fun _ _=>False
abbrev TS:=Ends->St->Hp->Prop
def EP (X:Cx) (pins:List (Addr×Obj)) (σ:St) (Q:VK) (u:Value) (s':Shared):Prop:=∃v H',Inv X pins σ H' s'/\RelV v u/\Q v H'
def TP (X:Cx) (pins:List (Addr×Obj)) (σ:St) (Q:Bool->Hp->Prop) (b:Bool) (s':Shared):Prop:=∃H',Inv X pins σ H' s'/\Q b H'
def AP (X:Cx) (pins:List (Addr×Obj)) (σ:St) (Q:List V->Hp->Prop) (us:List Value) (s':Shared):Prop:=∃vs H',Inv X pins σ H' s'/\Vals vs us/\Q vs H'
def SP (X:Cx) (pins:List (Addr×Obj)) (D:Ends) (f:Flow) (s':Shared):Prop:=
 match f with
 | .next=>∃σ' H',Inv X pins σ' H' s'/\D.nx σ' H'
 | .brk=>∃σ' H',Inv X pins σ' H' s'/\D.bk σ' H'
 | .cont=>∃σ' H',Inv X pins σ' H' s'/\D.ct σ' H'
 | .ret u=>∃v σ' H',Inv X pins σ' H' s'/\RelV v u/\D.rt v H'
def PE (X:Cx) (e:Expr) (t:TE):Prop:=
 ∀(pins:List (Addr×Obj)) (s:Shared) (σ:St) (H:Hp) (Q:VK),Inv X pins σ H s->t σ H Q->wpAny (model X.prog X.w) X.A (eval e X.env) (EP X pins σ Q) X.xe s
def PT (X:Cx) (e:Expr) (t:TT):Prop:=
 ∀(pins:List (Addr×Obj)) (s:Shared) (σ:St) (H:Hp) (Q:Bool->Hp->Prop),Inv X pins σ H s->t σ H Q->wpAny (model X.prog X.w) X.A (isTrue e X.env (eval e X.env)) (TP X pins σ Q) X.xe s
def PW (X:Cx) (e:Expr) (t:TT):Prop:=
 ∀(whole:Sem Value) (pins:List (Addr×Obj)) (s:Shared) (σ:St) (H:Hp) (Q:Bool->Hp->Prop),Inv X pins σ H s->t σ H Q->wpAny (model X.prog X.w) X.A (isTrue e X.env whole) (TP X pins σ Q) X.xe s
theorem PW.pt {X:Cx}{e:Expr}{t:TT}(h:PW X e t):PT X e t:=h _
def PA (X:Cx) (es:List Expr) (t:TA):Prop:=
 ∀(pos:Pos) (pins:List (Addr×Obj)) (s:Shared) (σ:St) (H:Hp) (Q:List V->Hp->Prop),Inv X pins σ H s->t σ H Q->wpAny (model X.prog X.w) X.A (spliced (backTo pos (starEach es X.env))) (AP X pins σ Q) X.xe s
def PS (X:Cx) (st:Stmt) (t:TS):Prop:=
 ∀(pins:List (Addr×Obj)) (s:Shared) (σ:St) (H:Hp) (D:Ends),Inv X pins σ H s->t D σ H->wpAny (model X.prog X.w) X.A (exec st X.env) (SP X pins D) X.xe s
def PSs (X:Cx) (st:List Stmt) (t:TS):Prop:=
 ∀(pins:List (Addr×Obj)) (s:Shared) (σ:St) (H:Hp) (D:Ends),Inv X pins σ H s->t D σ H->wpAny (model X.prog X.w) X.A (execs st X.env) (SP X pins D) X.xe s
theorem thn {α:Type}{t:Sem α}{Q Q':α->Shared->Prop}{M:Model}{A:Around}{E:Value->Shared->Prop}{s:Shared}(h:wpAny M A t Q E s)(hQ:∀a s,Q a s->Q' a s):wpAny M A t Q' E s:=zJ h hQ fun _ _ x=>x
section
variable {X:Cx}
def tVar (i:Nat):TE:=fun σ H Q=>∃v,σ[i]? =some (some v)/\Q v H
def tC (v:V):TE:=fun _ H Q=>Q v H
theorem a91 {i:Nat}{x:Str}{pos:Pos}(hN:X.N[i]? =some x)(hv:Vis X.env.scope x)(hd:(x==("__debug__":Str))=false:=by decide)(hcd:(x==("__classdict__":Str))=false:=by decide):PE X (.Name x pos) (tVar i):=by
 intro pins s σ H Q I h;obtain⟨v,e,h⟩:=h;obtain⟨m,hn,hl⟩:=I.loc;obtain⟨u,r,l⟩:=hl i x v hN e hv;have fin:EP X pins σ Q u s:=⟨v,H,I,r,h⟩;rcases l with ⟨hk,hm⟩|⟨hk,c,hc,hcell⟩
 ·exact wpAny_Name (wpAny_loadName_local I.ok.kind hk hn hm fin) hd
 ·rcases hk with hk|hk
  ·exact wpAny_Name (wpAny_loadName_cell I.ok.kind hk hc hcell fin) hd
  ·exact wpAny_Name (wpAny_loadName_free I.ok.kind hk hc hcell fin hcd) hd
theorem b3m {i j pos}:PE X (.Constant (.int i) j pos) (tC (.int i)):=fun _ _ _ H _ I h=>wpAny_Constant_int ⟨.int i,H,I.tok _,⟨_,rfl⟩,h⟩
theorem pe_bl {b j pos}:PE X (.Constant (.bool b) j pos) (tC (.bl b)):=fun _ _ _ H _ I h=>Constant_bool ⟨.bl b,H,I,rfl,h⟩
theorem b3U {j pos}:PE X (.Constant .none j pos) (tC .non):=fun _ _ _ H _ I h=>Constant_none ⟨.non,H,I,rfl,h⟩
theorem b3M {x j pos}:PE X (.Constant (.str x) j pos) (tC (.str x)):=fun _ _ _ H _ I h=>Calls.Constant_str ⟨.str x,H,I.tok _,⟨_,rfl⟩,h⟩
def Gl (X:Cx) (x:Str):Prop:=X.env.kindOf x=some .globalImplicit
theorem W1 {E:Value->Shared->Prop}{pins:List (Addr×Obj)}{s:Shared}{σ:St}{H:Hp}{x:Str}{u:Value}{pos:Pos}{Q:Value->Shared->Prop}(I:Inv X pins σ H s)(hg:Gl X x)(hm:X.mg x=some u)(h:Q u s)
  (hd:(x==("__debug__":Str))=false:=by decide):wpAny (model X.prog X.w) X.A (eval (.Name x pos) X.env) Q E s:=
 Calls.Name_function_global I.ok.kind hg (Calls.loadGlobal_global (by rw[I.ok.glob];exact I.mod.glob.keeps I.bk) hm h) hd
theorem a2F {E:Value->Shared->Prop}{pins:List (Addr×Obj)}{s:Shared}{σ:St}{H:Hp}{x:Str}{u:Value}{pos:Pos}{Q:Value->Shared->Prop}(I:Inv X pins σ H s)(hg:Gl X x)(hm:X.mg x=none)(hv:bootBuiltins x=some u)(h:Q u s)
  (hn:x≠"__name__":=by decide) (hd:(x==("__debug__":Str))=false:=by decide):wpAny (model X.prog X.w) X.A (eval (.Name x pos) X.env) Q E s:=by
 obtain⟨mb,h1,h2⟩:=I.mod.blt;exact Calls.Name_function_global I.ok.kind hg (Calls.loadGlobal_builtin (by rw[I.ok.glob];exact I.mod.glob.keeps I.bk) hm (by rw[I.ok.blt];exact h1.keeps I.bk) ((h2 x hn).trans hv) h) hd
theorem a2D {x:Str}{v:V}{u:Value}{pos:Pos}(hg:Gl X x)(hm:X.mg x=some u)(r:RelV v u)(hd:(x==("__debug__":Str))=false:=by decide):PE X (.Name x pos) (tC v):=
 fun _ _ _ H _ I h=>W1 I hg hm ⟨v,H,I,r,h⟩ hd
theorem a8f {x:Str}{v:V}{u:Value}{pos:Pos}(hg:Gl X x)(hm:X.mg x=none)(hv:bootBuiltins x=some u)(r:RelV v u)(hn:x≠"__name__":=by decide)(hd:(x==("__debug__":Str))=false:=by decide):PE X (.Name x pos) (tC v):=
 fun _ _ _ H _ I h=>a2F I hg hm hv ⟨v,H,I,r,h⟩ hn hd
variable {a b:Expr}{ta tb:TE}{pos:Pos}
variable {tA tB':TT}{rest:List Expr}
def tAnd (t u:TT):TT:=fun σ H Q=>t σ H fun c H1=>if c=true then u σ H1 Q else Q false H1
def tOr (t u:TT):TT:=fun σ H Q=>t σ H fun c H1=>if c=true then Q true H1 else u σ H1 Q
def tNot (t:TT):TT:=fun σ H Q=>t σ H fun c H1=>Q (!c) H1
theorem pw_and1 (ha:PT X a tA):PW X (.BoolOp .And [a] pos) tA:=by
 intro wh pins s σ H Q I h;refine isTrue_and (thn (ha pins s σ H Q I h) fun c s1 e=>?_);cases c with
 | true=>exact isTrue_and_nil e
 | false=>exact e
theorem pw_or1 (ha:PT X a tA):PW X (.BoolOp .Or [a] pos) tA:=by
 intro wh pins s σ H Q I h;refine isTrue_or (thn (ha pins s σ H Q I h) fun c s1 e=>?_);cases c with
 | false=>exact isTrue_or_nil e
 | true=>exact e
theorem pw_and (ha:PT X a tA)(hb:PW X (.BoolOp .And (b::rest) pos) tB'):PW X (.BoolOp .And (a::b::rest) pos) (tAnd tA tB'):=by
 intro wh pins s σ H Q I h;refine isTrue_and (thn (ha pins s σ H _ I h) fun c s1 ⟨H1,I1,q1⟩=>?_);cases c with
 | true=>exact hb wh pins s1 σ H1 Q I1 q1
 | false=>exact⟨H1,I1,q1⟩
theorem pw_or (ha:PT X a tA)(hb:PW X (.BoolOp .Or (b::rest) pos) tB'):PW X (.BoolOp .Or (a::b::rest) pos) (tOr tA tB'):=by
 intro wh pins s σ H Q I h;refine isTrue_or (thn (ha pins s σ H _ I h) fun c s1 ⟨H1,I1,q1⟩=>?_);cases c with
 | true=>exact⟨H1,I1,q1⟩
 | false=>exact hb wh pins s1 σ H1 Q I1 q1
theorem b3W (ha:PT X a tA):PT X (.UnaryOp .Not a pos) (tNot tA):=by
 intro pins s σ H Q I h;exact isTrue_not (ha pins s σ H (fun c H1=>Q (!c) H1) I h)
def tAndV (ta tb:TE):TE:=fun σ H Q=>ta σ H fun x H1=>∃c,x= .bl c/\if c=true then tb σ H1 Q else Q (.bl false) H1
def tOrV (ta tb:TE):TE:=fun σ H Q=>ta σ H fun x H1=>∃c,x= .bl c/\if c=true then Q (.bl true) H1 else tb σ H1 Q
theorem b23 {op}{t:TE}(h:PE X a t):PE X (.BoolOp op [a] pos) t:=fun pins s σ H Q I hw=>BoolOp_one (h pins s σ H Q I hw)
theorem b4L (ha:PE X a ta)(hb:PE X (.BoolOp .And (b::rest) pos) tb):PE X (.BoolOp .And (a::b::rest) pos) (tAndV ta tb):=by
 intro pins s σ H Q I h;refine BoolOp_and (thn (ha pins s σ H _ I h) fun v s1 h0=>ex5 h0 fun x H1 I1 r1 q1=>?_);obtain⟨c,rfl,q1⟩:=q1;cases r1;refine qY ?_;cases c with
 | true=>exact hb pins s1 σ H1 Q I1 q1
 | false=>exact⟨.bl false,H1,I1,rfl,q1⟩
theorem pe_or (ha:PE X a ta)(hb:PE X (.BoolOp .Or (b::rest) pos) tb):PE X (.BoolOp .Or (a::b::rest) pos) (tOrV ta tb):=by
 intro pins s σ H Q I h;refine BoolOp_or (thn (ha pins s σ H _ I h) fun v s1 h0=>ex5 h0 fun x H1 I1 r1 q1=>?_);obtain⟨c,rfl,q1⟩:=q1;cases r1;refine qY ?_;cases c with
 | false=>exact hb pins s1 σ H1 Q I1 q1
 | true=>exact⟨.bl true,H1,I1,rfl,q1⟩
def tIf (t:TT) (ta tb:TE):TE:=fun σ H Q=>t σ H fun c H1=>if c=true then ta σ H1 Q else tb σ H1 Q
theorem b0p {c:Expr}(hc:PT X c tA)(ha:PE X a ta)(hb:PE X b tb):PE X (.IfExp c a b pos) (tIf tA ta tb):=by
 intro pins s σ H Q I h;refine wpAny_IfExp (thn (hc pins s σ H _ I h) fun d s1 ⟨H1,I1,q1⟩=>?_);cases d with
 | true=>exact ha pins s1 σ H1 Q I1 q1
 | false=>exact hb pins s1 σ H1 Q I1 q1
end
def SqL (K:PySem.W.Frag) (H:Hp) (a:Addr) (xs:List V):Prop:=
 Rd H a (.lst xs)\/
  ∃(o:Obj) (its:Array Value) (n:Nat),K.lookup a=some o/\o.cls= .type "list"/\o.dict=none/\o.data= .seq its n/\its.size<=sizeLine/\Vals xs its.toList
def SqT (K:PySem.W.Frag) (H:Hp) (a:Addr) (xs:List V):Prop:=
 Rd H a (.tup xs)\/
  ∃(o:Obj) (its:Array Value) (n:Nat),K.lookup a=some o/\o.cls= .type "tuple"/\o.dict=none/\o.data= .seq its n/\its.size<=sizeLine/\Vals xs its.toList
def absV:Value->Option V
 | .none=>some .non
 | .bool b=>some (.bl b)
 | .int i _=>some (.int i)
 | .str x _=>some (.str x)
 | .bytes b _=>some (.byt b)
 | .float b _=>some (.flt b)
 | .ref a=>some (.ref a)
 | .type n=>some (.ty n)
 | _=>none
theorem RelV.abs {x:V}{u:Value}(r:RelV x u):absV u=some x:=by
 cases x with
 | non=>cases r;rfl
 | bl _=>cases r;rfl
 | int _=>obtain⟨t,rfl⟩:=r;rfl
 | str _=>obtain⟨t,rfl⟩:=r;rfl
 | byt _=>obtain⟨t,rfl⟩:=r;rfl
 | flt _=>obtain⟨t,rfl⟩:=r;rfl
 | ref _=>cases r;rfl
 | ty _=>cases r;rfl
theorem RelV.inj {x y:V}{u:Value}(r:RelV x u)(q:RelV y u):x=y:=jC (r.abs.symm.trans q.abs)
theorem Vals.inj:∀{xs ys:List V} {us:List Value},Vals xs us->Vals ys us->xs=ys
 | _,_,_,.nil,.nil=>rfl
 | _,_,_,.cons r t,.cons r' t'=>by rw[r.inj r',Vals.inj t t']
section
variable {X:Cx}{pins:List (Addr×Obj)}{σ:St}{H:Hp}{s:Shared}{a:Addr}{xs ys:List V}
theorem Inv.list (I:Inv X pins σ H s)(h:SqL X.K H a xs):∃its:List Value,Vals xs its/\PlainL s.heap a its.toArray/\xs.length<=sizeLine:=by
 rcases h with h|⟨o,its,n,hk,hc,hd,hs,hz,r⟩
 ·obtain⟨z,its,n,r,e⟩:=h.ok I.hok;exact⟨its,r,⟨_,n,e,rfl,rfl,rfl⟩,z⟩
 ·refine⟨its.toList,r,⟨o,n,I.kIn a o hk,hc,hd,by simpa using hs⟩,?_⟩
  have e:=r.length;simp only[jB] at e;walk_at "o"
theorem Inv.tupN (I:Inv X pins σ H s)(h:SqT X.K H a xs):∃its:List Value,Vals xs its/\TupN s.heap a its.toArray/\xs.length<=sizeLine:=by
 rcases h with h|⟨o,its,n,hk,hc,hd,hs,hz,r⟩
 ·obtain⟨z,its,r,p⟩:=h.ok I.hok;exact⟨its,r,p,z⟩
 ·refine⟨its.toList,r,⟨o,I.kIn a o hk,hc,⟨n,by simpa using hs⟩,hd⟩,?_⟩
  have e:=r.length;simp only[jB] at e;walk_at "o"
theorem Inv.tuple (I:Inv X pins σ H s)(h:SqT X.K H a xs):∃its:List Value,Vals xs its/\IsTup s.heap a its.toArray/\xs.length<=sizeLine:=let ⟨its,r,p,z⟩:=I.tupN h;⟨its,r,p.is,z⟩
theorem Inv.list_inj (I:Inv X pins σ H s)(h:SqL X.K H a xs)(h':SqL X.K H a ys):xs=ys:=by
 obtain⟨its,r,⟨o,n,e,_,_,d⟩,_⟩:=I.list h;obtain⟨its',r',⟨o',n',e',_,_,d'⟩,_⟩:=I.list h';rw[e] at e';cases e';rw[d] at d';injection d' with d1 _
 have:its=its':=by simpa using jF Array.toList d1
 subst this;exact r.inj r'
theorem Inv.tuple_inj (I:Inv X pins σ H s)(h:SqT X.K H a xs)(h':SqT X.K H a ys):xs=ys:=by
 obtain⟨its,r,⟨o,e,_,n,d⟩,_⟩:=I.tuple h;obtain⟨its',r',⟨o',e',_,n',d'⟩,_⟩:=I.tuple h';rw[e] at e';cases e';rw[d] at d';injection d' with d1 _
 have:its=its':=by simpa using jF Array.toList d1
 subst this;exact r.inj r'
end
abbrev Cx.wish (X:Cx) (E:Value->Shared->Prop):Cx:={X with xe:=E}
abbrev Cx.nox (X:Cx):Cx:=X.wish fun _ _=>False
theorem Cx.Ok.wish {X:Cx}(ok:X.Ok)(E:Value->Shared->Prop):(X.wish E).Ok:=
 ⟨ok.mod,ok.kind,ok.glob,ok.blt,ok.above,ok.inj,ok.has,ok.cab,ok.hd,ok.frames,ok.stk,ok.exf,ok.bs,ok.bsz,ok.noex,ok.exfs,ok.funs,ok.frf⟩
theorem Cx.Ok.unwish {X:Cx}{E:Value->Shared->Prop}(ok:(X.wish E).Ok):X.Ok:=
 ⟨ok.mod,ok.kind,ok.glob,ok.blt,ok.above,ok.inj,ok.has,ok.cab,ok.hd,ok.frames,ok.stk,ok.exf,ok.bs,ok.bsz,ok.noex,ok.exfs,ok.funs,ok.frf⟩
section
variable {X:Cx}{pins:List (Addr×Obj)}{σ:St}{H:Hp}{s:Shared}{E:Value->Shared->Prop}
theorem Inv.wish (I:Inv X pins σ H s)(E:Value->Shared->Prop):Inv (X.wish E) pins σ H s:=⟨I.ok.wish E,I.os,I.bare,I.base,I.loc,I.cell,I.free,I.freeC,I.pin,I.hok,I.len⟩
theorem Inv.unwish (I:Inv (X.wish E) pins σ H s):Inv X pins σ H s:=⟨I.ok.unwish,I.os,I.bare,I.base,I.loc,I.cell,I.free,I.freeC,I.pin,I.hok,I.len⟩
theorem SP.unwish {D:Ends}{f:Flow}{s':Shared}(h:SP (X.wish E) pins D f s'):SP X pins D f s':=by
 cases f with
 | next=>obtain⟨σ',H',I,q⟩:=h;exact⟨σ',H',I.unwish,q⟩
 | brk=>obtain⟨σ',H',I,q⟩:=h;exact⟨σ',H',I.unwish,q⟩
 | cont=>obtain⟨σ',H',I,q⟩:=h;exact⟨σ',H',I.unwish,q⟩
 | ret u=>obtain⟨v,σ',H',I,r,q⟩:=h;exact⟨v,σ',H',I.unwish,r,q⟩
theorem PSs.nox {st:List Stmt}{t:TS}(h:PSs X.nox st t):PSs X st t:=fun pins s σ H D I hw=>
 zJ (h pins s σ H D (I.wish _) hw) (fun _ _ q=>q.unwish) fun _ _ z=>False.elim z
end
section
variable {X:Cx}{st:Stmt}{rest:List Stmt}{t u:TS}{e:Expr}{te:TE}{pos:Pos}
def tNext:TS:=fun D σ H=>D.nx σ H
def tSeq (t u:TS):TS:=fun D σ H=>t {D with nx:=u D} σ H
theorem b18:PSs X [] tNext:=fun _ _ σ H _ I h=>xU ⟨σ,H,I,h⟩
theorem a9Q (h1:PS X st t)(h2:PSs X rest u):PSs X (st::rest) (tSeq t u):=by
 intro pins s σ H D I h;refine xO (thn (h1 pins s σ H {D with nx:=u D} I h) fun f s1 q=>?_)
 cases f with
 | next=>
  obtain⟨σ',H',I',q⟩:=q;exact h2 pins s1 σ' H' D I' q
 | ret v=>exact q
 | brk=>exact q
 | cont=>exact q
theorem b1z (h1:PS X st t):PSs X [st] t:=by
 intro pins s σ H D I h;refine xO (thn (h1 pins s σ H D I h) fun f s1 q=>?_);cases f with
 | next=>exact xU q
 | ret v=>exact q
 | brk=>exact q
 | cont=>exact q
theorem Inv.quiet {pins:List (Addr×Obj)}{σ:St}{H:Hp}{s:Shared}(I:Inv X pins σ H s):interactive X.env=false:=by simp[interactive,I.ok.kind]
def tDrop (te:TE):TS:=fun D σ H=>te σ H fun _ H1=>D.nx σ H1
theorem b2t (he:PE X e te)(hs:swapsWith e none pos.line X.env=pure false:=by rfl):PS X (.Expr e pos) (tDrop te):=by
 intro pins s σ H D I h;exact wpAny_Expr_any (thn (he pins s σ H _ I h) fun v s1 h0=>ex5 h0 fun x H1 I1 r1 q1=>⟨σ,H1,I1,q1⟩) I.quiet hs
def tRet (te:TE):TS:=fun D σ H=>te σ H D.rt
theorem b4g (he:PE X e te):PS X (.Return (some e) pos) (tRet te):=by
 intro pins s σ H D I h;exact wpAny_Return_some (thn (he pins s σ H _ I h) fun v s1 h0=>ex5 h0 fun x H1 I1 r1 q1=>⟨x,σ,H1,I1,r1,q1⟩)
def tIfS (c:TT) (t u:TS):TS:=fun D σ H=>c σ H fun b H1=>if b=true then t D σ H1 else u D σ H1
theorem ps_if {c:Expr}{a b:List Stmt}{tc:TT}(hc:PT X c tc)(ha:PSs X a t)(hb:PSs X b u):PS X (.If c a b pos) (tIfS tc t u):=by
 intro pins s σ H D I h;refine wpAny_If (thn (hc pins s σ H _ I h) fun d s1 ⟨H1,I1,q1⟩=>?_);cases d with
 | true=>exact ha pins s1 σ H1 D I1 q1
 | false=>exact hb pins s1 σ H1 D I1 q1
def tNever:TS:=fun _ _ _=>False
theorem a9F:PS X st tNever:=fun _ _ _ _ _ _ h=>h.elim
end
abbrev TG:=V->St->Hp->(St->Hp->Prop)->Prop
abbrev TGs:=List V->St->Hp->(St->Hp->Prop)->Prop
def PG (X:Cx) (target:Expr) (t:TG):Prop:=
 ∀(pins:List (Addr×Obj)) (s:Shared) (σ:St) (H:Hp) (v:V) (u:Value) (Q:St->Hp->Prop),Inv X pins σ H s->RelV v u->t v σ H Q->
  wpAny (model X.prog X.w) X.A (assign target X.env u) (fun _ s'=>∃σ' H',Inv X pins σ' H' s'/\Q σ' H') X.xe s
def PGs (X:Cx) (ts:List Expr) (t:TGs):Prop:=
 ∀(pins:List (Addr×Obj)) (s:Shared) (σ:St) (H:Hp) (vs:List V) (us:List Value) (Q:St->Hp->Prop),Inv X pins σ H s->Vals vs us->t vs σ H Q->
  wpAny (model X.prog X.w) X.A (assignInOrder ((assignEach ts X.env).map (·.2)) us) (fun _ s'=>∃σ' H',Inv X pins σ' H' s'/\Q σ' H') X.xe s
abbrev TSet:=V->V->V->Hp->(Hp->Prop)->Prop
def PSet (X:Cx) (t:TSet):Prop:=
 ∀(pins:List (Addr×Obj)) (s:Shared) (σ:St) (H:Hp) (o i v:V) (ov iv u:Value) (Q:Hp->Prop),Inv X pins σ H s->RelV o ov->RelV i iv->RelV v u->t o i v H Q->
  wpAny (model X.prog X.w) X.A (setItem ov iv u) (fun _ s'=>∃H',Inv X pins σ H' s'/\Q H') X.xe s
section
variable {X:Cx}{pos:Pos}
def gName (i:Nat):TG:=fun v σ H Q=>Q (σ.set i (some v)) H
theorem a71 {i:Nat}{x:Str}(hN:X.N.Nodup)(hi:X.N[i]? =some x)(hx:Loc X.env.scope x)(hf:X.fn x=true\/X.env.scope.names.lookup x=some .local:=by first|exact .inl rfl|exact .inr rfl|assumption):PG X (.Name x pos) (gName i):=by
 intro pins s σ H v u Q I r h;exact wpAny_assign_Name (a0O I hN hi hx r (fun s' I'=>⟨_,H,I',h⟩) hf)
def gNil:TGs:=fun vs σ H Q=>vs=[]/\Q σ H
def gCons (t:TG) (u:TGs):TGs:=fun vs σ H Q=>∃v r,vs=v::r/\t v σ H fun σ' H'=>u r σ' H' Q
theorem b2m:PGs X [] gNil:=by
 intro pins s σ H vs us Q I r h;obtain⟨e,h⟩:=h;subst e;cases r;exact assignInOrder_nil ⟨σ,H,I,h⟩
theorem a9z {e:Expr}{es:List Expr}{t:TG}{u:TGs}(h1:PG X e t)(h2:PGs X es u)
  (hs:(assignEach (e::es) X.env).map (·.2)=assign e X.env::(assignEach es X.env).map (·.2):=by rfl):PGs X (e::es) (gCons t u):=by
 intro pins s σ H vs us Q I r h;obtain⟨v,vr,e1,h⟩:=h;subst e1;cases r with
 | cons r rr=>
  rw[hs];refine assignInOrder_cons (thn (h1 pins s σ H _ _ _ I r h) fun _ s1 ⟨σ1,H1,I1,q1⟩=>?_);exact h2 pins s1 σ1 H1 _ _ Q I1 rr q1
def gTup (K:PySem.W.Frag) (n:Nat) (t:TGs):TG:=fun v σ H Q=>∃a xs,v= .ref a/\SqT K H a xs/\xs.length=n/\t xs σ H Q
theorem b4Q {es:List Expr}{k:Nat}{t:TGs}{n:Nat}(hc:X.calm=true)(h:PGs X es t)
  (hn:(assignEach es X.env).length=n:=by rfl) (hst:(assignEach es X.env).findIdx? (·.1)=none:=by rfl):PG X (.Tuple es k pos) (gTup X.K n t):=by
 intro pins s σ H v u Q I r hw;obtain⟨a,xs,e1,hq,hl,hw⟩:=hw;subst e1;cases r;obtain⟨its,rv,ht,hz⟩:=I.tuple hq;refine assign_Tuple_tuple (I.ok.hd hc) ht (by simp[hn,<-hl,rv.length]) hst fun h' hx=>?_
 have I1:Inv X pins σ H {s with heap:=h'}:=I.kept (t':=s.toks) fun b o e=>hx b o (zS (zV e)) e
 exact h pins _ σ H xs _ Q I1 (by simpa using rv) hw
def gSub (to ti:TE) (t:TSet):TG:=fun v σ H Q=>to σ H fun o H1=>ti σ H1 fun i H2=>t o i v H2 fun H3=>Q σ H3
theorem b4x {o i:Expr}{to ti:TE}{t:TSet}(ho:PE X o to)(hi:PE X i ti)(hs:PSet X t)
  (ha:∀v,assign (.Subscript o i pos) X.env v=(do
   let ov <-holding [v] (eval o X.env)
   let iv <-holding [v,ov] (eval i X.env)
   standAt pos
   holding [v,ov,iv] (setItem ov iv v)
   release [v,ov,iv] []):=by intro _;rfl):PG X (.Subscript o i pos) (gSub to ti t):=by
 intro pins s σ H v u Q I r h;rw[ha];refine zA (jP (thn (ho pins s σ H _ I h) fun ov s1 h0=>ex5 h0 fun x H1 I1 r1 q1=>?_));refine zA (jP (thn (hi pins s1 σ H1 _ I1 q1) fun iv s2 h0=>ex5 h0 fun y H2 I2 r2 q2=>?_));refine zA (xA (zA (jP (thn (hs pins s2 σ H2 x y v ov iv u _ I2 r1 r2 r q2) fun _ s3 ⟨H3,I3,q3⟩=>?_))));exact wpAny_release ⟨σ,H3,I3,q3⟩
def tAsg (te:TE) (g:TG):TS:=fun D σ H=>te σ H fun x H1=>g x σ H1 D.nx
theorem b3V {tg e:Expr}{te:TE}{g:TG}(he:PE X e te)(hg:PG X tg g)(hs:swapsWithSole [tg] e pos.line X.env=pure false:=by rfl)(hw:swappedStores [tg] e X.env=pure none:=by rfl)
  (h1:(assignEach [tg] X.env).map (·.2)=[assign tg X.env]:=by rfl):PS X (.Assign [tg] e pos) (tAsg te g):=by
 intro pins s σ H D I h;refine wpAny_Assign_stores (thn (he pins s σ H _ I h) fun v s1 h0=>ex5 h0 fun x H1 I1 r1 q1=>?_) hs hw;rw[h1];exact thn (hg pins s1 σ H1 x v _ I1 r1 q1) fun _ s2 q=>q
theorem b3Z {i:Nat}{x:Str}{e:Expr}{te:TE}{pos':Pos}(hN:X.N.Nodup)(hi:X.N[i]? =some x)(hx:Loc X.env.scope x)(he:PE X e te)(hs:swapsWith e (some (.Name x pos')) pos.line X.env=pure false:=by rfl)(hf:X.fn x=true\/X.env.scope.names.lookup x=some .local:=by first|exact .inl rfl|exact .inr rfl|assumption):
  PS X (.Assign [.Name x pos'] e pos) (tAsg te (gName i)):=by
 intro pins s σ H D I h;refine wpAny_Assign_Name (thn (he pins s σ H _ I h) fun v s1 h0=>ex5 h0 fun y H1 I1 r1 q1=>?_) hs;exact a0O I1 hN hi hx r1 (fun s2 I2=>⟨_,H1,I2,q1⟩) hf
def tPar (i j:Nat) (ta:TA):TS:=fun D σ H=>ta σ H fun vs H1=>∃v w,vs=[v,w]/\D.nx ((σ.set i (some v)).set j (some w)) H1
theorem b4s {i j:Nat}{x y:Str}{a b:Expr}{ta:TA}{px py pt:Pos}{kt k2 pt2}(hc:X.calm=true)(hN:X.N.Nodup)(hi:X.N[i]? =some x)(hj:X.N[j]? =some y)(hij:i≠j)
  (hx:X.env.scope.names.lookup x=some .local) (hy:X.env.scope.names.lookup y=some .local) (ha:PA X [a,b] ta)
  (hw:swappedStores [.Tuple [.Name x px,.Name y py] kt pt] (.Tuple [a,b] k2 pt2) X.env=pure (some [x,y]))
  (hs:swapsWithSole [.Tuple [.Name x px,.Name y py] kt pt] (.Tuple [a,b] k2 pt2) pos.line X.env=pure false:=by rfl):
  PS X (.Assign [.Tuple [.Name x px,.Name y py] kt pt] (.Tuple [a,b] k2 pt2) pos) (tPar i j ta):=by
 intro pins s σ H D I h;rw[exec_Assign_arm];refine zA (xA ?_);rw[hs];refine zA (zK ?_);rw[if_neg (by decide)]
 refine zA (Tuple_ (thn (ha _ pins s σ H _ I h) fun us s1 h0=>ex5 h0 fun vs H1 I1 r1 q1=>?_));obtain⟨v,w,e1,q1⟩:=q1;subst e1;obtain⟨u1,u2,rfl,rv,rw'⟩:∃u1 u2,us=[u1,u2]/\RelV v u1/\RelV w u2:=by
  cases r1 with
  | cons p q=>
   cases q with
   | cons p' q'=>
    cases q';exact⟨_,_,rfl,p,p'⟩
 refine qZ ?_ (by show 2<=sizeLine;decide)
 have I2:Inv X pins σ H1 {s1 with heap:=s1.heap.push {cls:=.type "tuple",data:=.seq [u1,u2].toArray}}:=I1.kept (t':=s1.toks) fun b o e=>zN _ e
 rw[hw];refine zA (zK ?_);show wpAny (model X.prog X.w) X.A (do rule "assign.swapped-stores";let items <-unpackItems (.ref s1.heap.objs.size) 2 none;assignInOrder [fun v=>bindName X.env y v,fun v=>bindName X.env x v] items.reverse;pure Flow.next) _ _ _
 refine zA (wpAny_rule (zA (unpackItems_tuple (items:= #[u1,u2]) (I.ok.hd hc) (IsTup.new s1.heap _) fun h' hx'=>?_)));have I3:=I2.kept (h':=h') (t':=s1.toks) fun b o e=>hx' b o (zS (zV e)) e;show wpAny _ _ (assignInOrder [fun v=>bindName X.env y v,fun v=>bindName X.env x v] [u2,u1] >>=fun _=>pure Flow.next) _ _ _;refine zA (assignInOrder_cons (wpAny_bindName (a0O I3 hN hj (.inl hy) rw' (fun s2 I4=>?_) (.inr hy))));refine assignInOrder_cons (wpAny_bindName (a0O I4 hN hi (.inl hx) rv (fun s3 I5=>assignInOrder_nil (zK ?_)) (.inr hx)));rw[List.set_comm _ _ (qA hij)] at I5;exact⟨_,H1,I5,q1⟩
end
section
variable {X:Cx}{pos:Pos}
def tWhile (c:TT) (tb:TS):TS:=fun D σ H=>∃W:Nat->St->Hp->Prop,(∃m,W m σ H)/\∀m σ H,W m σ H->
 c σ H fun b H1=>if b=true then ∃N:St->Hp->Prop,(∀σ' H',N σ' H'->∃m',m'<m/\W m' σ' H')/\tb {D with nx:=N,ct:=N,bk:=D.nx} σ H1 else D.nx σ H1
theorem a9L {c:Expr}{body:List Stmt}{tc:TT}{tb:TS}(hp:PassesOwn (model X.prog X.w) X.A X.env X.xe)(hc:PT X c tc)(hb:PSs X body tb):PS X (.While c body [] pos) (tWhile tc tb):=by
 intro pins s σ H D I h;obtain⟨W,⟨m0,w0⟩,turn⟩:=h;refine wpAny_While (codeAny_whileLoop (fun n s'=>∃σ' H',Inv X pins σ' H' s'/\W n σ' H') ?_ m0 ⟨σ,H,I,w0⟩);rintro n s1 ⟨σ1,H1,I1,w1⟩;refine jY hp (thn (hc pins s1 σ1 H1 _ I1 (turn n σ1 H1 w1)) fun b s2 ⟨H2,I2,q2⟩=>?_);cases b with
 | true=>
  obtain⟨N,hN,q2⟩:=q2;rw[if_pos rfl];refine jY hp (thn (hb pins s2 σ1 H2 _ I2 q2) fun f s3 q3=>?_);cases f with
  | next=>
   obtain⟨σ3,H3,I3,n3⟩:=q3;obtain⟨m',hm,w3⟩:=hN σ3 H3 n3;exact⟨m',hm,σ3,H3,I3,w3⟩
  | cont=>
   obtain⟨σ3,H3,I3,n3⟩:=q3;obtain⟨m',hm,w3⟩:=hN σ3 H3 n3;exact⟨m',hm,σ3,H3,I3,w3⟩
  | brk=>exact q3
  | ret v=>exact q3
 | false=>
  rw[if_neg zW];exact xU ⟨σ1,H2,I2,q2⟩
end
structure It where
 go:Nat->Hp->Prop
 yld:Nat->Hp->V->Hp->Prop
 stop:Nat->Hp->Prop
def FpOk (X:Cx) (pins:List (Addr×Obj)) (H:Hp) (b:Addr):Prop:=
 H b=none/\b≠X.env.locals/\b∉X.fs/\(b∈X.ex\/X.s₀.heap.objs.size<=b)/\(∀x c,X.env.cells.lookup x=some c->c≠b)/\∀p∈X.pn++pins,p.1≠b
theorem Inv.fpOk {X:Cx}{pins:List (Addr×Obj)}{σ:St}{H H':Hp}{s:Shared}{b:Addr}(I:Inv X pins σ H s)(hb:s.heap.objs.size<=b)(hn:H' b=none):FpOk X pins H' b:=by
 refine⟨hn,Nat.ne_of_gt (zF I.lt hb),I.nofs hb,.inr (zO I.sz hb),fun x c e z=>?_,fun p hp z=>?_⟩
 ·obtain⟨v,q⟩:=I.cell x c e;exact absurd (zF q.lt (by rw[z];exact hb)) (jO _)
 ·exact absurd (zF (zV (I.pin p hp).1) (by rw[z];exact hb)) (jO _)
structure Turn (P:Program) (w:World) (K:PySem.W.Frag) (tg:Expr) (J:It) (fp:List Addr) (it:Addr) (tn:Nat->Heap->Prop):Prop where
 mem:it∈fp
 obj:∀i h,tn i h->∀b∈fp,∃o,h.get? b=some o/\∀v,o.data≠.cell v
 keep:∀i h h',tn i h->(∀b∈fp,∀o,h.get? b=some o->h'.get? b=some o)->tn i h'
 item:∀(X:Cx),X.prog=P->X.w=w->X.K=K->X.calm=true->∀(i:Nat) (pins:List (Addr×Obj)) (s:Shared) (σ:St) (H:Hp) (E:Value->Shared->Prop),Inv X pins σ H s->(∀b∈fp,FpOk X pins H b)->tn i s.heap->J.go i H->
  wpAny (model P w) X.A (pyNext (.ref it)) (fun r s1=>∃u,r=some u/\
   wpAny (model P w) X.A (letOwnedTupleGo tg (.ref it) u) (fun _ s2=>∃x H',Inv X pins σ H' s2/\RelV x u/\J.yld i H x H'/\tn (i+1) s2.heap/\∀b∈fp,H' b=none) E s1) E s
 done:∀(X:Cx),X.prog=P->X.w=w->X.K=K->X.calm=true->∀(i:Nat) (pins:List (Addr×Obj)) (s:Shared) (σ:St) (H:Hp) (E:Value->Shared->Prop),Inv X pins σ H s->(∀b∈fp,FpOk X pins H b)->tn i s.heap->J.stop i H->
  wpAny (model P w) X.A (pyNext (.ref it)) (fun r s1=>r=none/\Inv X pins σ H s1) E s
 self:∀(A:Around) (i:Nat) (s:Shared) (Q:Value->Shared->Prop) (E:Value->Shared->Prop),tn i s.heap->Q (.ref it) s->wpAny (model P w) A (pyIter (.ref it)) Q E s
abbrev TI:=St->Hp->(It->Hp->Prop)->Prop
def PIE (X:Cx) (pins:List (Addr×Obj)) (σ:St) (tg:Expr) (R:It->Hp->Prop) (itv:Value) (s2:Shared):Prop:=
 ∃(it:Addr) (fp:List Addr) (tn:Nat->Heap->Prop) (J:It) (H':Hp),itv= .ref it/\Inv X pins σ H' s2/\Turn X.prog X.w X.K tg J fp it tn/\tn 0 s2.heap/\(∀b∈fp,FpOk X pins H' b)/\R J H'
def PI (X:Cx) (tg iter:Expr) (wi:TI):Prop:=
 ∀(pins:List (Addr×Obj)) (s:Shared) (σ:St) (H:Hp) (R:It->Hp->Prop),Inv X pins σ H s->wi σ H R->
  wpAny (model X.prog X.w) X.A (eval iter X.env) (fun v s1=>wpAny (model X.prog X.w) X.A (pyIter v) (PIE X pins σ tg R) X.xe s1) X.xe s
theorem a8a {M:Model}{A:Around}{E:Value->Shared->Prop}{s:Shared}{tg:Expr}{it:Addr}{u:Value}{o:Obj}{n:String}{vs:Array Value}{Q:Unit->Shared->Prop}(ho:s.heap.get? it=some o)(hc:o.cls= .type n)(hd:o.data= .fields vs)
  (hn:["enumerate","zip","dict_itemiterator","dict_reverseitemiterator","odict_iterator","itertools.zip_longest","itertools.pairwise"].contains n=false) (hQ:Q () s):wpAny M A (letOwnedTupleGo tg (.ref it) u) Q E s:=by
 unfold letOwnedTupleGo;cases tg<;>first
  | exact zK hQ
  | (cases u<;>first
    | exact zK hQ
    | (refine zA (wpAny_load ho ?_)
       rw[hc,hd];show wpAny M A (if(["enumerate","zip","dict_itemiterator","dict_reverseitemiterator","odict_iterator","itertools.zip_longest","itertools.pairwise"].contains n&&vs[0]? == some (rawInt _))=true then _ else _) Q E s;rw[if_neg (by intro h;rw[hn,qV] at h;cases h)]
       exact zK hQ))
def Itl (K:PySem.W.Frag) (a:Addr):It:=
 ⟨fun i H=>∃xs x,SqL K H a xs/\xs[i]? =some x,fun i H x H'=>H'=H/\∀xs,SqL K H a xs->xs[i]? =some x,fun i H=>∃xs,SqL K H a xs/\xs.length<=i⟩
def Itt (K:PySem.W.Frag) (a:Addr):It:=
 ⟨fun i H=>∃xs x,SqT K H a xs/\xs[i]? =some x,fun i H x H'=>H'=H/\∀xs,SqT K H a xs->xs[i]? =some x,fun i H=>∃xs,SqT K H a xs/\xs.length<=i⟩
def Itr (lo:Int) (n:Nat):It:=⟨fun i _=>i<n,fun i H x H'=>H'=H/\x= .int (lo+i),fun i _=>n<=i⟩
theorem a86 {P:Program}{w:World}{K:PySem.W.Frag}{tg:Expr}(a it:Addr):Turn P w K tg (Itl K a) [it] it (fun i h=>h.IsListIter it a i) where
 mem:=by simp
 obj:=fun i h st b hb=>by
  have e:b=it:=by simpa using hb
  subst e;obtain⟨o,e,c,d⟩:=st;exact⟨o,e,fun v z=>by rw[d] at z;cases z⟩
 keep:=fun i h h' st k=>st.at fun o e=>k it (by simp) o e
 item:=by
  intro X hP hw hK hc i pins s σ H E I hf st hg;subst hP hw hK;obtain⟨xs,x,hq,hx⟩:=hg;obtain⟨its,rv,p,hz⟩:=I.list hq;obtain⟨u,hu,ru⟩:=rv.get hx;obtain⟨f0,f1,f2,f3,f4,f5⟩:=hf it (by simp)
  refine wpAny_pyNext_list_item st p.isList (x:=u) (by simpa using hu) fun h' st' sb=>?_
  have I1:Inv X pins σ H {s with heap:=h'}:=I.turned (t':=s.toks) (fun b o hb e=>(sb.2 b hb).trans e) f0 f1 f3 f4 f5
  obtain⟨o,e,c,d⟩:=id st';exact⟨u,rfl,a8a (s:={s with heap:=h'}) e c d (by decide) ⟨x,H,I1,ru,⟨rfl,fun ys hy=>by rw[I.list_inj hy hq];exact hx⟩,st',fun b hb=>(hf b hb).1⟩⟩
 done:=by
  intro X hP hw hK hc i pins s σ H E I hf st hg;subst hP hw hK;obtain⟨xs,hq,hx⟩:=hg;obtain⟨its,rv,p,hz⟩:=I.list hq;obtain⟨f0,f1,f2,f3,f4,f5⟩:=hf it (by simp)
  have hl:=rv.length;exact wpAny_pyNext_list_end (I.ok.hd hc) st p.isList (by simp;walk_at "o") fun h' eb=>⟨rfl,I.turned (t':=s.toks) (fun b o hb e=>eb b o hb e) f0 f1 f3 f4 f5⟩
 self:=fun _ _ _ _ _ st h=>wpAny_pyIter_listiter st h
theorem a7z {P:Program}{w:World}{K:PySem.W.Frag}{tg:Expr}(a it:Addr):Turn P w K tg (Itt K a) [it] it (fun i h=>h.IsTupleIter it a i) where
 mem:=by simp
 obj:=fun i h st b hb=>by
  have e:b=it:=by simpa using hb
  subst e;obtain⟨o,e,c,d⟩:=st;exact⟨o,e,fun v z=>by rw[d] at z;cases z⟩
 keep:=fun i h h' st k=>st.at fun o e=>k it (by simp) o e
 item:=by
  intro X hP hw hK hc i pins s σ H E I hf st hg;subst hP hw hK;obtain⟨xs,x,hq,hx⟩:=hg;obtain⟨its,rv,p,hz⟩:=I.tuple hq;obtain⟨u,hu,ru⟩:=rv.get hx;obtain⟨f0,f1,f2,f3,f4,f5⟩:=hf it (by simp)
  refine wpAny_pyNext_tuple_item st (show s.heap.IsTuple a its.toArray from p) (x:=u) (by simpa using hu) fun h' st' sb=>?_
  have I1:Inv X pins σ H {s with heap:=h'}:=I.turned (t':=s.toks) (fun b o hb e=>(sb.2 b hb).trans e) f0 f1 f3 f4 f5
  obtain⟨o,e,c,d⟩:=id st';exact⟨u,rfl,a8a (s:={s with heap:=h'}) e c d (by decide) ⟨x,H,I1,ru,⟨rfl,fun ys hy=>by rw[I.tuple_inj hy hq];exact hx⟩,st',fun b hb=>(hf b hb).1⟩⟩
 done:=by
  intro X hP hw hK hc i pins s σ H E I hf st hg;subst hP hw hK;obtain⟨xs,hq,hx⟩:=hg;obtain⟨its,rv,p,hz⟩:=I.tuple hq;obtain⟨f0,f1,f2,f3,f4,f5⟩:=hf it (by simp)
  have hl:=rv.length;exact wpAny_pyNext_tuple_end (I.ok.hd hc) st (show s.heap.IsTuple a its.toArray from p) (by simp;walk_at "o") fun h' eb=>⟨rfl,I.turned (t':=s.toks) (fun b o hb e=>eb b o hb e) f0 f1 f3 f4 f5⟩
 self:=fun _ _ _ _ _ st h=>wpAny_pyIter_tupleiter st h
theorem a7c {P:Program}{w:World}{K:PySem.W.Frag}{tg:Expr}(it:Addr)(lo:Int)(n:Nat):Turn P w K tg (Itr lo n) [it] it (fun i h=>IsRangeIter h it (lo+(i:Nat)*1) ((n:Int)-(i:Nat)) 1) where
 mem:=by simp
 obj:=fun i h st b hb=>by
  have e:b=it:=by simpa using hb
  subst e
  exact⟨_,st,fun v z=>by
   have z':Data.fields _=Data.cell v:=z
   cases z'⟩
 keep:=fun i h h' st k=>k it (by simp) _ st
 item:=by
  intro X hP hw hK hc i pins s σ H E I hf st hg;subst hP hw hK;obtain⟨f0,f1,f2,f3,f4,f5⟩:=hf it (by simp)
  have W:=Walks.range (prog:=X.prog) (w:=X.w) (I.ok.hd hc) it lo 1 n;refine W.item i s _ _ hg st fun v h' tk hv st' kk=>?_;obtain⟨t,rfl⟩:=hv;have I1:Inv X pins σ H {s with heap:=h',toks:=tk}:=I.turned (fun b o hb e=>kk b o (by simpa using hb) e) f0 f1 f3 f4 f5
  refine⟨_,rfl,a8a (s:={s with heap:=h',toks:=tk}) (n:="range_iterator") st' rfl rfl (by decide) ⟨.int (lo+i),H,I1,⟨t,?_⟩,⟨rfl,rfl⟩,st',fun b hb=>(hf b hb).1⟩⟩
  rw[Int.mul_one]
 done:=by
  intro X hP hw hK hc i pins s σ H E I hf st hg;subst hP hw hK;obtain⟨f0,f1,f2,f3,f4,f5⟩:=hf it (by simp)
  exact wpAny_pyNext_range_end (I.ok.hd hc) st (by have:n<=i:=hg;walk_at "o") fun h' eb=>⟨rfl,I.turned (t':=s.toks) (fun b o hb e=>eb b o hb e) f0 f1 f3 f4 f5⟩
 self:=fun _ _ _ _ _ st h=>wpAny_pyIter_rangeiter st h
section
variable {X:Cx}{tg:Expr}
theorem a6l {pins:List (Addr×Obj)}{σ:St}{H:Hp}{s:Shared}{R:It->Hp->Prop}{E:Value->Shared->Prop}{lo hi:Int}{t u v:Tok}{tk:Nat}(I:Inv X pins σ H s)(h1:-(2^62)<=lo)(h2:lo<2^62)(h3:-(2^62)<=hi)(h4:hi<2^62)
  (q:R (Itr lo (hi-lo).toNat) H):wpAny (model X.prog X.w) X.A (pyIter (.ref s.heap.objs.size)) (PIE X pins σ tg R) E {s with heap:=s.heap.push {cls:=.type "range",data:=.fields #[.int lo t,.int hi u,.int 1 v]},toks:=tk}:=by
 refine wpAny_pyIter_range (IsRange.new ..) (small_one h1 h2 h3 h4) ?_;have I1:Inv X pins σ H {s with heap:=s.heap.push {cls:=.type "range",data:=.fields #[.int lo t,.int hi u,.int 1 v]},toks:=tk}:=I.kept fun b o e=>zN _ e
 refine⟨(s.heap.push {cls:=.type "range",data:=.fields #[.int lo t,.int hi u,.int 1 v]}).objs.size,[(s.heap.push {cls:=.type "range",data:=.fields #[.int lo t,.int hi u,.int 1 v]}).objs.size],_,_,H,rfl,
  I1.kept (t':=tk) fun b o e=>zN _ e,a7c _ lo (hi-lo).toNat,?_,fun b hb=>?_,q⟩
 ·have e1:lo+((0:Nat):Int)*1=lo:=by simp
  have e2:(((hi-lo).toNat:Nat):Int)-((0:Nat):Int)=Builtin.Range.rangeSize lo hi 1:=by rw[rangeSize_one];split<;>walk_at "o"
  show IsRangeIter _ _ (lo+((0:Nat):Int)*1) ((((hi-lo).toNat:Nat):Int)-((0:Nat):Int)) 1;rw[e1,e2];exact qB _ rfl
 ·have e:b=(s.heap.push {cls:=.type "range",data:=.fields #[.int lo t,.int hi u,.int 1 v]}).objs.size:=by simpa using hb
  subst e;exact I1.fpOk (zI _) (I1.hok.fresh (zI _))
def iRng1 (ta:TA):TI:=fun σ H R=>ta σ H fun vs H1=>∃j:Int,vs=[.int j]/\-(2^62)<=j/\j<2^62/\R (Itr 0 j.toNat) H1
def iRng2 (ta:TA):TI:=fun σ H R=>ta σ H fun vs H1=>∃i j:Int,vs=[.int i,.int j]/\(-(2^62)<=i/\i<2^62/\-(2^62)<=j/\j<2^62)/\R (Itr i (j-i).toNat) H1
theorem a9i {a:Expr}{ta:TA}{p pos:Pos}(hg:Gl X "range")(hm:X.mg "range"=none)(ha:PA X [a] ta)(hs:starEach [a] X.env=[(false,eval a X.env)]:=by rfl):PI X tg (.Call (.Name "range" p) [a] [] pos) (iRng1 ta):=by
 intro pins s σ H R I h;refine Call_ (a2F I hg hm boot_range (jU (thn (ha pos pins s σ H _ I h) fun us s1 h0=>ex5 h0 fun vs H1 I1 r1 q1=>?_) hs rfl));obtain⟨j,e,q1,q2,q⟩:=q1;subst e;cases r1 with
 | cons r rr=>
  cases rr;obtain⟨t,rfl⟩:=r;exact call_range_1 (a6l I1 (by walk_at "o") (by walk_at "o") q1 q2 (by simpa using q))
theorem a8R {a b:Expr}{ta:TA}{p pos:Pos}(hg:Gl X "range")(hm:X.mg "range"=none)(ha:PA X [a,b] ta)(hs:starEach [a,b] X.env=[(false,eval a X.env),(false,eval b X.env)]:=by rfl)(hs2:starEach [b] X.env=[(false,eval b X.env)]:=by rfl):
  PI X tg (.Call (.Name "range" p) [a,b] [] pos) (iRng2 ta):=by
 intro pins s σ H R I h;refine Call_ (a2F I hg hm boot_range (jU (thn (ha pos pins s σ H _ I h) fun us s1 h0=>ex5 h0 fun vs H1 I1 r1 q1=>?_) (by rw[hs,hs2]) (by rw[hs2];rfl)))
 obtain⟨i,j,e,⟨q1,q2,q3,q4⟩,q⟩:=q1;subst e;cases r1 with
 | cons r rr=>
  cases rr with
  | cons r' rr=>
   cases rr;obtain⟨t,rfl⟩:=r;obtain⟨t',rfl⟩:=r';exact call_range_2 (a6l I1 q1 q2 q3 q4 q)
def tFor (wi:TI) (g:TG) (tb:TS):TS:=fun D σ H=>wi σ H fun J H1=>∃W:Nat->Nat->St->Hp->Prop,(∃m,W 0 m σ H1)/\∀i m σ H,W i m σ H->
 (J.stop i H/\D.nx σ H)\/(J.go i H/\∃N:St->Hp->Prop,(∀σ' H',N σ' H'->∃m',m'<m/\W (i+1) m' σ' H')/\∀x H',J.yld i H x H'->g x σ H' fun σ2 H2=>tb {D with nx:=N,ct:=N,bk:=D.nx} σ2 H2)
def pinsAt (fp:List Addr) (h:Heap):List (Addr×Obj):=fp.filterMap fun b=>(h.get? b).map fun o=>(b,o)
theorem Q2 {fp:List Addr}{h:Heap}{b:Addr}{o:Obj}(hb:b∈fp)(e:h.get? b=some o):(b,o)∈pinsAt fp h:=mem_filterMap.mpr ⟨b,hb,by rw[e];rfl⟩
theorem a84 {fp:List Addr}{h:Heap}{p:Addr×Obj}(hp:p∈pinsAt fp h):p.1∈fp/\h.get? p.1=some p.2:=by
 obtain⟨b,hb,e⟩:=mem_filterMap.mp hp;cases q:h.get? b with
 | none=>rw[q] at e;cases e
 | some o=>
  rw[q] at e;have e':(b,o)=p:=jC e;subst e';exact⟨hb,q⟩
theorem Inv.pinned {pins:List (Addr×Obj)}{σ:St}{H:Hp}{s:Shared}{fp:List Addr}(I:Inv X pins σ H s)(hf:∀b∈fp,FpOk X pins H b)(ho:∀b∈fp,∃o,s.heap.get? b=some o/\∀v,o.data≠.cell v):Inv X (pins++pinsAt fp s.heap) σ H s:=
 I.pins_of fun p hp=>(xD.mp hp).elim (fun z=>I.pin p (qD _ z)) fun z=>by
  obtain⟨hb,e⟩:=a84 z;obtain⟨f0,f1,f2,_⟩:=hf p.1 hb;obtain⟨o,e',d⟩:=ho p.1 hb;rw[e] at e';cases e';exact⟨e,f0,f1,f2,d⟩
theorem Inv.unpinned {pins pl:List (Addr×Obj)}{σ:St}{H:Hp}{s:Shared}(I:Inv X (pins++pl) σ H s):Inv X pins σ H s:=I.pins_of fun p hp=>I.pin p (qD _ (List.mem_append_left _ hp))
theorem b0D {iter:Expr}{body:List Stmt}{wi:TI}{g:TG}{tb:TS}{pos:Pos}(hp:PassesOwn (model X.prog X.w) X.A X.env X.xe)(hc:X.calm=true)(hi:PI X tg iter wi)(hg:PG X tg g)(hb:PSs X body tb)
  (hs:∀x,foldedSetIterable iter X.env x=pure x:=by intro _;rfl):PS X (.For tg iter body [] pos) (tFor wi g tb):=by
 intro pins s σ H D I h;refine wpAny_For (thn (hi pins s σ H _ I h) fun v s1 h1=>thn h1 fun itv s2 h2=>?_) hs;obtain⟨it,fp,tn,J,H2,e,I2,T,st2,f2,W,⟨m0,w0⟩,turn⟩:=h2;subst e;have stat:∀{H':Hp},(∀b∈fp,H' b=none)->∀b∈fp,FpOk X pins H' b:=fun hn b hb=>⟨hn b hb,(f2 b hb).2⟩;refine codeAny_forLoop_any (fun n s'=>∃i σ' H',Inv X pins σ' H' s'/\tn i s'.heap/\(∀b∈fp,H' b=none)/\W i n σ' H') ?_ m0 ⟨0,σ,H2,I2,st2,fun b hb=>(f2 b hb).1,w0⟩;rintro n s3 ⟨i,σ3,H3,I3,st3,fr3,w3⟩;rcases turn i n σ3 H3 w3 with ⟨stop,qn⟩|⟨go,N,hN,step⟩
 ·refine jY hp (thn (T.done X rfl rfl rfl hc i pins s3 σ3 H3 X.xe I3 (stat fr3) st3 stop) fun r s4 ⟨hr,I4⟩=>?_);subst hr;exact xU ⟨σ3,H3,I4,qn⟩
 ·refine jY hp (thn (T.item X rfl rfl rfl hc i pins s3 σ3 H3 X.xe I3 (stat fr3) st3 go) fun r s4 ⟨u,hr,h4⟩=>?_);subst hr;refine jY hp (thn h4 fun _ s5 ⟨x,H5,I5,r5,y5,st5,fr5⟩=>?_);have I5':=I5.pinned (stat fr5) (T.obj _ _ st5);refine jY hp (thn (hg _ s5 σ3 H5 x u _ I5' r5 (step x H5 y5)) fun _ s6 ⟨σ6,H6,I6,q6⟩=>?_);refine jY hp (thn (hb _ s6 σ6 H6 _ I6 q6) fun f s7 q7=>?_);have again:∀{σ7:St} {H7:Hp},Inv X (pins++pinsAt fp s5.heap) σ7 H7 s7->N σ7 H7->∃m,m<n/\∃i σ' H',Inv X pins σ' H' s7/\tn i s7.heap/\(∀b∈fp,H' b=none)/\W i m σ' H':=fun{σ7 H7} I7 n7=>by
   obtain⟨m',hm,w7⟩:=hN σ7 H7 n7;refine⟨m',hm,i+1,σ7,H7,I7.unpinned,T.keep _ _ _ st5 fun b hb o e=>(I7.pin (b,o) (qD _ (qD _ (Q2 hb e)))).1,fun b hb=>?_,w7⟩;obtain⟨o,e,d⟩:=T.obj _ _ st5 b hb;exact(I7.pin (b,o) (qD _ (qD _ (Q2 hb e)))).2.1
  cases f with
  | next=>obtain⟨σ7,H7,I7,n7⟩:=q7;exact again I7 n7
  | cont=>obtain⟨σ7,H7,I7,n7⟩:=q7;exact again I7 n7
  | brk=>obtain⟨σ7,H7,I7,q7⟩:=q7;exact⟨σ7,H7,I7.unpinned,q7⟩
  | ret v=>obtain⟨x7,σ7,H7,I7,r7,q7⟩:=q7;exact⟨x7,σ7,H7,I7.unpinned,r7,q7⟩
end
abbrev R2:=V->V->Hp->VK->Prop
def OpR (X:Cx) (f:Value->Value->Sem Value) (r:R2):Prop:=
 ∀(pins:List (Addr×Obj)) (s:Shared) (σ:St) (H:Hp) (x y:V) (v u:Value) (Q:VK),Inv X pins σ H s->RelV x v->RelV y u->r x y H Q->
  wpAny (model X.prog X.w) X.A (f v u) (EP X pins σ Q) X.xe s
def UnR (X:Cx) (f:Value->Sem Value) (r:V->Hp->VK->Prop):Prop:=
 ∀(pins:List (Addr×Obj)) (s:Shared) (σ:St) (H:Hp) (x:V) (v:Value) (Q:VK),Inv X pins σ H s->RelV x v->r x H Q->
  wpAny (model X.prog X.w) X.A (f v) (EP X pins σ Q) X.xe s
def CallR (X:Cx) (f:Value) (r:List V->Hp->VK->Prop):Prop:=
 ∀(pins:List (Addr×Obj)) (s:Shared) (σ:St) (H:Hp) (xs:List V) (us:List Value) (Q:VK),Inv X pins σ H s->Vals xs us->r xs H Q->
  wpAny (model X.prog X.w) X.A (call f us) (EP X pins σ Q) X.xe s
def TruR (X:Cx) (r:V->Hp->(Bool->Hp->Prop)->Prop):Prop:=
 ∀(pins:List (Addr×Obj)) (s:Shared) (σ:St) (H:Hp) (x:V) (v:Value) (Q:Bool->Hp->Prop),Inv X pins σ H s->RelV x v->r x H Q->
  wpAny (model X.prog X.w) X.A (truthy v) (TP X pins σ Q) X.xe s
def tOp (r:R2) (ta tb:TE):TE:=fun σ H Q=>ta σ H fun x H1=>tb σ H1 fun y H2=>r x y H2 Q
def tUn (r:V->Hp->VK->Prop) (ta:TE):TE:=fun σ H Q=>ta σ H fun x H1=>r x H1 Q
def rI (C:Int->Int->Prop) (g:Int->Int->V):R2:=fun x y H Q=>∃i j,x= .int i/\y= .int j/\C i j/\Q (g i j) H
def rI0 (g:Int->Int->V):R2:=fun x y H Q=>∃i j,x= .int i/\y= .int j/\Q (g i j) H
def rU (g:Int->V):V->Hp->VK->Prop:=fun x H Q=>∃i,x= .int i/\Q (g i) H
section
variable {X:Cx}{a b:Expr}{ta tb:TE}{pos:Pos}
theorem binT (ha:PE X a ta)(hb:PE X b tb){pins:List (Addr×Obj)}{s:Shared}{σ:St}{H:Hp}{R:V->V->Hp->Prop}(I:Inv X pins σ H s)
  (h:ta σ H fun x H1=>tb σ H1 fun y H2=>R x y H2) {Q:Value->Shared->Prop} {f:Value->Value->Sem Value}
  (hf:∀v u s2 x y H2,Inv X pins σ H2 s2->RelV x v->RelV y u->R x y H2->wpAny (model X.prog X.w) X.A (f v u) Q X.xe s2):
  wpAny (model X.prog X.w) X.A (eval a X.env) (fun v s₁=>wpAny (model X.prog X.w) X.A (eval b X.env) (fun u s₂=>wpAny (model X.prog X.w) X.A (f v u) Q X.xe s₂) X.xe s₁) X.xe s:=by
 refine thn (ha pins s σ H _ I h) fun v s1 h0=>ex5 h0 fun x H1 I1 r1 q1=>?_;refine thn (hb pins s1 σ H1 _ I1 q1) fun u s2 h0=>ex5 h0 fun y H2 I2 r2 q2=>?_;exact hf v u s2 x y H2 I2 r1 r2 q2
theorem pe_op {op:Operator}{r:R2}(ho:OpR X (binaryOp op) r)(ha:PE X a ta)(hb:PE X b tb):PE X (.BinOp a op b pos) (tOp r ta tb):=by
 intro pins s σ H Q I h;exact wpAny_BinOp (binT ha hb I h fun v u s2 x y H2 I2 rx ry q=>ho pins s2 σ H2 x y v u Q I2 rx ry q)
theorem pe_un {op:UnaryOp}{r:V->Hp->VK->Prop}(ho:UnR X (unaryOp op) r)(ha:PE X a ta):PE X (.UnaryOp op a pos) (tUn r ta):=by
 intro pins s σ H Q I h;exact UnaryOp_ (thn (ha pins s σ H _ I h) fun v s1 h0=>ex5 h0 fun x H1 I1 r1 q1=>ho pins s1 σ H1 x v Q I1 r1 q1)
theorem opI {f:Value->Value->Sem Value}{C:Int->Int->Prop}{g:Int->Int->Int}
  (rule:∀(i j:Int) (t u:Tok) (s:Shared) (Q:Value->Shared->Prop) (E:Value->Shared->Prop),C i j->Q (.int (g i j) s.toks) {s with toks:=s.toks+1}->wpAny (model X.prog X.w) X.A (f (.int i t) (.int j u)) Q E s):
  OpR X f (rI C fun i j=>.int (g i j)):=by
 intro pins s σ H x y v u Q I rx ry h;obtain⟨i,j,rfl,rfl,hc,q⟩:=h;obtain⟨t,rfl⟩:=rx;obtain⟨t',rfl⟩:=ry;exact rule i j t t' s _ _ hc ⟨.int (g i j),H,I.tok _,⟨_,rfl⟩,q⟩
theorem opI0 {f:Value->Value->Sem Value}{g:Int->Int->Int}
  (rule:∀(i j:Int) (t u:Tok) (s:Shared) (Q:Value->Shared->Prop) (E:Value->Shared->Prop),Q (.int (g i j) s.toks) {s with toks:=s.toks+1}->wpAny (model X.prog X.w) X.A (f (.int i t) (.int j u)) Q E s):
  OpR X f (rI0 fun i j=>.int (g i j)):=by
 intro pins s σ H x y v u Q I rx ry h;obtain⟨i,j,rfl,rfl,q⟩:=h;obtain⟨t,rfl⟩:=rx;obtain⟨t',rfl⟩:=ry;exact rule i j t t' s _ _ ⟨.int (g i j),H,I.tok _,⟨_,rfl⟩,q⟩
theorem opB0 {f:Value->Value->Sem Value}{g:Int->Int->Bool}
  (rule:∀(i j:Int) (t u:Tok) (s:Shared) (Q:Value->Shared->Prop) (E:Value->Shared->Prop),Q (.bool (g i j)) s->wpAny (model X.prog X.w) X.A (f (.int i t) (.int j u)) Q E s):
  OpR X f (rI0 fun i j=>.bl (g i j)):=by
 intro pins s σ H x y v u Q I rx ry h;obtain⟨i,j,rfl,rfl,q⟩:=h;obtain⟨t,rfl⟩:=rx;obtain⟨t',rfl⟩:=ry;exact rule i j t t' s _ _ ⟨.bl (g i j),H,I,rfl,q⟩
def CPow (i j:Int):Prop:=0<=j/\j<=1000000/\i.natAbs<2^64
theorem b3J:OpR X (binaryOp .Add) (rI0 fun i j=>.int (i+j)):=opI0 fun _ _ _ _ _ _ _ q=>add_int q
theorem b3E:OpR X (binaryOp .Sub) (rI0 fun i j=>.int (i-j)):=opI0 fun _ _ _ _ _ _ _ q=>sub_int q
theorem b3t:OpR X (binaryOp .Mod) (rI (fun _ j=>0<j) fun i j=>.int (i%j)):=opI fun i j _ _ _ _ _ hc q=>by
 have h1:(0:Int)<j:=hc;exact mod_int' (by walk_at "o") (by rw[Int.fmod_eq_emod_of_nonneg i (by walk_at "o")];exact q)
theorem b4N:OpR X (binaryOp .Pow) (rI CPow fun i j=>.int (i^j.toNat)):=opI fun _ _ _ _ _ _ _ hc q=>pow_int_small hc.1 hc.2.1 hc.2.2 q
theorem unI {f:Value->Sem Value}{g:Int->Int}
  (rule:∀(i:Int) (t:Tok) (s:Shared) (Q:Value->Shared->Prop) (E:Value->Shared->Prop),Q (.int (g i) s.toks) {s with toks:=s.toks+1}->wpAny (model X.prog X.w) X.A (f (.int i t)) Q E s):
  UnR X f (rU fun i=>.int (g i)):=by
 intro pins s σ H x v Q I rx h;obtain⟨i,rfl,q⟩:=h;obtain⟨t,rfl⟩:=rx;exact rule i t s _ _ ⟨.int (g i),H,I.tok _,⟨_,rfl⟩,q⟩
theorem b4a:UnR X (unaryOp .USub) (rU fun i=>.int (-i)):=unI fun _ _ _ _ _ q=>neg_int q
end
section
variable {X:Cx}{a b c:Expr}{ta tb tc:TE}{pos:Pos}
theorem b3c {pins:List (Addr×Obj)}{σ:St}{H:Hp}{s:Shared}{Q:VK}{k k':Bool}(I:Inv X pins σ H s)(q:Q (.bl k) H)(e:k=k'):EP X pins σ Q (.bool k') s:=by
 subst e;exact⟨.bl k,H,I,rfl,q⟩
theorem b0k:OpR X (compareOp .Lt) (rI0 fun i j=>.bl (decide (i<j))):=opB0 fun _ _ _ _ _ _ _ q=>lt_int q
theorem a5a:OpR X (compareOp .LtE) (rI0 fun i j=>.bl (decide (i<=j))):=opB0 fun _ _ _ _ _ _ _ q=>le_int q
theorem b2w:OpR X (compareOp .Gt) (rI0 fun i j=>.bl (decide (j<i))):=opB0 fun _ _ _ _ _ _ _ q=>gt_int q
theorem b2z:OpR X (compareOp .GtE) (rI0 fun i j=>.bl (decide (j<=i))):=opB0 fun _ _ _ _ _ _ _ q=>ge_int q
theorem a8W:OpR X (compareOp .In) (fun x y H Q=>∃i j,x= .str i/\y= .str j/\Q (.bl (!(Builtin.Str.occurrences j i 0 j.length 1).isEmpty)) H):=by
 intro pins s σ H x y v u Q I rx ry h;obtain⟨i,j,rfl,rfl,q⟩:=h;obtain⟨t,rfl⟩:=rx;obtain⟨t',rfl⟩:=ry;exact in_str (b3c I q rfl)
theorem OpR.or {f:Value->Value->Sem Value}{r r':R2}(h:OpR X f r)(h':OpR X f r'):OpR X f (fun x y H Q=>r x y H Q\/r' x y H Q):=by
 intro pins s σ H x y v u Q I rx ry q;rcases q with q|q
 ·exact h pins s σ H x y v u Q I rx ry q
 ·exact h' pins s σ H x y v u Q I rx ry q
theorem nomark (b:Expr){op:CmpOp}(h:op≠.In:=by decide)(h2:op≠.NotIn:=by decide):behindInMarks op b=false:=by
 have e1:(op==CmpOp.In)=false:=by cases op<;>first|rfl|exact absurd rfl h
 have e2:(op==CmpOp.NotIn)=false:=by cases op<;>first|rfl|exact absurd rfl h2
 cases b<;>simp[behindInMarks,e1,e2]
theorem b1a {op:CmpOp}{r:R2}(ho:OpR X (compareOp op) r)(ha:PE X a ta)(hb:PE X b tb)(hm:behindInMarks op b=false):PE X (.Compare a [op] [b] pos) (tOp r ta tb):=by
 intro pins s σ H Q I h;exact wpAny_Compare1 (binT ha hb I h fun v u s2 x y H2 I2 rx ry q=>ho pins s2 σ H2 x y v u Q I2 rx ry q) hm
def tTest (t:TE):TT:=fun σ H Q=>t σ H fun x H'=>∃k,x= .bl k/\Q k H'
theorem b1W {op:CmpOp}{r:R2}(ho:OpR X (compareOp op) r)(ha:PE X a ta)(hb:PE X b tb)(hm:behindInMarks op b=false):PT X (.Compare a [op] [b] pos) (tTest (tOp r ta tb)):=by
 intro pins s σ H Q I h
 refine wpAny_isTrue_Compare1 (thn (ha pins s σ H _ I h) fun v s1 h0=>ex5 h0 fun x H1 I1 r1 q1=>thn (hb pins s1 σ H1 _ I1 q1) fun u s2 h0=>ex5 h0 fun y H2 I2 r2 q2=>
  thn (ho pins s2 σ H2 x y v u _ I2 r1 r2 q2) fun c s3 ⟨z,H3,I3,r3,k,e,q3⟩=>?_) hm
 subst e;cases r3;exact qY ⟨H3,I3,q3⟩
def tChain (r r':R2) (ta tb tc:TE):TE:=fun σ H Q=>ta σ H fun x H1=>tb σ H1 fun y H2=>r x y H2 fun z H3=>∃k,z= .bl k/\
 (if k=true then tc σ H3 fun w' H4=>r' y w' H4 Q else Q (.bl false) H3)
theorem a6s {op op':CmpOp}{r r':R2}(ho:OpR X (compareOp op) r)(ho':OpR X (compareOp op') r')(ha:PE X a ta)(hb:PE X b tb)(hc:PE X c tc)
  (hm:lastMarks [op,op'] [b,c]=false:=by with_unfolding_all rfl):PE X (.Compare a [op,op'] [b,c] pos) (tChain r r' ta tb tc):=by
 intro pins s σ H Q I h
 refine Compare_chain (thn (ha pins s σ H _ I h) fun v s1 h0=>ex5 h0 fun x H1 I1 r1 q1=>chain_link (thn (hb pins s1 σ H1 _ I1 q1) fun u s2 h0=>ex5 h0 fun y H2 I2 r2 q2=>
  thn (ho pins s2 σ H2 x y v u _ I2 r1 r2 q2) fun d s3 ⟨z,H3,I3,r3,k,e,q3⟩=>?_)) hm
 subst e;cases r3;refine qY ?_;cases k with
 | false=>exact ite_ff ⟨.bl false,H3,I3,rfl,q3⟩
 | true=>exact ite_tt (chain_last (thn (hc pins s3 σ H3 _ I3 q3) fun w' s4 h0=>ex5 h0 fun z' H4 I4 r4 q4=>ho' pins s4 σ H4 y z' u w' Q I4 r2 r4 q4))
theorem a99 {op op':CmpOp}{r r':R2}(ho:OpR X (compareOp op) r)(ho':OpR X (compareOp op') r')(ha:PE X a ta)(hb:PE X b tb)(hc:PE X c tc)
  (hm:lastMarks [op,op'] [b,c]=false:=by with_unfolding_all rfl):PT X (.Compare a [op,op'] [b,c] pos) (tTest (tChain r r' ta tb tc)):=by
 intro pins s σ H Q I h
 refine isTrue_chain (thn (ha pins s σ H _ I h) fun v s1 h0=>ex5 h0 fun x H1 I1 r1 q1=>test_link (thn (hb pins s1 σ H1 _ I1 q1) fun u s2 h0=>ex5 h0 fun y H2 I2 r2 q2=>
  thn (ho pins s2 σ H2 x y v u _ I2 r1 r2 q2) fun d s3 ⟨z,H3,I3,r3,k,e,q3⟩=>?_)) hm
 subst e;cases r3;refine qY ?_;cases k with
 | false=>
  obtain⟨k',e',q'⟩:=q3;cases e';exact ite_ff ⟨H3,I3,q'⟩
 | true=>
  refine ite_tt (test_last (thn (hc pins s3 σ H3 _ I3 q3) fun w' s4 h0=>ex5 h0 fun z' H4 I4 r4 q4=>thn (ho' pins s4 σ H4 y z' u w' _ I4 r2 r4 q4) fun d' s5 ⟨z2,H5,I5,r5,k2,e2,q5⟩=>?_));subst e2;cases r5;exact qY ⟨H5,I5,q5⟩
def TruV (K:PySem.W.Frag) (x:V) (H:Hp) (k:Bool):Prop:=
 match x with
 | .non=>k=false
 | .bl b=>k=b
 | .int i=>k=(i != 0)
 | .str y=>y.length<=sizeLine/\k=((y.length:Int) != 0)
 | .byt y=>y.size<=sizeLine/\k=((y.size:Int) != 0)
 | .ref p=>(∃xs,SqL K H p xs/\k= !xs.isEmpty)\/(∃xs,SqT K H p xs/\k= !xs.isEmpty)\/∃kvs,H p=some (.dK kvs)/\k= !kvs.isEmpty
 | _=>False
theorem a7b {κ:Type}{kvs:List (κ×V)}{vs:List (κ×Value)}(r:KV kvs vs):(!vs.isEmpty)= !kvs.isEmpty:=by
 cases r<;>rfl
theorem a4F {xs:List V}{its:List Value}(r:Vals xs its):(!its.toArray.isEmpty)= !xs.isEmpty:=by
 cases r<;>simp
theorem line63:(sizeLine:Nat)<2^63:=by rw[sizeLine_eq];decide
theorem b0T:TruR X (fun x H Q=>∃k,TruV X.K x H k/\Q k H):=by
 intro pins s σ H x v Q I rx h;obtain⟨k,e,q⟩:=h;have hl:=line63;have hs:sizeLine=16777216:=sizeLine_eq;cases x with
 | non=>
  cases rx;have e':k=false:=e;subst e';exact truthy_none ⟨H,I,q⟩
 | bl b=>
  cases rx;have e':k=b:=e;subst e';exact qY ⟨H,I,q⟩
 | int i=>
  obtain⟨t,rfl⟩:=rx;have e':k=(i != 0):=e;subst e';exact PySem.P.truthy_int ⟨H,I,q⟩
 | str y=>
  obtain⟨t,rfl⟩:=rx;obtain⟨hy,e'⟩:y.length<=sizeLine/\k=((y.length:Int) != 0):=e;subst e';exact PySem.P.truthy_str (by walk_at "o") ⟨H,I.tok _,q⟩
 | byt y=>
  obtain⟨t,rfl⟩:=rx;obtain⟨hy,e'⟩:y.size<=sizeLine/\k=((y.size:Int) != 0):=e;subst e';exact PySem.W.truthy_bytes (by walk_at "o") ⟨H,I.tok _,q⟩
 | ref p=>
  cases rx;have e':(∃xs,SqL X.K H p xs/\k= !xs.isEmpty)\/(∃xs,SqT X.K H p xs/\k= !xs.isEmpty)\/∃kvs,H p=some (.dK kvs)/\k= !kvs.isEmpty:=e;rcases e' with ⟨xs,hx,e'⟩|⟨xs,hx,e'⟩|⟨kvs,hx,e'⟩
  ·subst e';obtain⟨its,r,pl,hz⟩:=I.list hx;have hlen:=r.length;exact wpAny_truthy_list pl.isList (by simp only[zX];walk_at "o") ⟨H,I.tok _,by rw[a4F r];exact q⟩
  ·subst e';obtain⟨its,r,pl,hz⟩:=I.tuple hx;have hlen:=r.length;exact truthy_tuple pl (by simp only[zX];walk_at "o") ⟨H,I.tok _,by rw[a4F r];exact q⟩
  ·subst e';obtain⟨hz,hS,vs,r,m⟩:kvs.length<=sizeLine/\(p==sysModules)=false/\∃vs,KV kvs vs/\s.heap.DictAt (mixKind X.prog X.w) p vs kvs.length:=I.hok p _ hx;have hlen:kvs.length=vs.length:=Paired.length r;exact wpAny_truthy_dict hS m.dictOf (by walk_at "o") ⟨H,I.tok _,by rw[a7b r];exact q⟩
 | _=>exact(show False from e).elim
theorem b0j (ha:PE X a ta)(he:∀whole,isTrue a X.env whole=(do let v <-whole;standAt a.pos;holding [v] (truthy v))):
  PT X a (fun σ H Q=>ta σ H fun x H'=>∃k,TruV X.K x H' k/\Q k H'):=by
 intro pins s σ H Q I h;exact isTrue_plain (thn (ha pins s σ H _ I h) fun v s1 h0=>ex5 h0 fun x H1 I1 r1 q1=>b0T pins s1 σ H1 x v Q I1 r1 q1) (he _)
theorem a7p:OpR X (binaryOp .Add) (fun x y H Q=>∃i j,x= .str i/\y= .str j/\i.length+j.length<=sizeLine/\Q (.str (i++j)) H):=by
 intro pins s σ H x y v u Q I rx ry h;obtain⟨i,j,rfl,rfl,hz,q⟩:=h;obtain⟨t,rfl⟩:=rx;obtain⟨t',rfl⟩:=ry;exact add_str (fun t' tk=>⟨.str (i++j),H,I.tok _,⟨_,rfl⟩,q⟩) hz
theorem vals1 {x:V}{us:List Value}(r:Vals [x] us):∃u,us=[u]/\RelV x u:=by
 cases r with
 | cons r1 r2=>cases r2;exact⟨_,rfl,r1⟩
theorem vals2 {x y:V}{us:List Value}(r:Vals [x,y] us):∃u w',us=[u,w']/\RelV x u/\RelV y w':=by
 cases r with
 | cons r1 r2=>
  cases r2 with
  | cons r3 r4=>cases r4;exact⟨_,_,rfl,r1,r3⟩
theorem a3X:CallR X (.builtin "abs") (fun xs H Q=>∃i,xs=[.int i]/\Q (.int (if i<0 then -i else i)) H):=by
 intro pins s σ H xs us Q I r h;obtain⟨i,rfl,q⟩:=h;obtain⟨u,rfl,t,rfl⟩:=vals1 r;exact call_abs_int fun u tk=>⟨.int (if i<0 then -i else i),H,I.tok _,⟨_,rfl⟩,q⟩
theorem a51:CallR X (.type "str") (fun xs H Q=>∃i,xs=[.int i]/\i.natAbs.log2<1920/\Q (.str (toString i)) H):=by
 intro pins s σ H xs us Q I r h;obtain⟨i,rfl,hz,q⟩:=h;obtain⟨u,rfl,t,rfl⟩:=vals1 r;exact PySem.P.str_of_int hz ⟨.str _,H,I.tok _,⟨_,rfl⟩,q⟩
end
structure Cls (K:PySem.W.Frag) (C:Addr):Prop where
 pg:PySem.W.plainGet K C Str.empty=true
 hd:PySem.W.hasDictIn K C=true
 po:PySem.W.plainOver K C=true
 sa:PySem.W.findIn K (.ref C) "__setattr__"=some (some (.builtin "object.__setattr__"))
section
variable {H:Hp}
inductive TyOf (K:PySem.W.Frag) (H:Hp):V->Value->Prop where
 | non:TyOf K H .non (.type "NoneType")
 | bl (x:Bool):TyOf K H (.bl x) (.type "bool")
 | int (i:Int):TyOf K H (.int i) (.type "int")
 | str (x:Str):TyOf K H (.str x) (.type "str")
 | flt (x:UInt64):TyOf K H (.flt x) (.type "float")
 | lst {a:Addr} {xs:List V} (e:H a=some (.lst xs)):TyOf K H (.ref a) (.type "list")
 | frz {a:Addr} {o:Obj} {xs:List V} (e:H a=some (.frz o (.lst xs))):TyOf K H (.ref a) (.type "list")
 | tup {a:Addr} {xs:List V} (e:H a=some (.tup xs)):TyOf K H (.ref a) (.type "tuple")
 | dK {a:Addr} {kvs:List (Key×V)} (e:H a=some (.dK kvs)):TyOf K H (.ref a) (.type "dict")
 | dT {a:Addr} {kvs:List (List Key×V)} (e:H a=some (.dT kvs)):TyOf K H (.ref a) (.type "dict")
 | ins {a C dx:Addr} {fs:List (Str×V)} (e:H a=some (.ins C dx fs)) (cl:Cls K C) (ha:PySem.W.findIn K (.ref C) "__class__"=some (some (.builtin "object.__class__")))
   (hn:PySem.W.specialIn K (.builtin "object.__class__") "__get__"=some (some (.builtin "getset_descriptor.__get__"))) (htk:PySem.W.takesIn K (.builtin "object.__class__")=some true)
   (hm:PySem.W.mroIn K C (.type "object")=some true):TyOf K H (.ref a) (.ref C)
end
structure Room (k:Nat) (A:Around):Prop where
 hd:A.handled=none
 dp:A.depth+3*k+5<recursionLimit
 un:A.units+16*k+200<cLine
 gd:A.guards=some []
theorem Room.mono {j k:Nat}{A:Around}(r:Room k A)(h:j<=k):Room j A:=⟨r.hd,by have:=r.dp;walk_at "o",by have:=r.un;walk_at "o",r.gd⟩
theorem Room.deeper {k:Nat}{A:Around}(r:Room (k+1) A)(env:Env):Room k (A.deeper env):=
 ⟨r.hd,by have:=r.dp;show A.depth+1+3*k+5<_;walk_at "o",by have:=r.un;show A.units+3+16*k+200<_;walk_at "o",r.gd⟩
theorem Room.depth {k:Nat}{A:Around}(r:Room k A):A.depth<recursionLimit:=by have:=r.dp;walk_at "o"
theorem Room.units {k:Nat}{A:Around}(r:Room k A):A.units+64<cLine:=by have:=r.un;walk_at "o"
def tNil:TA:=fun _ H Q=>Q [] H
def tCons (ta:TE) (tr:TA):TA:=fun σ H Q=>ta σ H fun x H1=>tr σ H1 fun xs H2=>Q (x::xs) H2
section
variable {X:Cx}{e:Expr}{es:List Expr}{te:TE}{t:TA}{pos:Pos}
theorem a2R:PA X [] tNil:=fun _ _ _ _ H Q I h=>Calls.spliced_nil ⟨[],H,I,.nil,h⟩
theorem Q8 (ha:PE X e te)(hr:PA X es t)(hs:starEach (e::es) X.env=(false,eval e X.env)::starEach es X.env:=by rfl):PA X (e::es) (tCons te t):=by
 intro pos pins s σ H Q I h;rw[hs];show wpAny _ _ (spliced ((false,eval e X.env)::backTo pos (starEach es X.env))) _ _ s;refine Calls.spliced_cons (thn (ha pins s σ H _ I h) fun u s1 h0=>ex5 h0 fun x H1 I1 r1 q1=>?_);exact thn (hr pos pins s1 σ H1 _ I1 q1) fun us s2 h0=>ex5 h0 fun xs H2 I2 r2 q2=>⟨x::xs,H2,I2,.cons r1 r2,q2⟩
def tTup (t:TA):TE:=fun σ H Q=>t σ H fun xs H1=>xs.length<=sizeLine/\∀p,H1 p=none->Q (.ref p) (upd H1 p (.tup xs))
def tLst (t:TA):TE:=fun σ H Q=>t σ H fun xs H1=>xs.length<=sizeLine/\∀p,H1 p=none->Q (.ref p) (upd H1 p (.lst xs))
theorem b0I {x1}(h:PA X es t):PE X (.Tuple es x1 pos) (tTup t):=by
 intro pins s σ H Q I hq;refine wpAny_Tuple_spliced (thn (h pos pins s σ H _ I hq) fun us s1 ⟨xs,H1,I1,r,z,q⟩=>⟨by rw[<-r.length];exact z,?_⟩)
 have hf:H1 s1.heap.objs.size=none:=I1.hok.fresh (zI _);refine⟨.ref s1.heap.objs.size,upd H1 s1.heap.objs.size (.tup xs),I1.laid (t':=s1.toks) (fun b u e=>zN _ e) (zI _) ?_,rfl,q _ hf⟩;exact⟨z,us,r,TupN.new _ _⟩
theorem b2I (h:PA X es t):PE X (.List es pos) (tLst t):=by
 intro pins s σ H Q I hq;refine wpAny_List_spliced (thn (h pos pins s σ H _ I hq) fun us s1 ⟨xs,H1,I1,r,z,q⟩=>⟨by rw[<-r.length];exact z,?_⟩)
 have hf:H1 s1.heap.objs.size=none:=I1.hok.fresh (zI _);refine⟨.ref s1.heap.objs.size,upd H1 s1.heap.objs.size (.lst xs),I1.laid (t':=s1.toks) (fun b u e=>zN _ e) (zI _) ?_,rfl,q _ hf⟩;exact⟨z,us,0,r,qB _ rfl⟩
end
abbrev Sp:=List V->Hp->VK->XK->Prop
abbrev CXT:=List Env->Hp->Shared->XK->Value->Shared->Prop
structure Env0 (P:Program) (w:World) (K:PySem.W.Frag) (mg:Str->Option Value) (base:Heap) (A:Around) (outer:List Env) (s:Shared) (H:Hp):Prop where
 frames:A.frames=some outer
 mod:Mod K mg base
 bs:∀b o,base.get? b=some o->s.heap.get? b=some o/\H b=none
 bsz:base.objs.size<=s.heap.objs.size
 funs:s.heap.FunFrames base outer
 frf:∀b∈frs outer,H b=none
 hok:HOk P w H s.heap
 bare:AllBare s.gens
def CE (outer:List Env) (P:Program) (w:World) (H:Hp) (s:Shared) (Q:VK) (u:Value) (s':Shared):Prop:=
 ∃v H',s'.os=s.os/\AllBare s'.gens/\Un (frs outer) [] H H' s.heap s'.heap/\HOk P w H' s'.heap/\RelV v u/\Q v H'
def CR (CX:CXT) (outer:List Env) (P:Program) (w:World) (H:Hp) (s:Shared) (Q:VK) (E:XK) (r:Result) (s':Shared):Prop:=
 match r with
 | .ok (.ret u)=>CE outer P w H s Q u s'
 | .ok _=>False
 | .error e=>CX outer H s E e s'
structure FnOk (P:Program) (w:World) (K:PySem.W.Frag) (mg:Str->Option Value) (base:Heap) (CX:CXT) (k:Nat) (f:Addr) (fd:FuncData) (ps:List Str) (sp:Sp):Prop where
 len:∀vs H Q E,sp vs H Q E->vs.length=ps.length
 run:∀(A:Around) (outer:List Env) (s:Shared) (H:Hp) (args:Args) (us:List Value) (vs:List V) (Q:VK) (E:XK),Room k A->Env0 P w K mg base A outer s H->BindsTo s fd args (ps.zip us)->Vals vs us->sp vs H Q E->
  codeAny (model P w) A (.call (.ref f) args) (CR CX outer P w H s Q E) s
theorem FnOk.mono {P:Program}{w:World}{K:PySem.W.Frag}{mg:Str->Option Value}{base:Heap}{CX:CXT}{j k:Nat}{f:Addr}{fd:FuncData}{ps:List Str}{sp:Sp}(F:FnOk P w K mg base CX j f fd ps sp)(h:j<=k):
  FnOk P w K mg base CX k f fd ps sp:=⟨F.len,fun A outer s H args us vs Q E hr=>F.run A outer s H args us vs Q E (hr.mono h)⟩
section
variable {X:Cx}{pins:List (Addr×Obj)}{σ:St}{H:Hp}{s s':Shared}
theorem Inv.env0 (I:Inv X pins σ H s):Env0 X.prog X.w X.K X.mg X.base X.A X.stack s H:=
 ⟨I.ok.frames,I.ok.mod,I.bs,zO I.ok.bsz I.sz,I.stack,I.stkFree,I.hok,I.bare⟩
theorem Inv.after {Q:VK}{u:Value}(I:Inv X pins σ H s)(h:CE X.stack X.prog X.w H s Q u s'):EP X pins σ Q u s':=by
 obtain⟨v,H',os,bare,un,hok,r,q⟩:=h;obtain⟨hh,g,d,t,os'⟩:=s';obtain rfl:os'=s.os:=os;exact⟨v,H',I.call (h':=hh) (g':=g) (d':=d) (t':=t) (ch:=[]) un hok bare (fun b z=>absurd z (by simp)),r,q⟩
end
def tCall (sp:Sp) (dvs:List V) (E:XK) (t:TA):TE:=fun σ H Q=>t σ H fun vs H1=>sp (vs++dvs) H1 Q E
def Binds (K:PySem.W.Frag) (fd:FuncData) (ps:List Str) (ds:List Value):Prop:=
 ∀(s:Shared) (us:List Value),K.In s.heap->(us++ds).length=ps.length->BindsTo s fd ⟨us,[]⟩ (ps.zip (us++ds))
theorem Binds.all {K:PySem.W.Frag}{fd:FuncData}{ps:List Str}(h:∀us:List Value,us.length=ps.length->bindArgs fd ⟨us,[]⟩=pure (ps.zip us)):Binds K fd ps []:=fun s us _ hl=>by
 rw[jT] at hl ⊢;exact .of_eq (h us hl)
def Passes (CX:CXT) (X:Cx) (E:XK):Prop:=∀(pins:List (Addr×Obj)) (σ:St) (H:Hp) (s:Shared) (e:Value) (s':Shared),Inv X pins σ H s->CX X.stack H s E e s'->X.xe e s'
section
variable {X:Cx}{CX:CXT}{k:Nat}{f:Addr}{fd:FuncData}{ps:List Str}{sp:Sp}{dvs:List V}{ds:List Value}{E:XK}{x:Str}{p pos:Pos}{e:Expr}{es:List Expr}{t:TA}
theorem a7H {pins:List (Addr×Obj)}{σ:St}{H:Hp}{s:Shared}{Q:VK}{us:List Value}{vs:List V}(F:FnOk X.prog X.w X.K X.mg X.base CX k f fd ps sp)(hr:Room k X.A)(hb:Binds X.K fd ps ds)(hd:Vals dvs ds)(hx:Passes CX X E)
  (I:Inv X pins σ H s) (r:Vals vs us) (h:sp (vs++dvs) H Q E):wpAny (model X.prog X.w) X.A (call (.ref f) us) (EP X pins σ Q) X.xe s:=by
 have r2:Vals (vs++dvs) (us++ds):=r.append hd;have hl:(us++ds).length=ps.length:=by rw[<-r2.length];exact F.len _ _ _ _ h
 refine wpAny_call (codeAny_mono (F.run X.A X.stack s H ⟨us,[]⟩ (us++ds) (vs++dvs) Q E hr I.env0 (hb s us I.kIn hl) r2 h) fun r s' hq=>?_);cases r with
 | error e=>exact hx pins σ H s e s' I hq
 | ok fl=>
  cases fl with
  | ret u=>exact I.after hq
  | next=>exact False.elim hq
  | brk=>exact False.elim hq
  | cont=>exact False.elim hq
theorem b1h (F:FnOk X.prog X.w X.K X.mg X.base CX k f fd ps sp)(hr:Room k X.A)(hg:Gl X x)(hm:X.mg x=some (.ref f))(hk:PySem.W.keepIn X.K (.ref f)=true)(hb:Binds X.K fd ps ds)(hd:Vals dvs ds)(hx:Passes CX X E)
  (ha:PA X (e::es) t) (hdb:(x==("__debug__":Str))=false:=by decide) (he:starEach (e::es) X.env=(false,eval e X.env)::starEach es X.env:=by rfl) (hpl:(backTo pos (starEach es X.env)).any (·.1)=false:=by rfl):
  PE X (.Call (.Name x p) (e::es) [] pos) (tCall sp dvs E t):=by
 intro pins s σ H Q I h;refine jK (W1 I hg hm ?_ hdb);refine PySem.W.callWith_K (h₀:=X.base) I.ok.mod.kin hk (thn (ha pos pins s σ H _ I h) fun us s1 h0=>ex5 h0 fun vs H1 I1 r q=>⟨I1.kIn,?_⟩) he hpl;exact a7H F hr hb hd hx I1 r q
theorem a9D (F:FnOk X.prog X.w X.K X.mg X.base CX k f fd ps sp)(hr:Room k X.A)(hg:Gl X x)(hm:X.mg x=some (.ref f))(hk:PySem.W.keepIn X.K (.ref f)=true)(hb:Binds X.K fd ps ds)(hd:Vals dvs ds)(hx:Passes CX X E)
  (hdb:(x==("__debug__":Str))=false:=by decide):PE X (.Call (.Name x p) [] [] pos) (tCall sp dvs E tNil):=by
 intro pins s σ H Q I h;refine jK (W1 I hg hm ?_ hdb);exact PySem.W.callWith_K0 I.kIn hk (a7H (us:=[]) F hr hb hd hx I .nil h)
end
structure FnScope (N P:List Str) (sc:Scope):Prop where
 kind:sc.kind= .function
 co:sc.isCoroutine=false
 gen:sc.isGenerator=false
 nd:N.Nodup
 pre:N.take P.length=P
 par:∀x∈P,sc.names.lookup x=some .local\/sc.names.lookup x=some .cell
 nofree:∀y∈sc.names,y.2≠.free
theorem a5r {kindOf:Str->Option NameKind}{x:Str}:∀{binds:List (Str×Value)} {m:Str->Option Value},(∀v,(x,v)∉binds)->bindL kindOf binds m x=m x
 | [],_,_=>rfl
 | (n,v)::r,m,h=>by
  unfold bindL;rw[a5r fun w hw=>h w (zH _ hw)]
  split
  ·have:x≠n:=by rintro rfl;exact h v zG
   simp[this]
  ·rfl
theorem a4W {kindOf:Str->Option NameKind}{x:Str}:∀{binds:List (Str×Value)} {m:Str->Option Value},(∀v,(x,v)∉binds)->bindC kindOf binds m x=m x
 | [],_,_=>rfl
 | (n,v)::r,m,h=>by
  unfold bindC;rw[a4W fun w hw=>h w (zH _ hw)]
  split
  ·rfl
  ·have:x≠n:=by rintro rfl;exact h v zG
   simp[this]
theorem a44 {kindOf:Str->Option NameKind}{x:Str}{v:Value}:∀{P:List Str} {vs:List Value} {i:Nat} {m:Str->Option Value},P.Nodup->P[i]? =some x->vs[i]? =some v->kindOf x=some .local->
  bindL kindOf (P.zip vs) m x=some v
 | [],_,_,_,_,h,_,_=>by simp at h
 | _::_,[],_,_,_,_,h,_=>by simp at h
 | p::P,w::vs,0,m,nd,h1,h2,hk=>by
  simp at h1 h2;subst h1;subst h2;show bindL kindOf ((p,w)::P.zip vs) m p=_;unfold bindL;rw[a5r fun v hv=>(nodup_cons.mp nd).1 (of_mem_zip hv).1,if_pos hk];simp
 | p::P,w::vs,i+1,m,nd,h1,h2,hk=>by
  show bindL kindOf ((p,w)::P.zip vs) m x=_;unfold bindL;exact a44 (i:=i) (nodup_cons.mp nd).2 (by simpa using h1) (by simpa using h2) hk
theorem a5p {kindOf:Str->Option NameKind}{x:Str}{v:Value}:∀{P:List Str} {vs:List Value} {i:Nat} {m:Str->Option Value},P.Nodup->P[i]? =some x->vs[i]? =some v->kindOf x≠some .local->
  bindC kindOf (P.zip vs) m x=some v
 | [],_,_,_,_,h,_,_=>by simp at h
 | _::_,[],_,_,_,_,h,_=>by simp at h
 | p::P,w::vs,0,m,nd,h1,h2,hk=>by
  simp at h1 h2;subst h1;subst h2;show bindC kindOf ((p,w)::P.zip vs) m p=_;unfold bindC;rw[a4W fun v hv=>(nodup_cons.mp nd).1 (of_mem_zip hv).1,if_neg hk];simp
 | p::P,w::vs,i+1,m,nd,h1,h2,hk=>by
  show bindC kindOf ((p,w)::P.zip vs) m x=_;unfold bindC;exact a5p (i:=i) (nodup_cons.mp nd).2 (by simpa using h1) (by simpa using h2) hk
def start (N:List Str) (vs:List V):St:=vs.map some++List.replicate (N.length-vs.length) none
def cxOf (CX:CXT) (P:Program) (w:World) (K:PySem.W.Frag) (mg:Str->Option Value) (base:Heap) (N:List Str) (qual:Str) (scope:Scope) (f:Addr) (cd:Value) (A:Around) (outer:List Env) (s:Shared) (H:Hp) (E:XK):Cx where
 prog:=P
 w:=w
 K:=K
 mg:=mg
 base:=base
 A:=A.deeper (envOfC qual scope s.heap.objs.size f cd)
 N:=N
 s₀:=s
 H₀:=H
 env:=envOfC qual scope s.heap.objs.size f cd
 outer:=outer
 stack:=envOfC qual scope s.heap.objs.size f cd::outer
 ex:=[]
 calm:=true
 fn:=fun _=>true
 pn:=[]
 xe:=fun e s'=>wpAny (model P w) (A.deeper (envOfC qual scope s.heap.objs.size f cd)) (leaving (envOfC qual scope s.heap.objs.size f cd) e) (fun _ s''=>CX outer H s E e s'') (fun e' s''=>CX outer H s E e' s'') s'
theorem a6M {sc:Scope}{n:Nat}{x:Str}(h:sc.names.lookup x=some .cell):∃c,(cellsFrom n sc.names []).lookup x=some c:=by
 have q:=PySem.W.cellsFrom_some sc.names n [] (.inl h);exact yC.mp q
theorem a9b {CX:CXT}{P:Program}{w:World}{K:PySem.W.Frag}{mg:Str->Option Value}{base:Heap}{N ps:List Str}{qual:Str}{scope:Scope}{f:Addr}{cd:Value}{A:Around}{outer:List Env}{s s1:Shared}{H:Hp}{E:XK}{us:List Value}{vs:List V}
  (S:FnScope N ps scope) (hd:A.handled=none) (e0:Env0 P w K mg base A outer s H) (hl:vs.length=ps.length) (r:Vals vs us)
  (x:InCallC s s.heap.objs.size (bindL (envOfC qual scope s.heap.objs.size f cd).kindOf (ps.zip us) fun _=>none) (cellsFrom (s.heap.objs.size+1) scope.names []) (bindC (envOfC qual scope s.heap.objs.size f cd).kindOf (ps.zip us) fun _=>none) s1):
  Inv (cxOf CX P w K mg base N qual scope f cd A outer s H E) [] (start N vs) H s1:=by
 have hpl:ps.length<=N.length:=by have:=jF List.length S.pre;rw[length_take] at this;walk_at "o"
 obtain⟨h1,tk,rfl,hk⟩:=x.done;have noA:∀b:Addr,b∉(cxOf CX P w K mg base N qual scope f cd A outer s H E).ex:=fun b z=>absurd (show b∈([]:List Addr) from z) (by simp)
 refine⟨⟨e0.mod,S.kind,rfl,rfl,zI _,fun y z c h1 h2=>?_,fun y hy=>?_,fun y c _ h=>?_,fun _=>hd,Around.frames_deeper e0.frames,.inr ⟨rfl,rfl⟩,fun b z=>absurd z (noA b),e0.bs,e0.bsz,fun b _ _=>noA b,fun b z=>absurd z (noA b),e0.funs,e0.frf⟩,
  rfl,e0.bare,Un.kept hk,⟨_,x.toInCall.ns,fun i y v h1 h2 h3=>?_⟩,fun y c h=>⟨_,x.cell y c h⟩,e0.hok.fresh (zI _),fun y c h=>?_,fun p hp=>absurd (show p∈([]:List (Addr×Obj)) from hp) (by simp),e0.hok.kept hk,?_⟩
 ·exact name_of_addr x.apart (xS h1) (xS h2)
 ·have hy:scope.names.lookup y=some .cell\/scope.names.lookup y=some .free:=hy;rcases hy with hy|hy
  ·exact a6M hy
  ·exact absurd rfl (S.nofree _ (xS hy))
 ·exact Nat.le_of_lt (x.above y c (xS h))
 ·have hi:i<vs.length:=by
   unfold start at h2
   by_cases hi:i<vs.length
   ·exact hi
   ·rw[qI (by simpa using hi)] at h2
    rw[List.getElem?_replicate] at h2;split at h2<;>cases h2
  have ha:vs[i]? =some v:=by
   unfold start at h2;rw[qC (by simpa using hi),qU] at h2
   cases e:vs[i]? with
   | none=>rw[e] at h2;cases h2
   | some a=>rw[e] at h2;cases h2;rfl
  obtain⟨u,hu,rv⟩:=r.get ha;have hp:ps[i]? =some y:=by
   rw[<-S.pre,List.getElem?_take_of_lt (by walk_at "o")];exact h1
  have ndP:ps.Nodup:=by rw[<-S.pre];exact S.nd.sublist (List.take_sublist _ _)
  refine⟨u,rv,?_⟩;rcases S.par y (qS hp) with k|k
  ·exact .inl ⟨k,a44 ndP hp hu k⟩
  ·obtain⟨c,e⟩:=a6M (n:=s.heap.objs.size+1) k;refine .inr ⟨.inl k,c,e,?_⟩;have q:=x.cell y c e;rw[a5p ndP hp hu (by show scope.names.lookup y≠_;rw[k];decide)] at q
   exact q
 ·exact e0.hok.fresh (Nat.le_of_lt (x.above y c (xS h)))
 ·unfold start;show _=N.length;rw[zP,zD,List.length_replicate];walk_at "o"
theorem b2x {CX:CXT}{P:Program}{w:World}{K:PySem.W.Frag}{mg:Str->Option Value}{base:Heap}{k:Nat}{f:Addr}{name qual:Str}{params:Arguments}{body:List Stmt}{scope:Scope}{dV kV doc pm cdv ct oc:Value}{an od:Option Addr}
  {osl:Array (Option Value)} {N ps:List Str} {sp:Sp} (lk:K.lookup f=some ⟨oc,od,.func (PySem.W.fnOf name qual params body scope dV kV doc pm an cdv ct),osl⟩) (hcd:PySem.W.codeIn K cdv qual=true) (S:FnScope N ps scope)
  (len:∀vs H Q E,sp vs H Q E->vs.length=ps.length)
  (hbody:∀(A:Around) (outer:List Env) (s:Shared) (H:Hp) (vs:List V) (Q:VK) (E:XK),Room k (A.deeper (envOfC qual scope s.heap.objs.size f cdv))->sp vs H Q E->
   ∃t,PSs (cxOf CX P w K mg base N qual scope f cdv A outer s H E) body t/\t {nx:=fun _ H'=>Q .non H',rt:=Q} (start N vs) H):
  FnOk P w K mg base CX (k+1) f (PySem.W.fnOf name qual params body scope dV kV doc pm an cdv ct) ps sp:=by
 refine⟨len,fun A outer s H args us vs Q E hr e0 hb r hsp=>?_⟩;have hl:=len _ _ _ _ hsp;have KX:K.In s.heap:=e0.mod.kin.keeps fun b o e=>(e0.bs b o e).1;have lim:s.heap.NoLimit:=e0.mod.nolimit.keeps fun b o e=>(e0.bs b o e).1;have hkind:∀y∈ps.zip us,scope.names.lookup y.1=some .local\/(scope.names.lookup y.1=some .cell/\((cellsFrom (s.heap.objs.size+1) scope.names []).lookup y.1).isSome=true):=fun⟨n,v⟩ hy=>by
  rcases S.par n (of_mem_zip hy).1 with q|q
  ·exact .inl q
  ·exact .inr ⟨q,PySem.W.cellsFrom_some _ _ _ (.inl q)⟩
 refine codeAny_call_function hr.depth (KX _ _ lk) rfl S.co S.gen rfl (PySem.W.codeRec_of KX hcd) (hb _ _ _ _ ?_);refine wpAny_newFunctionEnv_cells S.kind hkind fun env he s1 x=>?_;subst he;refine⟨lim.keeps x.toInCall.keep,codeAny_func ?_⟩;obtain⟨t,ht,hq⟩:=hbody A outer s H vs Q E (hr.deeper _) hsp;have I:Inv (cxOf CX P w K mg base N qual scope f cdv A outer s H E) [] (start N vs) H s1:=a9b S hr.hd e0 hl r x;refine zJ (ht [] s1 (start N vs) H _ I hq) (fun fl s' hs=>?_) fun e s' hs=>hs;have fin:∀{σ':St} {H':Hp} {v:V} {u:Value},Inv (cxOf CX P w K mg base N qual scope f cdv A outer s H E) [] σ' H' s'->RelV v u->Q v H'->CE outer P w H s Q u s':=
  fun{σ' H' v u} J rv q=>⟨v,H',J.os,J.bare,J.base,J.hok,rv,q⟩
 cases fl with
 | ret u=>
  obtain⟨v,σ',H',J,rv,q⟩:=hs;exact fin J rv q
 | next=>
  obtain⟨σ',H',J,q⟩:=hs;exact fin (v:=V.non) (u:=Value.none) J rfl q
 | brk=>
  obtain⟨_,_,_,q⟩:=hs;exact False.elim q
 | cont=>
  obtain⟨_,_,_,q⟩:=hs;exact False.elim q
section
variable {X:Cx}{x:Str}{p pos:Pos}{e:Expr}{es:List Expr}{t:TA}{id T:String}{r:List V->Hp->VK->Prop}
def tCB (r:List V->Hp->VK->Prop) (t:TA):TE:=fun σ H Q=>t σ H fun vs H1=>r vs H1 Q
theorem a1h (hc:CallR X (.builtin id) r)(hg:Gl X x)(hm:X.mg x=none)(hv:bootBuiltins x=some (.builtin id))(ha:PA X (e::es) t)(hn:x≠"__name__":=by decide)(hdb:(x==("__debug__":Str))=false:=by decide)
  (he:starEach (e::es) X.env=(false,eval e X.env)::starEach es X.env:=by rfl) (hpl:(backTo pos (starEach es X.env)).any (·.1)=false:=by rfl):PE X (.Call (.Name x p) (e::es) [] pos) (tCB r t):=by
 intro pins s σ H Q I h;refine jK (a2F I hg hm hv ?_ hn hdb);exact PyProof.Rows.callWith_builtin1 (thn (ha pos pins s σ H _ I h) fun us s1 h0=>ex5 h0 fun vs H1 I1 r1 q1=>hc pins s1 σ H1 vs us Q I1 r1 q1) he hpl
theorem a8Y (hc:CallR X (.type T) r)(hg:Gl X x)(hm:X.mg x=none)(hv:bootBuiltins x=some (.type T))(ha:PA X (e::es) t)(hn:x≠"__name__":=by decide)(hdb:(x==("__debug__":Str))=false:=by decide)
  (he:starEach (e::es) X.env=(false,eval e X.env)::starEach es X.env:=by rfl) (hpl:(backTo pos (starEach es X.env)).any (·.1)=false:=by rfl):PE X (.Call (.Name x p) (e::es) [] pos) (tCB r t):=by
 intro pins s σ H Q I h;refine jK (a2F I hg hm hv ?_ hn hdb);exact jU (thn (ha pos pins s σ H _ I h) fun us s1 h0=>ex5 h0 fun vs H1 I1 r1 q1=>hc pins s1 σ H1 vs us Q I1 r1 q1) he hpl
end
end L2
namespace HT
open PySem PyProof.Rows
def lexLt:List Int->List Int->Bool
 | [],[]=>false
 | [],_::_=>true
 | _::_,[]=>false
 | x::xs,y::ys=>if x=y then lexLt xs ys else decide (x<y)
theorem lexLt_cons (x y:Int)(xs ys:List Int):lexLt (x::xs) (y::ys)=if x=y then lexLt xs ys else decide (x<y):=rfl
theorem lexLt_nil_nil:lexLt [] []=false:=rfl
theorem a36 (y:Int)(ys:List Int):lexLt [] (y::ys)=true:=rfl
theorem a4n (x:Int)(xs:List Int):lexLt (x::xs) []=false:=rfl
theorem a63 (A:Around)(s:Shared)(a:Int)(t:Tok)(c:Int)(u:Tok):∃e,SeqAt.EqAt A s (.int a t) (.int c u) e/\(e=true↔a=c):=
 ⟨(a==c),SeqAt.EqAt.int_int a t c u,by simp⟩
theorem b0n (A:Around)(s:Shared)(a:Int)(t:Tok)(c:Int)(u:Tok)(prog:Program)(w:World)(E:Value->Shared->Prop)(Q:Value->Shared->Prop)(h:Q (.bool (decide (a<c))) s):
  wpAny (model prog w) A (richCompare .Lt (.int a t) (.int c u)) Q E s:=
 (PyProof.Rows.lt_int h:wpAny (model prog w) A (compareOp .Lt (.int a t) (.int c u)) Q E s)
section
open PySem.SeqAt
open PySem.MeetsSeq PySem.MeetsSeq2 PySem.MeetsSeq3
theorem a4H (l b:Addr)(items items2:Array Value)(n n2:Nat)(dd dd2:Option Addr)(sl sl2:Array (Option Value))(ns ms:List Int)(hi:IntsAre items.toList ns)(hj:IntsAre items2.toList ms):
  Meets (Builtin.«tuple.__lt__» ⟨[.ref l,.ref b],[]⟩)
   (fun _ R s=>s.heap.get? l=some {cls:=.type "tuple",dict:=dd,data:=.seq items n,slots:=sl}/\s.heap.get? b=some {cls:=.type "tuple",dict:=dd2,data:=.seq items2 n2,slots:=sl2}/\
    R (.ok (.ret (.bool (lexLt ns ms)))) s):=
 .of_wp fun prog w A R s h=>by
  obtain⟨hp,g,d,tk,os⟩:=s;obtain⟨hl,hb,h⟩:=h;have f2:=AutoSeq1.sub_tuple_tuple;have z1:items.size=ns.length:=by rw[<-hi.length];simp
  have z2:items2.size=ms.length:=by rw[<-hj.length];simp
  wp_walk using xV hl,xV hb,wpAny_forIn_list _ (fun rest b s'=>b.1=none/\s'=⟨hp,g,d,tk,os⟩/\∃(vs ws:List Value) (ns' ms':List Int),rest=vs.zip ws/\
   IntsAre vs ns'/\IntsAre ws ms'/\ns'.length+items2.size=ms'.length+items.size/\R (.ok (.ret (.bool (lexLt ns' ms')))) ⟨hp,g,d,tk,os⟩) _
  case turn=>
   rintro⟨y,x⟩ rest b s' ⟨hb',rfl,vs,ws,ns',ms',hz,hvi,hwi,hlen,hR⟩;cases hvi with
   | nil=>rw[List.zip_nil_left] at hz;cases hz
   | cons a t hvi'=>
    cases hwi with
    | nil=>rw[List.zip_nil_right] at hz;cases hz
    | cons c u hwi'=>
     rw[zip_cons_cons] at hz;injection hz with hyx hrest
     injection hyx with hy hx
     subst hy hx;rw[lexLt_cons] at hR;simp only[zU] at hlen;obtain⟨e,he,hiff⟩:=a63 A.in1 ⟨hp,g,d,tk,os⟩ a t c u;refine zA (he prog w _ _ ?_);cases e with
     | true=>
      rw[if_pos (hiff.mp rfl)] at hR
      wp_walk
      exact⟨rfl,rfl,_,_,_,_,hrest,hvi',hwi',by walk_at "o",hR⟩
     | false=>
      rw[if_neg (fun q=>absurd (hiff.mpr q) zW)] at hR;have hri:=b0n A.in1 ⟨hp,g,d,tk,os⟩ a t c u prog w
      wp_walk using hri
      exact⟨_,rfl,by simpa using hR⟩
  case fin=>
   rintro⟨b1,b2⟩ s' ⟨hb',rfl,vs,ws,ns',ms',hz,hvi,hwi,hlen,hR⟩;simp only at hb';subst hb';have hv:lexLt ns' ms'=decide (items.size<items2.size):=by
    cases hvi with
    | nil=>
     cases hwi with
     | nil=>
      simp only[xW] at hlen;rw[lexLt_nil_nil];exact(zB (by walk_at "o")).symm
     | cons c u hw=>
      simp only[xW,zU] at hlen;rw[a36];exact(zC (by walk_at "o")).symm
    | cons a t hv=>
     cases hwi with
     | nil=>
      simp only[xW,zU] at hlen;rw[a4n];exact(zB (by walk_at "o")).symm
     | cons c u hw=>
      rw[zip_cons_cons] at hz;cases hz
   rw[hv] at hR
   wp_walk
   exact⟨_,rfl,by simpa [Builtin.Tuple.tupleCompareSizes] using hR⟩
  case h=>
   exact⟨rfl,rfl,items.toList,items2.toList,ns,ms,rfl,hi,hj,by walk_at "o",h⟩
end
section
variable {prog:Program}{w:World}{A:Around}{E:Value->Shared->Prop}{s:Shared}
theorem lt_tupInts {l b:Addr}{items items2:Array Value}{ns ms:List Int}{Q:Value->Shared->Prop}(hl:IsTup s.heap l items)(hb:IsTup s.heap b items2)(hi:IntsAre items.toList ns)(hj:IntsAre items2.toList ms)
  (hu:A.units<cLine) (h:Q (.bool (lexLt ns ms)) s):wpAny (model prog w) A (compareOp .Lt (.ref l) (.ref b)) Q E s:=by
 obtain⟨⟨cls,dd,data,sl⟩,ho,hc,n,hd⟩:=id hl;obtain⟨⟨cls2,dd2,data2,sl2⟩,ho2,hc2,n2,hd2⟩:=id hb;simp only at hc hd hc2 hd2;subst hc hd hc2 hd2;exact richCompare_meets_room (op:=.Lt) ⟨_,ho,rfl⟩ ⟨_,ho2,rfl⟩ PySem.F.slot_tuple_lt PySem.F.entry_tuple_lt (PySem.F.args_tuple_lt_2 _ _) (a4H l b items items2 n n2 dd dd2 sl sl2 ns ms hi hj)
  ⟨ho,ho2,show Value.bool (lexLt ns ms)≠Value.notImplemented/\Q (.bool (lexLt ns ms)) s from⟨(fun x=>nomatch x),h⟩⟩ hu
theorem cat_tup {t b:Addr}{vs ws:List Value}{Q:Value->Shared->Prop}(ht:IsTup s.heap t vs.toArray)(hb:IsTup s.heap b ws.toArray)(hv:vs≠[])
  (h1:ws=[]->Q (.ref t) s) (h2:ws≠[]->Q (.ref s.heap.objs.size) {s with heap:=s.heap.push {cls:=.type "tuple",data:=.seq (vs++ws).toArray}})
  (hsz:vs.length+ws.length<=sizeLine):wpAny (model prog w) A (binaryOp .Add (.ref t) (.ref b)) Q E s:=by
 obtain⟨⟨cls,dd,data,sl⟩,ho,hc,n,hd⟩:=id ht;obtain⟨⟨cls2,dd2,data2,sl2⟩,ho2,hc2,n2,hd2⟩:=id hb;simp only at hc hd hc2 hd2;subst hc hd hc2 hd2;have e:vs.toArray++ws.toArray=(vs++ws).toArray:=by simp
 by_cases hw:ws=[]
 ·exact concat_meets ⟨_,ho,rfl⟩ ⟨_,ho2,rfl⟩ noFill_tuple_add seq_tuple_add PySem.F.slot_tuple_add PySem.F.entry_tuple_add (PySem.F.args_tuple_add_2 _ _)
   (tuple_addW1 t b vs.toArray ws.toArray n n2 dd dd2 sl sl2 (by simpa using hv) (by simp[hw])) ⟨ho,ho2,h1 hw⟩
 ·refine concat_meets ⟨_,ho,rfl⟩ ⟨_,ho2,rfl⟩ noFill_tuple_add seq_tuple_add PySem.F.slot_tuple_add PySem.F.entry_tuple_add (PySem.F.args_tuple_add_2 _ _)
   (tuple_addW2 t b vs.toArray ws.toArray n n2 dd dd2 sl sl2 (by simpa using hv) (by simpa using hw) (by rw[zX,zX];exact hsz)) ⟨ho,ho2,?_⟩
  rw[e];exact h2 hw
def sIx (n d:Nat):Option Int->Nat
 | none=>d
 | some v=>if v<0 then(v+(n:Int)).toNat else min v.toNat n
theorem sIx_none (n d:Nat):sIx n d none=d:=rfl
theorem sIx_nat (n d k:Nat):sIx n d (some (k:Int))=min k n:=by
 show(if(k:Int)<0 then((k:Int)+(n:Int)).toNat else min (k:Int).toNat n)=min k n;rw[if_neg (by walk_at "o"),Int.toNat_natCast]
theorem b29 (n d:Nat)(hd:d<=n)(o:Option Int):sIx n d o<=n:=by
 cases o with
 | none=>exact hd
 | some v=>
  show(if v<0 then(v+(n:Int)).toNat else min v.toNat n)<=n
  by_cases hv:v<0
  ·rw[if_pos hv];walk_at "o"
  ·rw[if_neg hv];exact Nat.min_le_right _ _
theorem a7X (v:Int)(n d:Nat):(if v<0 then max (v+(n:Int)) 0 else min v (n:Int))=((sIx n d (some v):Nat):Int):=by
 show(if v<0 then max (v+(n:Int)) 0 else min v (n:Int))=(((if v<0 then(v+(n:Int)).toNat else min v.toNat n):Nat):Int)
 by_cases hv:v<0
 ·simp only[if_pos hv];walk_at "o"
 ·simp only[if_neg hv];walk_at "o"
theorem a7B (lo hi:Option Int)(n:Nat):Builtin.Slice.sliceAdjust lo hi 1 (n:Int)=(((sIx n 0 lo:Nat):Int),((sIx n n hi:Nat):Int)):=by
 have h1:¬((1:Int)<0):=by walk_at "o"
 unfold Builtin.Slice.sliceAdjust;simp only[h1,if_false];refine Prod.ext ?_ ?_
 ·cases lo with
  | none=>rfl
  | some v=>exact a7X v n 0
 ·cases hi with
  | none=>rfl
  | some v=>exact a7X v n n
theorem a68 (i j:Nat):Builtin.Slice.slicePlaces (i:Int) (j:Int) 1=j-i:=by
 unfold Builtin.Slice.slicePlaces;have h1:(1:Int)>0:=by walk_at "o"
 simp only[h1,qT,Int.ediv_one]
 split<;>walk_at "o"
theorem a3P {v:Value}{o:Option Int}{Q:Option Int->Shared->Prop}(p:IsPart v o)(h:Q o s):wpAny (model prog w) A (Builtin.Slice.slicePartIndex v) Q E s:=by
 cases p with
 | none=>exact slicePart_none h
 | int i t=>exact slicePart_int h
theorem sliceApplied_gen {sl:Addr}{vl vu:Value}{lo hi:Option Int}{n:Nat}{Q:Int×Int×Nat->Shared->Prop}(hs:s.heap.IsSliceOf sl vl vu .none)(pl:IsPart vl lo)(pu:IsPart vu hi)
  (h:Q (((sIx n 0 lo:Nat):Int),1,sIx n n hi-sIx n 0 lo) s):wpAny (model prog w) A (Builtin.Slice.sliceApplied (.ref sl) (pure (n:Int))) Q E s:=by
 obtain⟨os,hos,hcs,hds⟩:=id hs;unfold Builtin.Slice.sliceApplied Builtin.Slice.sliceFields;refine zA (zA (qO hos hds (x:=vl) rfl (zA (qO hos hds (x:=vu) rfl (zA (qO hos hds (x:=.none) rfl (zK ?_)))))));refine zA (slicePart_none ?_);show wpAny _ _ (if((1:Int)==0)=true then _ else _) _ _ s;rw[if_neg (by decide)]
 refine zA (a3P pl (zA (a3P pu (zA (zK ?_)))));show wpAny _ _ (match Builtin.Slice.sliceAdjust lo hi 1 (n:Int) with|(lo,hi)=>pure (lo,(1:Int),Builtin.Slice.slicePlaces lo hi 1)) _ _ s
 rw[a7B lo hi n];show wpAny _ _ (pure (((sIx n 0 lo:Nat):Int),(1:Int),Builtin.Slice.slicePlaces ((sIx n 0 lo:Nat):Int) ((sIx n n hi:Nat):Int) 1)) _ _ s;rw[a68];exact zK h
theorem b0t (xs:Array Value)(i k:Nat):((List.range k).filterMap fun(m:Nat)=>xs[((i:Int)+(m:Int)*1).toNat]?).toArray=((xs.toList.drop i).take k).toArray:=by
 have e:(fun(m:Nat)=>xs[((i:Int)+(m:Int)*1).toNat]?)=fun m=>xs[i+m]?:=by
  funext m
  have:((i:Int)+(m:Int)*1).toNat=i+m:=by walk_at "o"
  rw[this]
 rw[e]
 have:=pick_run xs i k
 rw[List.filterMap_map] at this;have e2:((fun x=>xs[x]?)∘fun x=>i+x)=fun m=>xs[i+m]?:=rfl;rw[e2] at this;rw[this]
theorem getItem_tuple_cut {t sl:Addr}{items:Array Value}{vl vu:Value}{lo hi:Option Int}{Q:Value->Shared->Prop}(ht:IsTup s.heap t items)(hs:s.heap.IsSliceOf sl vl vu .none)(pl:IsPart vl lo)(pu:IsPart vu hi)
  (hw:¬(sIx items.size 0 lo=0/\sIx items.size items.size hi=items.size))
  (h:Q (.ref s.heap.objs.size) {s with heap:=s.heap.push {cls:=.type "tuple",data:=.seq ((items.toList.drop (sIx items.size 0 lo)).take (sIx items.size items.size hi-sIx items.size 0 lo)).toArray}})
  (hsz:items.size<=sizeLine):wpAny (model prog w) A (getItem (.ref t) (.ref sl)) Q E s:=by
 have htake:sizeOk (.seq ((items.toList.drop (sIx items.size 0 lo)).take (sIx items.size items.size hi-sIx items.size 0 lo)).toArray):=by
  show((items.toList.drop (sIx items.size 0 lo)).take (sIx items.size items.size hi-sIx items.size 0 lo)).toArray.size<=sizeLine;rw[zX,length_take,qW,jB];omega
 have hj:sIx items.size items.size hi<=items.size:=b29 _ _ (zI _) hi;obtain⟨os,hos,hcs,hds⟩:=id hs;have hTs:s.TypeIs (.ref sl) "slice":=⟨os,hos,hcs⟩;unfold getItem
 try with_reducible refine jP ?_
 first|refine zA (zK ?_)|skip
 refine zA (wpAny_sequenceKey ht.typeIs (by decide) ?_)
 refine zA (jE (name:=Str.ofString "__getitem__") ht.typeIs qQ
  (xQ qQ ht.typeIs entry_tuple_getitem ?_ (args_tuple_getitem _ _)))
 show wpAny _ _ (Builtin.Tuple.tupleItemsOf (.ref t) >>=_) _ _ s;refine zA (tupleItemsOf_ ht ?_);refine zA (wpAny_typeOf hTs ?_);rw[if_pos (by decide)]
 refine zA (sliceApplied_gen hs pl pu ?_);have hno:¬((((sIx items.size 0 lo:Nat):Int)==0&&(1:Int)==1&&(sIx items.size items.size hi-sIx items.size 0 lo)==items.size)=true):=by
  intro q;rw[qF,qF] at q;have q1:((sIx items.size 0 lo:Nat):Int)=0:=eq_of_beq q.1.1;have q2:sIx items.size items.size hi-sIx items.size 0 lo=items.size:=eq_of_beq q.2;exact hw ⟨by omega,by omega⟩
 show wpAny _ _ (if(((sIx items.size 0 lo:Nat):Int)==0&&(1:Int)==1&&(sIx items.size items.size hi-sIx items.size 0 lo)==items.size)=true then _ else _) _ _ s;rw[if_neg hno,b0t]
 first
  | exact zA (m:=Builtin.Tuple.tupleExact _) (qZ (zK ⟨_,rfl,zK h⟩) htake)
  | exact zA (m:=Builtin.Tuple.tupleExact _) (qZ (zA (zK (zK ⟨_,rfl,zK h⟩))) htake)
  | exact zA (zA (m:=Builtin.Tuple.tupleExact _) (qZ (zK (zK ⟨_,rfl,zK h⟩)) htake))
  | exact zA (zA (m:=Builtin.Tuple.tupleExact _) (qZ (zK ⟨_,rfl,zK h⟩) htake))
end
end HT
namespace L2
open PySem PySem.Spec PyProof.Rows
abbrev TO:=St->Hp->(Option Int->Hp->Prop)->Prop
def PO (X:Cx) (e:Option Expr) (t:TO):Prop:=
 ∀(pins:List (Addr×Obj)) (s:Shared) (σ:St) (H:Hp) (Q:Option Int->Hp->Prop),Inv X pins σ H s->t σ H Q->
  wpAny (model X.prog X.w) X.A (evalPart e X.env) (fun u s'=>∃o H',Inv X pins σ H' s'/\IsPart u o/\Q o H') X.xe s
def tNoPart:TO:=fun _ H Q=>Q none H
def tPart (t:TE):TO:=fun σ H Q=>t σ H fun x H1=>∃i,x= .int i/\Q (some i) H1
theorem a0o {ns:List Int}:∀{us:List Value},Vals (ns.map V.int) us->IntsAre us ns:=by
 induction ns with
 | nil=>intro us r;rw[jZ] at r;cases r;exact .nil
 | cons n ns ih=>
  intro us r;rw[zR] at r;cases r with
  | cons r1 r2=>
   obtain⟨t,e⟩:=r1;subst e;exact .cons n t (ih r2)
section
variable {X:Cx}{e:Expr}{te:TE}{lo hi:Option Expr}{tl th:TO}{pos p2:Pos}
theorem b1t:PO X none tNoPart:=by
 intro pins s σ H Q I h;rw[evalPart_none];exact zK ⟨none,H,I,.none,h⟩
theorem b2o (h:PE X e te):PO X (some e) (tPart te):=by
 intro pins s σ H Q I hw;rw[evalPart_some];refine thn (h pins s σ H _ I hw) fun u s1 h0=>ex5 h0 fun x H1 I1 r1 q1=>?_;obtain⟨i,rfl,q⟩:=q1;obtain⟨t,rfl⟩:=r1;exact⟨some i,H1,I1,.int i t,q⟩
def SlR (X:Cx) (r:V->Option Int->Option Int->Hp->VK->Prop):Prop:=
 ∀(pins:List (Addr×Obj)) (s:Shared) (σ:St) (H:Hp) (x:V) (v vl vu:Value) (lo hi:Option Int) (sl:Addr) (Q:VK),Inv X pins σ H s->RelV x v->s.heap.IsSliceOf sl vl vu .none->IsPart vl lo->IsPart vu hi->r x lo hi H Q->
  ∃T id,typeLookup (.type T) "__getitem__"=pure (some (.builtin id))/\s.TypeIs v T/\wpAny (model X.prog X.w) X.A (getItem v (.ref sl)) (EP X pins σ Q) X.xe s
theorem SlR.or {r r':V->Option Int->Option Int->Hp->VK->Prop}(h:SlR X r)(h':SlR X r'):SlR X (fun x lo hi H Q=>r x lo hi H Q\/r' x lo hi H Q):=by
 intro pins s σ H x v vl vu lo hi sl Q I rx hs pl pu q;rcases q with q|q
 ·exact h pins s σ H x v vl vu lo hi sl Q I rx hs pl pu q
 ·exact h' pins s σ H x v vl vu lo hi sl Q I rx hs pl pu q
def tSl (r:V->Option Int->Option Int->Hp->VK->Prop) (te:TE) (tl th:TO):TE:=fun σ H Q=>te σ H fun x H1=>tl σ H1 fun l H2=>th σ H2 fun u H3=>r x l u H3 Q
theorem a6U {r:V->Option Int->Option Int->Hp->VK->Prop}(hr:SlR X r)(he:PE X e te)(hl:PO X lo tl)(hu:PO X hi th):PE X (.Subscript e (.Slice lo hi none p2) pos) (tSl r te tl th):=by
 intro pins s σ H Q I h;refine Subscript_ (thn (he pins s σ H _ I h) fun v s1 h0=>ex5 h0 fun x H1 I1 r1 q1=>?_);refine wpAny_Slice (thn (hl pins s1 σ H1 _ I1 q1) fun vl s2 ⟨l,H2,I2,pl,q2⟩=>thn (hu pins s2 σ H2 _ I2 q2) fun vu s3 ⟨u,H3,I3,pu,q3⟩=>?_);rw[evalPart_none];refine zK ?_;have I4:Inv X pins σ H3 {s3 with heap:=s3.heap.push {cls:=.type "slice",data:=.fields #[vl,vu,.none]}}:=I3.kept (t':=s3.toks) fun b ob q=>zN _ q
 obtain⟨T,id,hT,ht,hg⟩:=hr pins {s3 with heap:=s3.heap.push {cls:=.type "slice",data:=.fields #[vl,vu,.none]}} σ H3 x v vl vu l u s3.heap.objs.size Q I4 r1 (Heap.IsSliceOf.new ..) pl pu q3
 show wpAny (model X.prog X.w) X.A (subscriptTail e (.Slice lo hi none p2) v (.ref s3.heap.objs.size)) (EP X pins σ Q) X.xe {s3 with heap:=s3.heap.push {cls:=.type "slice",data:=.fields #[vl,vu,.none]}}
 exact tail_any (ops:=[.ref s3.heap.objs.size,v]) ht hT hg (by with_unfolding_all rfl)
def cutV (xs:List V) (lo hi:Option Int):List V:=(xs.drop (HT.sIx xs.length 0 lo)).take (HT.sIx xs.length xs.length hi-HT.sIx xs.length 0 lo)
theorem a3r (xs:List V)(lo hi:Option Int):(cutV xs lo hi).length<=xs.length:=by
 unfold cutV;rw[length_take,qW];walk_at "o"
def rSlT (K:PySem.W.Frag):V->Option Int->Option Int->Hp->VK->Prop:=fun x lo hi H Q=>∃a xs,x= .ref a/\SqT K H a xs/\
 ¬(HT.sIx xs.length 0 lo=0/\HT.sIx xs.length xs.length hi=xs.length)/\∀p,H p=none->Q (.ref p) (upd H p (.tup (cutV xs lo hi)))
theorem b3D:SlR X (rSlT X.K):=by
 intro pins s σ H x v vl vu lo hi sl Q I rx hs pl pu h;obtain⟨a,xs,rfl,hx,hw,q⟩:=h;cases rx;obtain⟨its,r,ht,hz⟩:=I.tuple hx;have hlen:its.toArray.size=xs.length:=by rw[zX];exact r.length.symm
 refine⟨"tuple",_,PyProof.Rows.slot_tuple_getitem.lookup,ht.typeIs,?_⟩;refine HT.getItem_tuple_cut ht hs pl pu (by rw[hlen];exact hw) ?_ (by rw[hlen];exact hz)
 rw[hlen];refine⟨.ref s.heap.objs.size,_,I.laid (t':=s.toks) (o:=.tup (cutV xs lo hi)) (fun b ob q=>zN _ q) (zI _) ?_,rfl,q _ (I.hok.fresh (zI _))⟩;exact⟨zO (a3r xs lo hi) hz,_,(r.drop (HT.sIx xs.length 0 lo)).take (HT.sIx xs.length xs.length hi-HT.sIx xs.length 0 lo),TupN.new _ _⟩
def rLtT (K:PySem.W.Frag):R2:=fun x y H Q=>∃a b ns ms,x= .ref a/\y= .ref b/\SqT K H a (ns.map V.int)/\SqT K H b (ms.map V.int)/\Q (.bl (HT.lexLt ns ms)) H
theorem b0m (hu:X.A.units<cLine):OpR X (compareOp .Lt) (rLtT X.K):=by
 intro pins s σ H x y v u Q I rx ry h;obtain⟨a,b,ns,ms,rfl,rfl,ha,hb,q⟩:=h;cases rx;cases ry;obtain⟨its,r1,p1,_⟩:=I.tuple ha;obtain⟨its2,r2,p2,_⟩:=I.tuple hb;have i1:IntsAre its.toArray.toList ns:=a0o r1;have i2:IntsAre its2.toArray.toList ms:=a0o r2;exact HT.lt_tupInts p1 p2 i1 i2 hu ⟨.bl (HT.lexLt ns ms),H,I,rfl,q⟩
def rCatT (K:PySem.W.Frag):R2:=fun x y H Q=>∃a b xs ys,x= .ref a/\y= .ref b/\SqT K H a xs/\SqT K H b ys/\xs≠[]/\xs.length+ys.length<=sizeLine/\
 (ys=[]->Q (.ref a) H)/\(ys≠[]->∀p,H p=none->Q (.ref p) (upd H p (.tup (xs++ys))))
theorem Vals.nil_iff {xs:List V}{us:List Value}(r:Vals xs us):us=[]↔xs=[]:=by
 cases r with
 | nil=>simp
 | cons _ _=>simp
theorem b17:OpR X (binaryOp .Add) (rCatT X.K):=by
 intro pins s σ H x y v u Q I rx ry h;obtain⟨a,b,xs,ys,rfl,rfl,ha,hb,hx,hz,q1,q2⟩:=h;cases rx;cases ry;obtain⟨its,r1,p1,_⟩:=I.tuple ha;obtain⟨its2,r2,p2,_⟩:=I.tuple hb;refine HT.cat_tup p1 p2 (fun z=>hx (r1.nil_iff.mp z)) (fun z=>⟨.ref a,H,I,rfl,q1 (r2.nil_iff.mp z)⟩) (fun z=>?_) (by rw[<-r1.length,<-r2.length];exact hz)
 refine⟨.ref s.heap.objs.size,_,I.laid (t':=s.toks) (o:=.tup (xs++ys)) (fun b ob q=>zN _ q) (zI _) ?_,rfl,q2 (fun w=>z (r2.nil_iff.mpr w)) _ (I.hok.fresh (zI _))⟩;exact⟨by rw[zP];exact hz,_,r1.append r2,TupN.new _ _⟩
end
def ixN (n:Nat) (i:Int):Option Nat:=if 0<=i then(if i<n then some i.toNat else none) else if -(n:Int)<=i then some (i+n).toNat else none
def atI {α:Type} (xs:List α) (i:Int):Option α:=(ixN xs.length i).bind fun j=>xs[j]?
theorem a70 {n:Nat}{i:Int}{j:Nat}(h:ixN n i=some j):seqIndex? i n=some j/\j<n/\-(n:Int)<=i/\i<n:=by
 unfold ixN at h
 by_cases h0:0<=i
 ·rw[if_pos h0] at h
  by_cases h1:i<n
  ·rw[if_pos h1] at h;have e:i.toNat=j:=jC h;exact⟨by rw[seqIndex_of h0 h1,e],by walk_at "o",by walk_at "o",h1⟩
  ·rw[if_neg h1] at h;cases h
 ·rw[if_neg h0] at h
  by_cases h1:-(n:Int)<=i
  ·rw[if_pos h1] at h;have e:(i+n).toNat=j:=jC h;exact⟨by rw[seqIndex_neg (by walk_at "o") h1,e],by walk_at "o",h1,by walk_at "o"⟩
  ·rw[if_neg h1] at h;cases h
theorem a5Q {α:Type}{xs:List α}{i:Int}{v:α}(h:atI xs i=some v):∃j,seqIndex? i xs.length=some j/\xs[j]? =some v/\j<xs.length/\-(xs.length:Int)<=i/\i<xs.length:=by
 unfold atI at h;cases e:ixN xs.length i with
 | none=>rw[e] at h;cases h
 | some j=>
  rw[e] at h;obtain⟨h1,h2,h3,h4⟩:=a70 e;exact⟨j,h1,h,h2,h3,h4⟩
theorem D9 {α:Type}{xs:List α}{j:Nat}{v:α}(h:xs[j]? =some v):atI xs (j:Int)=some v:=by
 have hj:j<xs.length:=(zM.mp h).1;have e:ixN xs.length (j:Int)=some j:=by
  unfold ixN;rw[if_pos (by walk_at "o"),if_pos (by walk_at "o")];simp
 unfold atI;rw[e];exact h
def PlainIx (b:Expr):Prop:=∀o i,subscripted b false o i=operate [o,i] (getItem o i)
def IxR (X:Cx) (r:R2):Prop:=
 ∀(value slice:Expr) (pins:List (Addr×Obj)) (s:Shared) (σ:St) (H:Hp) (x y:V) (v u:Value) (Q:VK),Inv X pins σ H s->RelV x v->RelV y u->r x y H Q->
  subscripted slice false v u=operate [v,u] (getItem v u)->wpAny (model X.prog X.w) X.A (subscriptTail value slice v u) (EP X pins σ Q) X.xe s
def MtR (X:Cx) (id:String) (r:V->List V->Hp->VK->Prop):Prop:=
 ∀(pins:List (Addr×Obj)) (s:Shared) (σ:St) (H:Hp) (x:V) (xs:List V) (v:Value) (us:List Value) (Q:VK),Inv X pins σ H s->RelV x v->Vals xs us->r x xs H Q->
  wpAny (model X.prog X.w) X.A (call (.builtin id) (v::us)) (EP X pins σ Q) X.xe s
section
variable {X:Cx}{a b:Expr}{ta tb:TE}{pos:Pos}
theorem IxR.or {r r':R2}(h:IxR X r)(h':IxR X r'):IxR X (fun x y H Q=>r x y H Q\/r' x y H Q):=by
 intro value slice pins s σ H x y v u Q I rx ry q hs;rcases q with q|q
 ·exact h value slice pins s σ H x y v u Q I rx ry q hs
 ·exact h' value slice pins s σ H x y v u Q I rx ry q hs
theorem pe_ix {r:R2}(hr:IxR X r)(ha:PE X a ta)(hb:PE X b tb)(hs:PlainIx b):PE X (.Subscript a b pos) (tOp r ta tb):=by
 intro pins s σ H Q I h;exact Subscript_ (binT ha hb I h fun v u s2 x y H2 I2 rx ry q=>hr a b pins s2 σ H2 x y v u Q I2 rx ry q (hs _ _))
def rIxL (K:PySem.W.Frag):R2:=fun x y H Q=>∃p xs i v,x= .ref p/\y= .int i/\SqL K H p xs/\atI xs i=some v/\Q v H
def rIxT (K:PySem.W.Frag):R2:=fun x y H Q=>∃p xs i v,x= .ref p/\y= .int i/\SqT K H p xs/\atI xs i=some v/\Q v H
def rIxS:R2:=fun x y H Q=>∃z i c,x= .str z/\y= .int i/\z.length<=sizeLine/\atI z.cps.toList i=some c/\Q (.str ⟨#[c]⟩) H
theorem b2h:IxR X (rIxL X.K):=by
 intro value slice pins s σ H x y v u Q I rx ry h hs;obtain⟨p,xs,i,z,rfl,rfl,hq,he,q⟩:=h;cases rx;obtain⟨t,rfl⟩:=ry;obtain⟨its,r,pl,hz⟩:=I.list hq;obtain⟨j,h1,h2,h3,h4,h5⟩:=a5Q he;obtain⟨w,ew,rw'⟩:=r.get h2;have hl:=r.length;have hn:=line63;have fin:EP X pins σ Q w s:=⟨z,H,I,rw',q⟩
 by_cases h0:0<=i
 ·have hj:i.toNat=j:=by
   rw[seqIndex_of h0 h5] at h1;exact jC h1
  exact item_listR pl.isList h0 (by walk_at "o") (by rw[hj];simpa using ew) fin hs
 ·have hj:(i+(its.toArray.size:Int)).toNat=j:=by
   rw[seqIndex_neg (by walk_at "o") h4] at h1
   rw[zX,<-hl];exact jC h1
  exact subscriptTail_builtinR (x:=w) pl.isList.typeIs slot_list_getitem.lookup
   (wpAny_getItem_list_neg (Q:=fun r s'=>r=w/\EP X pins σ Q r s') pl.isList (by walk_at "o") (by rw[zX]<;>walk_at "o") (by walk_at "o") (by rw[hj];simpa using ew) ⟨rfl,fin⟩) hs
theorem b3p:IxR X (rIxT X.K):=by
 intro value slice pins s σ H x y v u Q I rx ry h hs;obtain⟨p,xs,i,z,rfl,rfl,hq,he,q⟩:=h;cases rx;obtain⟨t,rfl⟩:=ry;obtain⟨its,r,pl,hz⟩:=I.tuple hq;obtain⟨j,h1,h2,h3,h4,h5⟩:=a5Q he;obtain⟨w,ew,rw'⟩:=r.get h2;have hl:=r.length;have hn:=line63;have fin:EP X pins σ Q w s:=⟨z,H,I,rw',q⟩;exact subscriptTail_builtinR (x:=w) pl.typeIs slot_tuple_getitem.lookup
  (getItem_tuple (j:=j) (Q:=fun r s'=>r=w/\EP X pins σ Q r s') pl (by walk_at "o") (by walk_at "o") (by rw[zX,<-hl];exact h1) (by simpa using ew) ⟨rfl,fin⟩) hs
theorem b2V:IxR X rIxS:=by
 intro value slice pins s σ H x y v u Q I rx ry h hs;obtain⟨z,i,c,rfl,rfl,hz,he,q⟩:=h;obtain⟨t,rfl⟩:=rx;obtain⟨t',rfl⟩:=ry;obtain⟨j,h1,h2,h3,h4,h5⟩:=a5Q he;have hl:z.cps.toList.length=z.length:=by simp[Str.length]
 rw[hl] at h1 h4 h5;have hn:=line63
 exact tail_any (xX s z t) slot_str_getitem.lookup (getItem_str (c:=c) (by
  have e1:decide (i < -(2^63:Int))=false:=zB (by walk_at "o")
  have e2:decide (i≥2^63)=false:=zB (by walk_at "o")
  rw[e1,e2,Bool.or_false]) (by rw[h1];simpa using h2) ⟨.str ⟨#[c]⟩,H,I.tok _,⟨_,rfl⟩,q⟩) hs
def rIx (K:PySem.W.Frag):R2:=fun x y H Q=>rIxL K x y H Q\/rIxT K x y H Q\/rIxS x y H Q
theorem b28:IxR X (rIx X.K):=b2h.or (b3p.or b2V)
theorem a7e (its:List Value)(n j:Nat)(u:Value):Obj.mapSeq (·.setIfInBounds j u) {cls:=.type "list",data:=.seq its.toArray n}={cls:=.type "list",data:=.seq (its.set j u).toArray n}:=by
 simp[Obj.mapSeq]
theorem Inv.lst {pins:List (Addr×Obj)}{σ:St}{H:Hp}{s:Shared}{p:Addr}{xs:List V}(I:Inv X pins σ H s)(h:H p=some (.lst xs)):
  ∃(its:List Value) (n:Nat),Vals xs its/\s.heap.get? p=some {cls:=.type "list",data:=.seq its.toArray n}/\xs.length<=sizeLine:=by
 obtain⟨z,its,n,r,e⟩:=I.hok p _ h;exact⟨its,n,r,e,z⟩
theorem Inv.lstUpd {pins:List (Addr×Obj)}{σ:St}{H:Hp}{s:Shared}{p:Addr}{xs ys:List V}{its its':List Value}{n n':Nat}{f:Obj->Obj}(I:Inv X pins σ H s)(h:H p=some (.lst xs))
  (ho:s.heap.get? p=some {cls:=.type "list",data:=.seq its.toArray n}) (hf:f {cls:=.type "list",data:=.seq its.toArray n}={cls:=.type "list",data:=.seq its'.toArray n'}) (r:Vals ys its') (hz:ys.length<=sizeLine) (t:Nat):
  Inv X pins σ (upd H p (.lst ys)) {s with heap:=s.heap.update p f,toks:=t}:=by
 have e:(s.heap.update p f).get? p=some {cls:=.type "list",data:=.seq its'.toArray n'}:=by
  rw[Heap.get?_update_self f ho (by rw[hf]<;>rfl),hf]
 refine I.write (x:=p) (e:=p) (by rw[h];trivial) (.inl rfl) (fun b u hb q=>(Heap.get?_update_other _ _ (qA hb)).trans q) ⟨_,e⟩ ?_
 exact⟨hz,its',n',r,e⟩
def rSetL:V->V->V->Hp->(Hp->Prop)->Prop:=fun o i v H Q=>∃p xs k j,o= .ref p/\i= .int k/\H p=some (.lst xs)/\ixN xs.length k=some j/\Q (upd H p (.lst (xs.set j v)))
theorem a97:PSet X rSetL:=by
 intro pins s σ H o i v ov iv u Q I ro ri rv h;obtain⟨p,xs,k,j,rfl,rfl,hp,hj,q⟩:=h;cases ro;obtain⟨t,rfl⟩:=ri;obtain⟨its,n,r,ho,hz⟩:=I.lst hp;obtain⟨h1,h2,h3,h4⟩:=a70 hj;have hl:=r.length;have hn:=line63;have I':Inv X pins σ (upd H p (.lst (xs.set j v))) {s with heap:=s.heap.update p (Obj.mapSeq (·.setIfInBounds j u))}:=
  I.lstUpd hp ho (a7e its n j u) (r.set rv j) (by rw[jM];exact hz) s.toks
 by_cases h0:0<=k
 ·have hk:k.toNat=j:=by
   rw[seqIndex_of h0 h4] at h1;exact jC h1
  exact PySem.W.ki_setAt ho h0 (by walk_at "o") (by rw[zX,<-hl];exact h4) (by rw[hk];exact⟨_,I',q⟩)
 ·have hk:(k+(its.toArray.size:Int)).toNat=j:=by
   rw[seqIndex_neg (by walk_at "o") h3] at h1
   rw[zX,<-hl];exact jC h1
  exact PySem.W.ki_setBack ho (by walk_at "o") (by rw[zX,<-hl];exact h3) (by walk_at "o") (by rw[hk];exact⟨_,I',q⟩)
theorem a5y (lo hi:Option Int)(n:Nat):(sliceBounds lo hi none n).1=((HT.sIx n 0 lo:Nat):Int)/\(sliceBounds lo hi none n).2.1=((HT.sIx n n hi:Nat):Int)/\(sliceBounds lo hi none n).2.2=1:=by
 refine⟨?_,?_,rfl⟩
 ·cases lo with
  | none=>simp[sliceBounds,HT.sIx]
  | some i=>
   simp only[sliceBounds,HT.sIx,xK,show(1:Int)>0 by decide,qT]
   by_cases h:i<0
   ·simp only[h,qT]<;>walk_at "o"
   ·simp only[h,if_false]<;>walk_at "o"
 ·cases hi with
  | none=>simp[sliceBounds,HT.sIx]
  | some i=>
   simp only[sliceBounds,HT.sIx,xK,show(1:Int)>0 by decide,qT]
   by_cases h:i<0
   ·simp only[h,qT]<;>walk_at "o"
   ·simp only[h,if_false]<;>walk_at "o"
theorem a4M (its:List Value)(lo hi:Option Int):slicePick its.toArray lo hi none=((its.drop (HT.sIx its.length 0 lo)).take (HT.sIx its.length its.length hi-HT.sIx its.length 0 lo)).toArray:=by
 obtain⟨h1,h2,h3⟩:=a5y lo hi its.toArray.size;unfold slicePick;rw[h1,h2,h3];simp only[sliceRange_one,pick_run,zX]<;>rfl
def rSlL (K:PySem.W.Frag):V->Option Int->Option Int->Hp->VK->Prop:=fun x lo hi H Q=>∃a xs,x= .ref a/\SqL K H a xs/\∀p,H p=none->Q (.ref p) (upd H p (.lst (cutV xs lo hi)))
theorem b1J:SlR X (rSlL X.K):=by
 intro pins s σ H x v vl vu lo hi sl Q I rx hs pl pu h;obtain⟨a,xs,rfl,hx,q⟩:=h;cases rx;obtain⟨its,r,ht,hz⟩:=I.list hx;have hlen:=r.length;refine⟨"list",_,slot_list_getitem.lookup,ht.isList.typeIs,?_⟩;refine wpAny_getItem_list_slice ht.isList hs pl pu .none (by simp) ?_ (by rw[zX]<;>walk_at "o")
 rw[a4M,<-hlen];refine⟨.ref s.heap.objs.size,_,I.laid (t':=s.toks) (o:=.lst (cutV xs lo hi)) (fun b ob q=>zN _ q) (zI _) ?_,rfl,q _ (I.hok.fresh (zI _))⟩;exact⟨zO (a3r xs lo hi) hz,_,0,(r.drop (HT.sIx xs.length 0 lo)).take (HT.sIx xs.length xs.length hi-HT.sIx xs.length 0 lo),qB _ rfl⟩
theorem a5E:OpR X (compareOp .NotIn) (fun x y H Q=>∃i j,x= .str i/\y= .str j/\Q (.bl (!(!(Builtin.Str.occurrences j i 0 j.length 1).isEmpty))) H):=by
 intro pins s σ H x y v u Q I rx ry h;obtain⟨i,j,rfl,rfl,q⟩:=h;obtain⟨t,rfl⟩:=rx;obtain⟨t',rfl⟩:=ry;exact notIn_str ⟨.bl _,H,I,rfl,q⟩
theorem a5x:CallR X (.builtin "len") (fun xs H Q=>∃p ys,xs=[.ref p]/\(SqL X.K H p ys\/SqT X.K H p ys)/\Q (.int ys.length) H):=by
 intro pins s σ H xs us Q I r h;obtain⟨p,ys,rfl,hq,q⟩:=h;obtain⟨u,rfl,rx⟩:=vals1 r;cases rx;have hn:=line63;rcases hq with hq|hq
 ·obtain⟨its,r',pl,hz⟩:=I.list hq;have hlen:=r'.length;exact Calls.call_len_list pl.isList (by simp only[zX]<;>walk_at "o") ⟨.int ys.length,H,I.tok _,⟨s.toks+1,by rw[zX,hlen]⟩,q⟩
 ·obtain⟨its,r',pl,hz⟩:=I.tuple hq;have hlen:=r'.length;exact len_tuple pl (by simp only[zX]<;>walk_at "o") ⟨.int ys.length,H,I.tok _,⟨s.toks+1,by rw[zX,hlen]⟩,q⟩
theorem a5t:CallR X (.builtin "len") (fun xs H Q=>∃z,xs=[.str z]/\z.length<=sizeLine/\Q (.int z.length) H):=by
 intro pins s σ H xs us Q I r h;obtain⟨z,rfl,hz,q⟩:=h;obtain⟨u,rfl,t,rfl⟩:=vals1 r;have hn:=line63;exact len_str (by walk_at "o") ⟨.int z.length,H,I.tok _,⟨_,rfl⟩,q⟩
theorem CallR.or {f:Value}{r r':List V->Hp->VK->Prop}(h:CallR X f r)(h':CallR X f r'):CallR X f (fun xs H Q=>r xs H Q\/r' xs H Q):=by
 intro pins s σ H xs us Q I rs q;rcases q with q|q
 ·exact h pins s σ H xs us Q I rs q
 ·exact h' pins s σ H xs us Q I rs q
theorem D3:CallR X (.type "tuple") (fun xs H Q=>∃p ys,xs=[.ref p]/\((SqL X.K H p ys/\∀l,H l=none->Q (.ref l) (upd H l (.tup ys)))\/(SqT X.K H p ys/\Q (.ref p) H))):=by
 intro pins s σ H xs us Q I r h;obtain⟨p,ys,rfl,h⟩:=h;obtain⟨u,rfl,rx⟩:=vals1 r;cases rx;rcases h with ⟨hq,q⟩|⟨hq,q⟩
 ·obtain⟨its,r',pl,hz⟩:=I.list hq;have hlen:=r'.length;refine call_tuple_list pl.isList (fun h' kp=>?_) (by simp only[zX]<;>walk_at "o")
  have I1:Inv X pins σ H {s with heap:=h'}:=I.kept (t':=s.toks) kp
  have I2:Inv X pins σ (upd H h'.objs.size (.tup ys)) {s with heap:=h'.push {cls:=.type "tuple",data:=.seq its.toArray}}:=
   I1.laid (t':=s.toks) (fun b o e=>zN _ e) (zI _) (show ObjOk X.prog X.w _ _ _ (.tup ys) from⟨hz,its,r',TupN.new _ _⟩)
  exact⟨.ref h'.objs.size,_,I2,rfl,q _ (I1.hok.fresh (zI _))⟩
 ·obtain⟨its,r',pl,hz⟩:=I.tuple hq;exact call_tuple_same pl ⟨.ref p,H,I,rfl,q⟩
def tyV (K:PySem.W.Frag) (T:String) (x:V) (H:Hp):Prop:=match x with
 | .str _=>T="str"
 | .int _=>T="int"
 | .ref p=>(T="list"/\∃xs,SqL K H p xs)\/(T="tuple"/\∃o,K.lookup p=some o/\o.cls= .type "tuple"/\o.dict=none)\/
   (T="dict"/\((∃kvs,H p=some (.dK kvs))\/∃kvs,H p=some (.dT kvs)))\/(T="set"/\∃S n,H p=some (.set S n))
 | _=>False
theorem b3B {pins:List (Addr×Obj)}{σ:St}{H:Hp}{s:Shared}{T:String}{x:V}{v:Value}(I:Inv X pins σ H s)(r:RelV x v)(ty:tyV X.K T x H):
  s.TypeIs v T/\∀a,v= .ref a->∃ob,s.heap.get? a=some ob/\ob.dict=none:=by
 cases x with
 | str z=>
  obtain⟨t,rfl⟩:=r;cases(show T="str" from ty);exact⟨xX s z t,fun _ e=>nomatch e⟩
 | int i=>
  obtain⟨t,rfl⟩:=r;cases(show T="int" from ty);exact⟨typeIs_int s i t,fun _ e=>nomatch e⟩
 | ref p=>
  cases r;rcases ty with ⟨rfl,xs,hq⟩|⟨rfl,o,hk,hc,hd⟩|⟨rfl,hk⟩|⟨rfl,S,n,hk⟩
  ·obtain⟨its,_,pl,_⟩:=I.list hq;refine⟨pl.isList.typeIs,fun a e=>?_⟩;cases e;obtain⟨o,n,e,c,hd,_⟩:=pl;exact⟨o,e,hd⟩
  ·refine⟨⟨o,I.kIn p o hk,hc⟩,fun a e=>?_⟩;cases e;exact⟨o,I.kIn _ o hk,hd⟩
  ·have z:∃o,s.heap.get? p=some o/\o.ExactDict:=by
    rcases hk with ⟨kvs,hk⟩|⟨kvs,hk⟩
    ·obtain⟨_,_,_,_,o,_,e,ex,_⟩:=I.hok p _ hk;exact⟨o,e,ex⟩
    ·obtain⟨_,_,_,_,o,_,e,ex,_⟩:=I.hok p _ hk;exact⟨o,e,ex⟩
   obtain⟨o,e,ex⟩:=z;refine⟨⟨o,e,ex.1⟩,fun a e2=>?_⟩;cases e2;exact⟨o,e,ex.2.1⟩
  ·obtain⟨o,_,_,_,e,ex,_⟩:=I.hok p _ hk;refine⟨⟨o,e,ex.1⟩,fun a e2=>?_⟩;cases e2;exact⟨o,e,ex.2.1⟩
 | _=>exact False.elim ty
def tBM (K:PySem.W.Frag) (T:String) (r:V->List V->Hp->VK->Prop) (to:TE) (t:TA):TE:=fun σ H Q=>to σ H fun x H1=>tyV K T x H1/\t σ H1 fun xs H2=>r x xs H2 Q
variable {o e:Expr}{es:List Expr}{to:TE}{t:TA}{name:Str}{apos cpos:Pos}{T id:String}{r:V->List V->Hp->VK->Prop}
theorem b2A (pa:PlainAttrs T)(slot:Slot T name id)(hty:typeOf (.builtin id)=pure (.type "method_descriptor"))(hm:MtR X id r)(ho:PE X o to)(ha:PA X (e::es) t)
  (hbase:attributeBase o name X.env (eval o X.env)=eval o X.env:=by rfl)
  (hfew:((backTo cpos (starEach (e::es) X.env)).all (fun x=>!x.1)&&(backToKw cpos (keywordEach [] X.env)).all (fun x=>x.1.isSome)
   && decide ((e::es).length+([]:List Keyword).length+(if([]:List Keyword).isEmpty then 0 else 1)<30))=true:=by rfl)
  (hline:(apos.endLine==cpos.line)=true:=by rfl) (hs:starEach (e::es) X.env=(false,eval e X.env)::starEach es X.env:=by rfl) (hplain:(backTo cpos (starEach es X.env)).any (·.1)=false:=by rfl):
  PE X (.Call (.Attribute o name apos) (e::es) [] cpos) (tBM X.K T r to t):=by
 intro pins s σ H Q I h;refine wpAny_Call_method_late hbase hfew hline rfl (thn (ho pins s σ H _ I h) fun v s1 ⟨x,H1,I1,r1,ty,q1⟩=>?_);obtain⟨h1,h2⟩:=b3B I1 r1 ty;refine⟨T,id,pa,slot,hty,h1,h2,?_⟩;have hA:=ha cpos pins s1 σ H1 _ I1 q1;rw[hs] at hA ⊢;refine Calls.callWith_builtin (by show(false||(backTo cpos (starEach es X.env)).any (·.1))=false;rw[hplain]<;>rfl) (Calls.evalArgs_plain ?_)
 exact thn hA fun us s2 h0=>ex5 h0 fun vs H2 I2 r2 q2=>hm pins s2 σ H2 x vs v us Q I2 r1 r2 q2
end
def MtM (X:Cx) (id:String) (r:V->List V->Hp->VK->Prop):Prop:=
 ∀(pins:List (Addr×Obj)) (s:Shared) (σ:St) (H:Hp) (x:V) (xs:List V) (v:Value) (us:List Value) (Q:VK),Inv X pins σ H s->RelV x v->Vals xs us->r x xs H Q->
  wpAny (model X.prog X.w) X.A (call (.builtin id) (v::us)) (EP X pins σ Q) X.xe s
theorem Vals.one:∀{x:V} {us:List Value},Vals [x] us->∃u,us=[u]/\RelV x u
 | _,_,.cons r .nil=>⟨_,rfl,r⟩
section
variable {X:Cx}{pins:List (Addr×Obj)}{σ:St}{H:Hp}{s:Shared}{l:Addr}{xs ys:List V}
theorem Inv.lset {its its':List Value}{n:Nat}{f:Array Value->Array Value}{t':Nat}(I:Inv X pins σ H s)(hH:H l=some (.lst xs))
  (e:s.heap.get? l=some {cls:=.type "list",data:=.seq its.toArray n}) (hf:f its.toArray=its'.toArray) (hv:Vals ys its') (hz:ys.length<=sizeLine):
  Inv X pins σ (upd H l (.lst ys)) {s with heap:=s.heap.update l (Obj.mapSeq f),toks:=t'}:=by
 have q:=PySem.IsL.update e f;rw[hf] at q;refine I.write (x:=l) (e:=l) (by rw[hH];exact trivial) (.inl rfl) (fun b' u hb hu=>(Heap.get?_update_other s.heap (Obj.mapSeq f) (qA hb)).trans hu) ⟨_,q⟩ ?_
 exact⟨hz,its',_,hv,q⟩
theorem Inv.lnew {its:List Value}{t':Nat}(I:Inv X pins σ H s)(hv:Vals ys its)(hz:ys.length<=sizeLine):
  Inv X pins σ (upd H s.heap.objs.size (.lst ys)) {s with heap:=s.heap.push {cls:=.type "list",data:=.seq its.toArray},toks:=t'}:=
 I.laid (fun _ _ q=>zN _ q) (zI _) ⟨hz,its,0,hv,qB _ rfl⟩
theorem Inv.fresh (I:Inv X pins σ H s):H s.heap.objs.size=none:=I.hok.fresh (zI _)
theorem Inv.lstM (I:Inv X pins σ H s)(hH:H l=some (.lst xs)):xs.length<=sizeLine/\∃(its:List Value) (n:Nat),Vals xs its/\xs.length=its.length/\s.heap.get? l=some {cls:=.type "list",data:=.seq its.toArray n}:=by
 obtain⟨z,its,n,r,e⟩:=I.hok l _ hH;exact⟨z,its,n,r,r.length,e⟩
end
section
variable {X:Cx}
def rAppend:V->List V->Hp->VK->Prop:=fun x vs H Q=>∃l xs y,x= .ref l/\vs=[y]/\H l=some (.lst xs)/\xs.length<sizeLine/\Q .non (upd H l (.lst (xs++[y])))
theorem a2I:MtM X "list.append" rAppend:=by
 intro pins s σ H x vs v us Q I rx rv h;obtain⟨l,xs,y,rfl,rfl,hH,hz,q⟩:=h;cases rx;obtain⟨u,rfl,ru⟩:=rv.one;obtain⟨z,its,n,r,hl,e⟩:=I.lstM hH;refine call_meets F.slot_list_append ⟨_,e,rfl⟩ F.entry_list_append (F.args_list_append_2 _ _) (PySem.list_append l its.toArray n u (by rw[zX];walk_at "o")) ⟨e,?_⟩
 refine⟨.non,_,I.lset (its':=its++[u]) hH e (by simp) (r.append (.cons ru .nil)) ?_,rfl,q⟩
 rw[zP,jR];walk_at "o"
end
section
set_option maxRecDepth 100000 in
end
end L2
namespace Att
open PySem PySem.W PySem.Calls PyProof.Rows
theorem a3C {P:Params}{h:Heap}:∀(ns:List Int) (vs:List Value),WellAll P h vs (ns.map WData.int)->IntsAre vs ns:=by
 intro ns
 induction ns with
 | nil=>
  intro vs w;rw[jZ] at w;cases w;exact .nil
 | cons n ns ih=>
  intro vs w;rw[zR] at w;cases w with
  | cons a b=>
   cases a;exact .cons _ _ (ih _ b)
theorem a8u {l:OpenLaw}{n:Nat}(hn:l.most=some n){P:Params}{h:Heap}{args:List WData}{vals:List Value}
  (hpre:l.row.toRowW.claim.pre args=true) (hwl:WellAll P h vals args):
  ∃a vs ns,vals=[Value.ref a]/\args=[WData.list (ns.map WData.int)]/\h.get? a=some {cls:=.type "list",data:=.seq vs.toArray}/\IntsAre vs ns/\ns.length<=n:=by
 have hsh:WShape.hasAll [] args [.list .int]=true:=(pre_splitW hpre).1;have hc:l.pre.holds [] {args:=args}=true:=(pre_splitW hpre).2;obtain⟨d,r,rfl,h1,h2⟩:=hasAllW_cons hsh;obtain rfl:=hasAllW_nil h2;obtain⟨xs,rfl,h3⟩:=hasW_list h1;obtain⟨ns,rfl⟩:=items_int h3;have hlen:ns.length<=n:=by
  unfold OpenLaw.pre at hc;have h4:(WTm.not (.lt (.lit (.int (n:Int))) (.len (.arg 0)))).holds [] {args:=[.list (ns.map .int)]}=true:=by
   have h4:=(holds_andW hc).1;rw[hn] at h4;exact h4
  have h5:=condW_of h4 (w_not (w_lt w_lit (w_len_list (w_arg rfl))));rw[zD] at h5;refine Nat.le_of_not_lt fun q=>?_;have q':(n:Int)<((ns.length:Nat):Int):=by walk_at "o"
  first
   | (rw[zC q'] at h5;exact absurd h5 (by decide))
   | (simp at h5;walk_at "o")
 cases hwl with
 | cons w1 w2=>
  cases w2;cases w1 with
  | list ho hall=>exact⟨_,_,ns,rfl,rfl,ho,a3C ns _ hall,hlen⟩
theorem a9f (l:OpenLaw)(args:List WData):l.row.toRowW.claim.post args (.bool true) args=true:=
 postW_of (r:=l.row.toRowW) (X:=(true==true))
  (show WShape.has [] (.bool true) .bool=true by first|rfl|decide|simp[WShape.has,WShape.arms,WShape.armsAll])
  (show(WTm.eq .res (.lit (.bool true))).value [] {args:=args,res:=some (.bool true),after:=args}=some (.bool (true==true)) from w_eq_bool (w_res rfl) w_lit) rfl
theorem attach_call {l:OpenLaw}{n:Nat}{q:Program}{loose:List Str}{XP:(Str->Option Value)->Heap->Prop}{YP:World->Heap->Prop}{d:DefRec}
  (hn:l.most=some n) (hdf:d.params.defaults=[])
  (call:∀(w:World) (s₀ s₁:Shared) (mg mb:Str->Option Value) (fa:Addr) (o:Obj) (pm cd doc:Value) (a:Addr) (vs:List Value) (ns:List Int),
   Ground q loose [] XP w s₀ mg mb s₁.heap->YP w s₁.heap->
   s₁.heap.get? fa=some o->o.data= .func (docDef d.name d.params d.body d.scope pm cd doc)->s₁.heap.CodeRec cd d.name->mg d.name=some (.ref fa)->
   s₁.heap.get? a=some {cls:=.type "list",data:=.seq vs.toArray}->IntsAre vs ns->ns.length<=n->s₁.gens= #[]->
   codeAny (model l.prog w) callerA (.call (.ref fa) ⟨[.ref a],[]⟩) (fun r s'=>r= .ok (.ret (.bool true))/\OldK s₁.heap s'.heap/\s'.os=s₁.os/\AllBare s'.gens) s₁):
  WalkO q loose XP YP l.row.toRowW d [] (fun f vs=>PySem.call f vs):=by
 intro w s₀ s₁ mg mb G Y fa o pm cd doc dV kV ho hd hcd hD hmg hg args vals as hpre hlay hrd hwl hlo;obtain rfl:dV= .none:=Dflts.none hD hdf;obtain rfl:kV= .none:=Dflts.noKw hD;obtain⟨a,vs,ns,rfl,rfl,hobj,hints,hlen⟩:=a8u hn hpre hwl;refine enter_call (codeAny_mono (call w s₀ s₁ mg mb fa o pm cd doc a vs ns G Y ho (fd_plain hd) hcd hmg hobj hints hlen hg) fun r s' hq=>?_);obtain⟨rfl,h2,h3,h4⟩:=hq;exact⟨.inl ⟨.bool true,.bool true,[],rfl,fun _=>rfl,.bool true,a9f l _,fun _=>⟨List.Pairwise.nil,fun _ hm=>(nomatch hm)⟩⟩,h2,h3,h4⟩
def ledger (h:Heap) (L d:Addr):List (Addr×Obj):=(List.range h.objs.size).filterMap fun a=>if a=L\/a=d then none else(h.get? a).map fun o=>(a,o)
end Att
namespace L2
open PySem PySem.Spec PyProof.Rows
theorem a5h:∀{vs:List Value} {ns:List Int},IntsAre vs ns->Vals (ns.map V.int) vs
 | _,_,.nil=>.nil
 | _,_,.cons n t h=>.cons ⟨t,rfl⟩ (a5h h)
def Only (H:Hp):Prop:=∀b,H b=none\/∃o xs,H b=some (.frz o (.lst xs))
theorem a9J {P:Program}{w:World}{K:PySem.W.Frag}{mg mb:Str->Option Value}{CX:CXT}{k:Nat}{fa a:Addr}{fd:FuncData}{x:Str}{sp:Sp}{s₁:Shared}{vs:List Value}{ns:List Int}
  (KX:K.In s₁.heap) (hns:s₁.heap.Ns mainGlobals mg) (hb:s₁.heap.Ns builtinsNs mb) (hbb:∀x:Str,x≠"__name__"->mb x=bootBuiltins x) (hlim:s₁.heap.NoLimit) (hg:s₁.gens= #[])
  (ha:s₁.heap.get? a=some {cls:=.type "list",data:=.seq vs.toArray}) (hi:IntsAre vs ns) (hl:ns.length<=sizeLine) (hr:Room k callerA)
  (F:∀base:Heap,K.In base->base.Ns mainGlobals mg->FnOk P w K mg base CX k fa fd [x] sp) (hbind:∀(s:Shared) (u:Value),BindsTo s fd ⟨[u],[]⟩ [(x,u)])
  (hsp:∀H:Hp,Only H->SqL K H a (ns.map V.int)->sp [.ref a] H (fun v _=>v= .bl true) fun _ _ _=>False)
  (hCX:∀H e s',CX [] H s₁ (fun _ _ _=>False) e s'->False):
  codeAny (model P w) callerA (.call (.ref fa) ⟨[.ref a],[]⟩) (fun r s'=>r= .ok (.ret (.bool true))/\OldK s₁.heap s'.heap/\s'.os=s₁.os/\AllBare s'.gens) s₁:=by
 have rv:=a5h hi;have lenV:=hi.length;have core:∀H:Hp,Only H->SqL K H a (ns.map V.int)->HOk P w H s₁.heap->(∀b,H b≠none->b=a)->(H a≠none->K.lookup a=none)->
   codeAny (model P w) callerA (.call (.ref fa) ⟨[.ref a],[]⟩) (fun r s'=>r= .ok (.ret (.bool true))/\OldK s₁.heap s'.heap/\s'.os=s₁.os/\AllBare s'.gens) s₁:=by
  intro H hO hS hok hA hK;have base_of:∀{b:Addr} {o:Obj},s₁.heap.get? b=some o->H b=none->(hidT s₁.heap H).get? b=some o:=fun e n=>a9q e n;have noA:∀{b:Addr} {o:Obj} {es:Array DictEntry} {ep:Nat},s₁.heap.get? b=some o->o.data= .dict es ep->H b=none:=fun{b o es ep} e d=>by
   cases q:H b with
   | none=>rfl
   | some u=>
    have e':b=a:=hA b (by rw[q];simp)
    subst e';rw[ha] at e;cases e;have d':Data.seq vs.toArray _=Data.dict es ep:=d;cases d'
  have nsK:∀{b:Addr} {m:Str->Option Value},s₁.heap.Ns b m->(hidT s₁.heap H).Ns b m:=fun{b m} ⟨o,es,ep,e,d,r⟩=>⟨o,es,ep,base_of e (noA e d),d,r⟩
  have hKb:K.In (hidT s₁.heap H):=fun b o e=>base_of (KX b o e) (by
   cases q:H b with
   | none=>rfl
   | some u=>
    have e':b=a:=hA b (by rw[q];simp)
    subst e'
    rw[hK (by rw[q];simp)] at e;cases e)
  have hM:Mod K mg (hidT s₁.heap H):=⟨hKb,nsK hns,⟨mb,nsK hb,hbb⟩,let ⟨mc,h1,h2⟩:=hlim;⟨mc,nsK h1,h2⟩⟩;have e0:Env0 P w K mg (hidT s₁.heap H) callerA [] s₁ H:=⟨rfl,hM,fun b o e=>b2b e,Nat.le_of_eq (a8F _ _),trivial,fun b hb=>absurd (show b∈([]:List Addr) from hb) (by simp),hok,.of_eq hg⟩
  refine codeAny_mono ((F _ hKb (nsK hns)).run callerA [] s₁ H ⟨[.ref a],[]⟩ [.ref a] [.ref a] _ _ hr e0 (hbind s₁ (.ref a)) (.cons rfl .nil) (hsp H hO hS)) fun r s' h=>?_;cases r with
  | error e=>exact(hCX H e s' h).elim
  | ok fl=>
   cases fl with
   | next=>exact False.elim h
   | brk=>exact False.elim h
   | cont=>exact False.elim h
   | ret u=>
    obtain⟨v,H',os,bare,un,hok',r',q⟩:=h;have q':v= .bl true:=q;subst q';obtain rfl:u=Value.bool true:=r';refine⟨rfl,OldK.of_keep fun b o e=>?_,os,bare⟩;cases q:H b with
    | none=>exact un.keep b o e q (by intro z;exact absurd (show b∈([]:List Addr) from z) (by simp)) (by simp)
    | some u=>
     rcases hO b with z|⟨ob,xs,z⟩
     ·rw[q] at z;cases z
     ·have z2:=un.frzs b ob _ z;obtain⟨e1,_⟩:=hok b _ z;obtain⟨e2,_⟩:=hok' b _ z2;rw[e] at e1;cases e1;exact e2
 cases hk:K.lookup a with
 | some o=>
  have e:=KX a o hk;rw[ha] at e;cases e;refine core (fun _=>none) (fun _=>.inl rfl) (.inr ⟨_,vs.toArray,_,hk,rfl,rfl,rfl,by rw[zX,lenV];exact hl,by simpa using rv⟩) (fun b u z=>by have z':(none:Option HO)=some u:=z;cases z') (fun b z=>absurd rfl z) fun z=>absurd rfl z
 | none=>
  refine core (fun b=>if b=a then some (.frz {cls:=.type "list",data:=.seq vs.toArray} (.lst (ns.map V.int))) else none) (fun b=>?_) (.inl (.inr ⟨{cls:=.type "list",data:=.seq vs.toArray},if_pos rfl⟩)) (fun b u z=>?_) (fun b z=>?_) fun _=>hk
  ·by_cases hb:b=a
   ·exact .inr ⟨_,_,if_pos hb⟩
   ·exact .inl (if_neg hb)
  ·by_cases hb:b=a
   ·have z':=(if_pos hb).symm.trans z;cases z';subst hb;exact⟨ha,by rw[zD];exact hl,vs,_,rv,ha⟩
   ·have z':=(if_neg hb).symm.trans z;cases z'
  ·by_cases hb:b=a
   ·exact hb
   ·exact absurd (if_neg hb) z
abbrev KOf {K:PySem.W.Frag} {h:Heap} (_:K.In h):PySem.W.Frag:=K
theorem b0Y {l:PySem.W.OpenLaw}{n k:Nat}{q:Program}{loose:List Str}{XP:(Str->Option Value)->Heap->Prop}{YP:World->Heap->Prop}{d:DefRec}{K:Params->PySem.W.Frag}{CX:World->CXT}{sp:World->Sp}{x:Str}
  (hn:l.most=some n) (hn2:n<=sizeLine) (hdf:d.params.defaults=[]) (hr:Room k callerA)
  (hY:∀(w:World) (h:Heap),YP w h->(K w.params).In h)
  (F:∀(w:World) (mg:Str->Option Value) (fa:Addr) (h:Heap),(K w.params).In h->h.Ns mainGlobals mg->mg d.name=some (.ref fa)->
   ∃fd:FuncData,(∀(s:Shared) (u:Value),BindsTo s fd ⟨[u],[]⟩ [(x,u)])/\
    ∀base:Heap,(K w.params).In base->base.Ns mainGlobals mg->FnOk l.prog w (K w.params) mg base (CX w) k fa fd [x] (sp w))
  (hsp:∀(w:World) (H:Hp) (a:Addr) (ns:List Int),ns.length<=n->Only H->SqL (K w.params) H a (ns.map V.int)->sp w [.ref a] H (fun v _=>v= .bl true) fun _ _ _=>False)
  (hCX:∀(w:World) (H:Hp) (s:Shared) (e:Value) (s':Shared),CX w [] H s (fun _ _ _=>False) e s'->False):
  PySem.W.WalkO q loose XP YP l.row.toRowW d [] (fun f vs=>PySem.call f vs):=by
 refine Att.attach_call hn hdf fun w s₀ s₁ mg mb fa o pm cd doc a vs ns G Y ho hd hcd hmg hobj hints hlen hg=>?_;have KX:=hY w _ Y;obtain⟨fd,hb,hF⟩:=F w mg fa _ KX G.T.g hmg;exact a9J KX G.T.g G.T.b G.T.builtins G.T.nolimit hg hobj hints (zO hlen hn2) hr hF hb (fun H hO hS=>hsp w H a ns hlen hO hS) fun H e s'=>hCX w H s₁ e s'
def defArgs (s:Stmt):Arguments:=match s with
 | .FunctionDef _ a _ _ _ _ _ _ _ _=>a
 | _=>{posonlyargs:=[],args:=[],vararg:=none,kwonlyargs:=[],kw_defaults:=[],kwarg:=none,defaults:=[]}
def defBody (s:Stmt):List Stmt:=match s with
 | .FunctionDef _ _ b _ _ _ _ _ _ _=>b
 | _=>[]
def defScope (s:Stmt):Scope:=match s with
 | .FunctionDef _ _ _ _ _ _ sc _ _ _=>sc
 | _=>{kind:=.function,names:=[],isGenerator:=false,isCoroutine:=false}
abbrev CX0:CXT:=fun _ _ _ _ _ _=>False
abbrev E0:XK:=fun _ _ _=>False
theorem pass0 {X:Cx}:Passes CX0 X E0:=fun _ _ _ _ _ _ _ h=>h.elim
structure Fun (K:PySem.W.Frag) (x qual:Str) (st:Stmt) (f:Addr) (fd:FuncData):Prop where
 ex:∃(oc:Value) (od:Option Addr) (kV doc pm:Value) (an:Option Addr) (cdv ct:Value) (osl:Array (Option Value)),
  fd=PySem.W.fnOf x qual (defArgs st) (defBody st) (defScope st) .none kV doc pm an cdv ct/\K.lookup f=some ⟨oc,od,.func fd,osl⟩/\PySem.W.codeIn K cdv qual=true
 kp:PySem.W.keepIn K (.ref f)=true
section
variable {P:Program}{w:World}{K:PySem.W.Frag}{mg:Str->Option Value}{base:Heap}
theorem Fun.ok {x qual:Str}{st:Stmt}{f:Addr}{fd:FuncData}{N ps:List Str}{k:Nat}{sp:Sp}(F:Fun K x qual st f fd)(S:FnScope N ps (defScope st))(len:∀vs H Q E,sp vs H Q E->vs.length=ps.length)
  (hbody:∀(cdv:Value) (A:Around) (outer:List Env) (s:Shared) (H:Hp) (vs:List V) (Q:VK) (E:XK),Room k (A.deeper (envOfC qual (defScope st) s.heap.objs.size f cdv))->sp vs H Q E->
   ∃t,PSs (cxOf CX0 P w K mg base N qual (defScope st) f cdv A outer s H E).nox (defBody st) t/\t {nx:=fun _ H'=>Q .non H',rt:=Q} (start N vs) H):FnOk P w K mg base CX0 (k+1) f fd ps sp:=by
 obtain⟨oc,od,kV,doc,pm,an,cdv,ct,osl,rfl,lk,hcd⟩:=F.ex;refine b2x lk hcd S len fun A outer s H vs Q E hr hsp=>?_;obtain⟨t,h,q⟩:=hbody cdv A outer s H vs Q E hr hsp;exact⟨t,h.nox,q⟩
theorem Fun.binds {x qual:Str}{st:Stmt}{f:Addr}{fd:FuncData}{ps:List Str}(F:Fun K x qual st f fd)
  (h:∀(kV doc pm:Value) (an:Option Addr) (cdv ct:Value) (us:List Value),us.length=ps.length->bindArgs (PySem.W.fnOf x qual (defArgs st) (defBody st) (defScope st) .none kV doc pm an cdv ct) ⟨us,[]⟩=pure (ps.zip us)):Binds K fd ps []:=by
 obtain⟨oc,od,kV,doc,pm,an,cdv,ct,osl,rfl,lk,hcd⟩:=F.ex;exact .all (h kV doc pm an cdv ct)
theorem a9U {x qual:Str}{st:Stmt}{f:Addr}{oc:Value}{od an:Option Addr}{osl:Array (Option Value)}{kV doc pm cdv ct:Value}(l:K.lookup f=some ⟨oc,od,.func (PySem.W.fnOf x qual (defArgs st) (defBody st) (defScope st) .none kV doc pm an cdv ct),osl⟩)
  (c:PySem.W.codeIn K cdv qual=true) (k:PySem.W.keepIn K (.ref f)=true):Fun K x qual st f (PySem.W.fnOf x qual (defArgs st) (defBody st) (defScope st) .none kV doc pm an cdv ct):=⟨⟨oc,od,kV,doc,pm,an,cdv,ct,osl,rfl,l,c⟩,k⟩
end
def Same (H H':Hp):Prop:=∀b o,H b=some o->H' b=some o
theorem Same.refl (H:Hp):Same H H:=fun _ _ h=>h
theorem Same.trans {H H1 H2:Hp}(a:Same H H1)(b:Same H1 H2):Same H H2:=fun c o h=>b c o (a c o h)
section
variable {κ:Type} [DecidableEq κ]
def valV (kvs:List (κ×V)) (k:κ):Option V:=(kvs.find? fun kv=>decide (kv.1=k)).map (·.2)
def putK (kvs:List (κ×V)) (k:κ) (v:V):List (κ×V):=
 if(kvs.any fun kv=>decide (kv.1=k))=true then kvs.map (fun kv=>if kv.1=k then(kv.1,v) else kv) else kvs++[(k,v)]
theorem a4i {p:κ×V}{r:List (κ×V)}{k:κ}(e:p.1=k):valV (p::r) k=some p.2:=by simp[valV,find?_cons,e]
theorem a37 {p:κ×V}{r:List (κ×V)}{k:κ}(e:¬p.1=k):valV (p::r) k=valV r k:=by simp[valV,find?_cons,e]
theorem a6r (k:κ):∀kvs:List (κ×V),(kvs.any fun kv=>decide (kv.1=k))=(valV kvs k).isSome
 | []=>rfl
 | p::r=>by
  rw[any_cons]
  by_cases e:p.1=k
  ·simp only[a4i e,zC e,Bool.true_or,jJ]
  ·rw[a37 e,zB e,Bool.false_or];exact a6r k r
theorem RelO.isSome_eq {o:Option V}{u:Option Value}(r:RelO o u):o.isSome=u.isSome:=by
 cases o with
 | none=>cases u with
  | none=>rfl
  | some _=>exact(show False from r).elim
 | some _=>cases u with
  | none=>exact(show False from r).elim
  | some _=>rfl
theorem RelO.getD {o:Option V}{u:Option Value}{d:V}{d':Value}(r:RelO o u)(rd:RelV d d'):RelV (o.getD d) (u.getD d'):=by
 cases o with
 | none=>cases u with
  | none=>exact rd
  | some _=>exact(show False from r).elim
 | some _=>cases u with
  | none=>exact(show False from r).elim
  | some _=>exact r
theorem KV.val {kvs:List (κ×V)}{vs:List (κ×Value)}(r:KV kvs vs)(k:κ):RelO (valV kvs k) (valueAt vs k):=by
 unfold KV at r
 induction r with
 | nil=>exact True.intro
 | @cons p q ps qs h t ih=>
  obtain⟨h1,h2⟩:=h
  by_cases e:p.1=k
  ·have e':q.1=k:=h1.symm.trans e;have b:valueAt (q::qs) k=some q.2:=by simp[valueAt,find?_cons,e']
   rw[a4i e,b];exact h2
  ·have e':¬q.1=k:=fun z=>e (h1.trans z);have b:valueAt (q::qs) k=valueAt qs k:=by simp[valueAt,find?_cons,e']
   rw[a37 e,b];exact ih
theorem KV.any {kvs:List (κ×V)}{vs:List (κ×Value)}(r:KV kvs vs)(k:κ):(kvs.any fun kv=>decide (kv.1=k))=vs.any fun kv=>decide (kv.1=k):=by
 unfold KV at r
 induction r with
 | nil=>rfl
 | cons h t ih=>rw[any_cons,any_cons,ih,h.1]
theorem KV.repl {kvs:List (κ×V)}{vs:List (κ×Value)}(r:KV kvs vs)(k:κ){y:V}{u:Value}(ry:RelV y u):
  KV (kvs.map fun kv=>if kv.1=k then(kv.1,y) else kv) (vs.map fun kv=>if kv.1=k then(kv.1,u) else kv):=by
 unfold KV at r ⊢
 induction r with
 | nil=>exact .nil
 | @cons p q ps qs h t ih=>
  rw[zR,zR];refine .cons ?_ ih;obtain⟨h1,h2⟩:=h
  by_cases e:p.1=k
  ·rw[if_pos e,if_pos (h1.symm.trans e)];exact⟨h1,ry⟩
  ·rw[if_neg e,if_neg (fun z=>e (h1.trans z))];exact⟨h1,h2⟩
theorem KV.put {kvs:List (κ×V)}{vs:List (κ×Value)}(r:KV kvs vs)(k:κ){y:V}{u:Value}(ry:RelV y u):KV (putK kvs k y) (stored vs k u):=by
 unfold putK stored;rw[r.any k]
 by_cases e:(vs.any fun kv=>decide (kv.1=k))=true
 ·rw[if_pos e,if_pos e];exact r.repl k ry
 ·rw[if_neg e,if_neg e];exact Paired.snoc r ⟨rfl,ry⟩
theorem KV.length {kvs:List (κ×V)}{vs:List (κ×Value)}(r:KV kvs vs):kvs.length=vs.length:=Paired.length r
end
abbrev KT (H:Hp):List (List Key×V)->List (List Key×Addr×Value)->Prop:=Paired fun p q=>p.1=q.1/\H q.2.1=some (.tup (p.1.map kV))/\RelV p.2 q.2.2
theorem KT.val {H:Hp}{kvs:List (List Key×V)}{xs:List (List Key×Addr×Value)}(r:KT H kvs xs)(k:List Key):RelO (valV kvs k) ((atKey xs k).map (·.2)):=by
 induction r with
 | nil=>exact True.intro
 | @cons p q ps qs h t ih=>
  obtain⟨h1,_,h2⟩:=h
  by_cases e:p.1=k
  ·have e':q.1=k:=h1.symm.trans e;have b:atKey (q::qs) k=some q.2:=by simp[atKey,find?_cons,e']
   rw[a4i e,b];exact h2
  ·have e':¬q.1=k:=fun z=>e (h1.trans z);have b:atKey (q::qs) k=atKey qs k:=by simp[atKey,find?_cons,e']
   rw[a37 e,b];exact ih
theorem KT.repl {H:Hp}{kvs:List (List Key×V)}{xs:List (List Key×Addr×Value)}(r:KT H kvs xs)(k:List Key){y:V}{u:Value}(ry:RelV y u):
  KT H (kvs.map fun kv=>if kv.1=k then(kv.1,y) else kv) (xs.map (putAt k u)):=by
 induction r with
 | nil=>exact .nil
 | @cons p q ps qs h t ih=>
  rw[zR,zR];refine .cons ?_ ih;obtain⟨h1,h2,h3⟩:=h;unfold putAt
  by_cases e:p.1=k
  ·rw[if_pos e,if_pos (h1.symm.trans e)];exact⟨h1,h2,ry⟩
  ·rw[if_neg e,if_neg (fun z=>e (h1.trans z))];exact⟨h1,h2,h3⟩
theorem KT.put {H:Hp}{kvs:List (List Key×V)}{xs:List (List Key×Addr×Value)}(r:KT H kvs xs)(k:List Key){b:Addr}{y:V}{u:Value}(hb:H b=some (.tup (k.map kV)))(ry:RelV y u):
  KT H (putK kvs k y) (storedH xs k b u):=by
 have e:(kvs.any fun kv=>decide (kv.1=k))=(atKey xs k).isSome:=by
  rw[a6r,(r.val k).isSome_eq,isSome_map]
 unfold putK storedH;rw[e]
 by_cases q:(atKey xs k).isSome=true
 ·rw[if_pos q,if_pos q];exact r.repl k ry
 ·rw[if_neg q,if_neg q];exact Paired.snoc r ⟨rfl,hb,ry⟩
theorem KT.keeps {H H':Hp}{kvs:List (List Key×V)}{xs:List (List Key×Addr×Value)}(r:KT H kvs xs)(ht:∀b ys,H b=some (.tup ys)->H' b=some (.tup ys)):KT H' kvs xs:=
 Paired.mapP r fun _ _ z=>⟨z.1,ht _ _ z.2.1,z.2.2⟩
def DPut (H:Hp) (a:Addr) (y v:V) (H':Hp):Prop:=
 (∃kvs k,H a=some (.dK kvs)/\y=kV k/\kvs.length<sizeLine/\H'=upd H a (.dK (putK kvs k v)))\/
 ∃kvs k b,H a=some (.dT kvs)/\y= .ref b/\H b=some (.tup (k.map kV))/\kvs.length<sizeLine/\H'=upd H a (.dT (putK kvs k v))
theorem DPut.t {H:Hp}{a b:Addr}{kvs:List (List Key×V)}{k:List Key}{v:V}(e:H a=some (.dT kvs))(eb:H b=some (.tup (k.map kV)))(hl:kvs.length<sizeLine):
  DPut H a (.ref b) v (upd H a (.dT (putK kvs k v))):=.inr ⟨kvs,k,b,e,rfl,eb,hl,rfl⟩
section
variable {X:Cx}{pins:List (Addr×Obj)}{σ:St}{H:Hp}{s:Shared}
theorem Inv.big (I:Inv X pins σ H s):sysModules<s.heap.objs.size:=by
 have h:mainGlobals<s.heap.objs.size:=(I.mod.glob.keeps I.bk).lt;exact Nat.lt_trans (by decide) h
end
theorem b0U {P:Program}{w:World}{H:Hp}(h:Heap)(hb:sysModules<h.objs.size):ObjOk P w H (h.push {cls:=.type "dict",data:=.dict #[]}) h.objs.size (.dK []):=
 ⟨qK _,qM.mpr (qA (zS hb)),[],.nil,_, #[],qB _ rfl,⟨rfl,rfl,rfl⟩,rfl,fun _ he=>by simp at he,Pairs.nil,List.nodup_nil⟩
def tDNewK:TE:=fun _ H Q=>∀p,H p=none->Q (.ref p) (upd H p (.dK []))
section
variable {X:Cx}{pos:Pos}
theorem a9V:PE X (.Dict [] [] pos) tDNewK:=fun pins s σ H Q I h=>
 wpAny_Dict_empty ⟨.ref s.heap.objs.size,_,I.laid (a:=s.heap.objs.size) (o:=.dK []) (t':=s.toks) (fun _ _ q=>zN _ q) (zI _) (b0U s.heap I.big),rfl,h _ (I.hok.fresh (zI _))⟩
end
end L2
set_option maxHeartbeats 1000000
namespace Z
open PySem PySem.Spec PyProof.Rows L2
theorem obs {α β:Type}{o:Option α}{k:α->Option β}{y:β}(h:o.bind k=some y):∃a,o=some a/\k a=some y:=Option.bind_eq_some_iff.mp h
theorem oms {α β:Type}{o:Option α}{k:α->β}{y:β}(h:o.map k=some y):∃a,o=some a/\k a=y:=Option.map_eq_some_iff.mp h
set_option genInjectivity true in
inductive D where
 | non|bl (b:Bool)|int (i:Int)|str (x:Str)|tup (xs:List D)|lst (xs:List D)|dT (ks:List (List Key)) (xs:List D)|dK (ks:List Key) (xs:List D)|exn (C:Addr)|fn (f:Addr)
set_option genInjectivity true in
inductive W where
 | v (d:D)|o (d:D)|l (d:D)|r (i:Nat)
abbrev Ev:=List (Option W)
abbrev Av:=Addr->Prop
def ExcAt (a C:Addr) (h:Heap):Prop:=∃o vs,h.get? a=some o/\o.cls= .ref C/\o.data= .fields vs
def Mu:HO->Prop
 | .lst _=>True
 | .dT _=>True
 | .dK _=>True
 | _=>False
abbrev Emp:Hp:=fun _=>none
mutual
def Den (K:PySem.W.Frag) (A:Av) (H:Hp):D->V->Prop
 | .non,v=>v= .non
 | .bl b,v=>v= .bl b
 | .int i,v=>v= .int i
 | .str x,v=>v= .str x
 | .tup xs,v=>∃a vs,v= .ref a/\SqT K H a vs/\DenL K A H xs vs
 | .lst xs,v=>∃a vs,v= .ref a/\((H a=some (.lst vs)/\¬A a)\/(∃o,H a=some (.frz o (.lst vs)))\/SqL K Emp a vs)/\DenL K A H xs vs
 | .dT ks xs,v=>∃a vs,v= .ref a/\(H a=some (.dT (ks.zip vs))/\¬A a)/\ks.length=xs.length/\DenL K A H xs vs
 | .dK ks xs,v=>∃a vs,v= .ref a/\(H a=some (.dK (ks.zip vs))/\¬A a)/\ks.length=xs.length/\DenL K A H xs vs
 | .exn C,v=>∃a,v= .ref a/\H a=some (.ext (ExcAt a C))
 | .fn f,v=>v= .ref f
def DenL (K:PySem.W.Frag) (A:Av) (H:Hp):List D->List V->Prop
 | [],vs=>vs=[]
 | d::ds,vs=>∃v r,vs=v::r/\Den K A H d v/\DenL K A H ds r
end
section
variable {K:PySem.W.Frag}{A A' M:Av}{H H':Hp}
structure Go (A A' M:Av) (H H':Hp):Prop where
 k:∀b o,H b=some o->¬M b->H' b=some o
 m:∀b,M b->A b/\∃u,H b=some u/\Mu u
 n:∀b,A' b->A b\/H b=none
theorem Go.not (g:Go A A' M H H'){b:Addr}{u:HO}(e:H b=some u)(n:¬Mu u):H' b=some u:=g.k b u e fun z=>by
 obtain⟨_,u',e',m⟩:=g.m b z;rw[e] at e';cases e';exact n m
theorem Go.lone (g:Go A A' M H H'){b:Addr}{u:HO}(h:H b=some u/\¬A b):H' b=some u/\¬A' b:=
 ⟨g.k b u h.1 fun z=>h.2 (g.m b z).1,fun z=>(g.n b z).elim h.2 fun z=>by rw[h.1] at z;cases z⟩
mutual
theorem C6 (g:Go A A' M H H'):∀(d:D) (v:V),Den K A H d v->Den K A' H' d v
 | .non,v,h=>by rw[Den] at h ⊢;exact h
 | .bl b,v,h=>by rw[Den] at h ⊢;exact h
 | .int i,v,h=>by rw[Den] at h ⊢;exact h
 | .str x,v,h=>by rw[Den] at h ⊢;exact h
 | .tup xs,v,h=>by
  rw[Den] at h ⊢;obtain⟨a,vs,e,q,l⟩:=h;refine⟨a,vs,e,?_,F2 g xs vs l⟩;rcases q with (q|⟨o,q⟩)|q
  ·exact .inl (.inl (g.not q id))
  ·exact .inl (.inr ⟨o,g.not q id⟩)
  ·exact .inr q
 | .lst xs,v,h=>by
  rw[Den] at h ⊢;obtain⟨a,vs,e,q,l⟩:=h;refine⟨a,vs,e,?_,F2 g xs vs l⟩;rcases q with q|⟨o,q⟩|q
  ·exact .inl (g.lone q)
  ·exact .inr (.inl ⟨o,g.not q id⟩)
  ·exact .inr (.inr q)
 | .dT ks xs,v,h=>by
  rw[Den] at h ⊢;obtain⟨a,vs,e,q,hl,l⟩:=h;exact⟨a,vs,e,g.lone q,hl,F2 g xs vs l⟩
 | .dK ks xs,v,h=>by
  rw[Den] at h ⊢;obtain⟨a,vs,e,q,hl,l⟩:=h;exact⟨a,vs,e,g.lone q,hl,F2 g xs vs l⟩
 | .exn C,v,h=>by
  rw[Den] at h ⊢;obtain⟨a,e,q⟩:=h;exact⟨a,e,g.not q id⟩
 | .fn _,v,h=>by rw[Den] at h ⊢;exact h
theorem F2 (g:Go A A' M H H'):∀(ds:List D) (vs:List V),DenL K A H ds vs->DenL K A' H' ds vs
 | [],vs,h=>by rw[DenL] at h ⊢;exact h
 | d::ds,vs,h=>by
  rw[DenL] at h ⊢;obtain⟨v,r,e,q,l⟩:=h;exact⟨v,r,e,C6 g d v q,F2 g ds r l⟩
end
theorem a5O (s:Same H H'):Go A A (fun _=>False) H H':=⟨fun b o e _=>s b o e,fun _ z=>z.elim,fun _ z=>.inl z⟩
theorem L5 (h:∀b,A' b->A b):Go A A' (fun _=>False) H H:=⟨fun _ _ e _=>e,fun _ z=>z.elim,fun b z=>.inl (h b z)⟩
theorem a2w (s:Same H H'){d:D}{v:V}(h:Den K A H d v):Den K A H' d v:=C6 (a5O s) d v h
theorem a9k (s:Same H H'){d:List D}{v:List V}(h:DenL K A H d v):DenL K A H' d v:=F2 (a5O s) d v h
theorem z9 {d:D}{ds:List D}{v:V}{vs:List V}(h:Den K A H d v)(t:DenL K A H ds vs):DenL K A H (d::ds) (v::vs):=by rw[DenL];exact⟨v,vs,rfl,h,t⟩
theorem A8:DenL K A H [] []:=by rw[DenL]
theorem M7:∀{ds es:List D} {vs ws:List V},DenL K A H ds vs->DenL K A H es ws->DenL K A H (ds++es) (vs++ws)
 | [],_,_,_,h,t=>by rw[DenL] at h;subst h;exact t
 | d::ds,_,_,_,h,t=>by
  rw[DenL] at h;obtain⟨v,r,rfl,q,l⟩:=h;exact z9 q (M7 l t)
theorem g8:∀{ds:List D} {vs:List V},DenL K A H ds vs->ds.length=vs.length
 | [],_,h=>by rw[DenL] at h;subst h;rfl
 | d::ds,_,h=>by
  rw[DenL] at h;obtain⟨v,r,rfl,q,l⟩:=h;rw[zU,zU,g8 l]
theorem L3:∀{ds:List D} {vs:List V} {i:Nat} {d:D},DenL K A H ds vs->ds[i]? =some d->∃v,vs[i]? =some v/\Den K A H d v
 | [],_,_,_,_,e=>by simp at e
 | d::ds,_,0,_,h,e=>by
  rw[DenL] at h;obtain⟨v,r,rfl,q,l⟩:=h;simp at e;subst e;exact⟨v,rfl,q⟩
 | d::ds,_,i+1,x,h,e=>by
  rw[DenL] at h;obtain⟨v,r,rfl,q,l⟩:=h;obtain⟨u,h1,h2⟩:=L3 (i:=i) (d:=x) l (by simpa using e)
  exact⟨u,by simpa using h1,h2⟩
theorem a6L {d:D}{v:V}(hd:Den K A H d v):∀{ds:List D} {vs:List V} (i:Nat),DenL K A H ds vs->DenL K A H (ds.set i d) (vs.set i v)
 | [],_,_,h=>by rw[DenL] at h;subst h;exact A8
 | _::_,_,0,h=>by
  rw[DenL] at h;obtain⟨v,r,rfl,q,l⟩:=h;exact z9 hd l
 | _::_,_,i+1,h=>by
  rw[DenL] at h;obtain⟨v,r,rfl,q,l⟩:=h;exact z9 q (a6L hd i l)
theorem a4X:∀{ds:List D} {vs:List V} (n:Nat),DenL K A H ds vs->DenL K A H (ds.take n) (vs.take n)
 | [],_,n,h=>by rw[DenL] at h;subst h;simp;exact A8
 | d::ds,_,0,h=>by simp;exact A8
 | d::ds,_,n+1,h=>by
  rw[DenL] at h;obtain⟨v,r,rfl,q,l⟩:=h;exact z9 q (a4X n l)
theorem a5s:∀{ds:List D} {vs:List V} (n:Nat),DenL K A H ds vs->DenL K A H (ds.drop n) (vs.drop n)
 | [],_,n,h=>by rw[DenL] at h;subst h;simp;exact A8
 | d::ds,_,0,h=>h
 | d::ds,_,n+1,h=>by
  rw[DenL] at h;obtain⟨v,r,rfl,q,l⟩:=h;exact a5s n l
theorem W5 {i:Int}{v:V}:Den K A H (.int i) v↔v= .int i:=by rw[Den]
theorem a2E {i:Bool}{v:V}:Den K A H (.bl i) v↔v= .bl i:=by rw[Den]
theorem a7R {v:V}:Den K A H .non v↔v= .non:=by rw[Den]
theorem V8 {i:Str}{v:V}:Den K A H (.str i) v↔v= .str i:=by rw[Den]
theorem denL1 {d:D}{vs:List V}(l:DenL K A H [d] vs):∃v,vs=[v]/\Den K A H d v:=by
 rw[DenL] at l;obtain⟨v,r,rfl,h,l⟩:=l;rw[DenL] at l;subst l;exact⟨v,rfl,h⟩
theorem denL2 {d e:D}{vs:List V}(l:DenL K A H [d,e] vs):∃v u,vs=[v,u]/\Den K A H d v/\Den K A H e u:=by
 rw[DenL] at l;obtain⟨v,r,rfl,h,l⟩:=l;obtain⟨u,rfl,h'⟩:=denL1 l;exact⟨v,u,rfl,h,h'⟩
end
mutual
def lf:D->Bool
 | .tup xs=>lfL xs
 | .lst _=>false
 | .dT _ _=>false
 | .dK _ _=>false
 | _=>true
def lfL:List D->Bool
 | []=>true
 | d::ds=>lf d&&lfL ds
end
section
variable {K:PySem.W.Frag}{A A':Av}{H H':Hp}
mutual
theorem a90 (g:∀b o,H b=some o->¬Mu o->H' b=some o):∀(d:D) (v:V),lf d=true->Den K A H d v->Den K A' H' d v
 | .non,v,_,h=>by rw[Den] at h ⊢;exact h
 | .bl b,v,_,h=>by rw[Den] at h ⊢;exact h
 | .int i,v,_,h=>by rw[Den] at h ⊢;exact h
 | .str x,v,_,h=>by rw[Den] at h ⊢;exact h
 | .tup xs,v,f,h=>by
  rw[Den] at h ⊢;obtain⟨a,vs,e,q,l⟩:=h;refine⟨a,vs,e,?_,a2d g xs vs (by rw[lf] at f;exact f) l⟩
  rcases q with (q|⟨o,q⟩)|q
  ·exact .inl (.inl (g _ _ q id))
  ·exact .inl (.inr ⟨o,g _ _ q id⟩)
  ·exact .inr q
 | .lst xs,v,f,h=>by rw[lf] at f;cases f
 | .dT _ xs,v,f,h=>by rw[lf] at f;cases f
 | .dK _ xs,v,f,h=>by rw[lf] at f;cases f
 | .exn _,v,_,h=>by rw[Den] at h ⊢;obtain⟨a,e,q⟩:=h;exact⟨a,e,g _ _ q id⟩
 | .fn _,v,_,h=>by rw[Den] at h ⊢;exact h
theorem a2d (g:∀b o,H b=some o->¬Mu o->H' b=some o):∀(d:List D) (v:List V),lfL d=true->DenL K A H d v->DenL K A' H' d v
 | [],v,_,h=>by rw[DenL] at h ⊢;exact h
 | d::ds,v,f,h=>by
  rw[lfL,qF] at f;rw[DenL] at h ⊢;obtain⟨u,r,e,q,l⟩:=h;exact⟨u,r,e,a90 g d u f.1 q,a2d g ds r f.2 l⟩
end
end
def Obj (K:PySem.W.Frag) (A:Av) (H:Hp) (a:Addr):D->Prop
 | .lst xs=>∃vs,H a=some (.lst vs)/\DenL K A H xs vs
 | .dT ks xs=>∃vs,H a=some (.dT (ks.zip vs))/\ks.length=xs.length/\DenL K A H xs vs
 | .dK ks xs=>∃vs,H a=some (.dK (ks.zip vs))/\ks.length=xs.length/\DenL K A H xs vs
 | _=>False
def DenR (K:PySem.W.Frag) (A:Av) (H:Hp):D->V->Prop
 | .lst xs,v=>∃a vs,v= .ref a/\SqL K H a vs/\DenL K A H xs vs
 | .dT ks xs,v=>∃a vs,v= .ref a/\H a=some (.dT (ks.zip vs))/\ks.length=xs.length/\DenL K A H xs vs
 | .dK ks xs,v=>∃a vs,v= .ref a/\H a=some (.dK (ks.zip vs))/\ks.length=xs.length/\DenL K A H xs vs
 | d,v=>Den K A H d v
section
variable {K:PySem.W.Frag}{A A' M:Av}{H H':Hp}{d:D}{v:V}{a:Addr}
theorem M0 (g:Go A A' M H H')(hk:H' a=H a)(h:Obj K A H a d):Obj K A' H' a d:=by
 cases d with
 | lst xs=>obtain⟨vs,e,l⟩:=h;exact⟨vs,hk.trans e,F2 g _ _ l⟩
 | dT ks xs=>obtain⟨vs,e,hl,l⟩:=h;exact⟨vs,hk.trans e,hl,F2 g _ _ l⟩
 | dK ks xs=>obtain⟨vs,e,hl,l⟩:=h;exact⟨vs,hk.trans e,hl,F2 g _ _ l⟩
 | _=>exact h
theorem Z5 (h:Obj K A H a d):∃u,H a=some u/\Mu u:=by
 cases d with
 | lst xs=>obtain⟨vs,e,l⟩:=h;exact⟨_,e,trivial⟩
 | dT ks xs=>obtain⟨vs,e,hl,l⟩:=h;exact⟨_,e,trivial⟩
 | dK ks xs=>obtain⟨vs,e,hl,l⟩:=h;exact⟨_,e,trivial⟩
 | _=>exact h.elim
theorem a2k (h:Obj K A H a d)(n:¬A a):Den K A H d (.ref a):=by
 cases d with
 | lst xs=>obtain⟨vs,e,l⟩:=h;rw[Den];exact⟨a,vs,rfl,.inl ⟨e,n⟩,l⟩
 | dT ks xs=>obtain⟨vs,e,hl,l⟩:=h;rw[Den];exact⟨a,vs,rfl,⟨e,n⟩,hl,l⟩
 | dK ks xs=>obtain⟨vs,e,hl,l⟩:=h;rw[Den];exact⟨a,vs,rfl,⟨e,n⟩,hl,l⟩
 | _=>exact h.elim
theorem obj_r (h:Obj K A H a d):DenR K A H d (.ref a):=by
 cases d with
 | lst xs=>obtain⟨vs,e,l⟩:=h;exact⟨a,vs,rfl,.inl (.inl e),l⟩
 | dT ks xs=>obtain⟨vs,e,hl,l⟩:=h;exact⟨a,vs,rfl,e,hl,l⟩
 | dK ks xs=>obtain⟨vs,e,hl,l⟩:=h;exact⟨a,vs,rfl,e,hl,l⟩
 | _=>exact h.elim
theorem Y8 (h:Den K A H d v):DenR K A H d v:=by
 cases d with
 | lst xs=>
  rw[Den] at h;obtain⟨a,vs,e,q,l⟩:=h;refine⟨a,vs,e,?_,l⟩;rcases q with q|⟨o,q⟩|(q|⟨o,q⟩)|q
  ·exact .inl (.inl q.1)
  ·exact .inl (.inr ⟨o,q⟩)
  ·cases q
  ·cases q
  ·exact .inr q
 | dT ks xs=>rw[Den] at h;obtain⟨a,vs,e,q,l⟩:=h;exact⟨a,vs,e,q.1,l⟩
 | dK ks xs=>rw[Den] at h;obtain⟨a,vs,e,q,l⟩:=h;exact⟨a,vs,e,q.1,l⟩
 | _=>exact h
end
def W.own:W->Option D
 | .o d=>some d
 | .l d=>some d
 | _=>none
def Ow (ρ:Ev) (σ:L2.St):Av:=fun b=>∃(i:Nat) (w:W) (d:D),ρ[i]? =some (some w)/\w.own=some d/\σ[i]? =some (some (V.ref b))
abbrev AvO (O:Av) (ρ:Ev) (σ:L2.St):Av:=fun b=>O b\/Ow ρ σ b
def SlotOk (K:PySem.W.Frag) (A:Av) (H:Hp):W->V->Prop
 | .v d,v=>Den K A H d v
 | .o d,v=>∃a,v= .ref a/\Obj K A H a d
 | .l d,v=>∃a,v= .ref a/\Obj K A H a d
 | .r _,_=>False
def hz (X:Cx) (L:List (Option Nat×Addr)):Hp:=fun b=>if(none,b)∈L then none else X.H₀ b
structure Rep (X:Cx) (P:List (D×V)) (O:Av) (L:List (Option Nat×Addr)) (ρ:Ev) (σ:L2.St) (H:Hp):Prop where
 same:∀b o,X.H₀ b=some o->(∀i,(i,b)∉L)->H b=some o
 amb:∀b,O b->(∃o,X.H₀ b=some o)/\∀i,(i,b)∉L
 len:ρ.length=σ.length
 slot:∀(i:Nat) (w:W),ρ[i]? =some (some w)->∃v,σ[i]? =some (some v)/\SlotOk X.K (AvO O ρ σ) H w v
 inj:∀(i j:Nat) (w w':W) (d d':D) (b:Addr),ρ[i]? =some (some w)->w.own=some d->σ[i]? =some (some (.ref b))->ρ[j]? =some (some w')->w'.own=some d'->σ[j]? =some (some (.ref b))->i=j
 new:∀(i:Nat) (d:D) (b:Addr),ρ[i]? =some (some (.o d))->σ[i]? =some (some (.ref b))->hz X L b=none
 lnt:∀(i:Nat) (d:D),ρ[i]? =some (some (.l d))->∃b,σ[i]? =some (some (.ref b))/\(some i,b)∈L
 lnd:∀(i:Nat) (b:Addr),(some i,b)∈L->∃d,ρ[i]? =some (some (.l d))/\σ[i]? =some (some (.ref b))
 prot:∀p∈P,Den X.K (AvO O ρ σ) H p.1 p.2
 gvl:∀b,(none,b)∈L->∃(i:Nat) (a:Addr),(some i,a)∈L
section
variable {X:Cx}{P:List (D×V)}{O:Av}{L:List (Option Nat×Addr)}{ρ:Ev}{σ:L2.St}{H H':Hp}
theorem a7d {K:PySem.W.Frag}{A:Av}{H:Hp}{w:W}{d:D}{v:V}(h:SlotOk K A H w v)(e:w.own=some d):∃a,v= .ref a/\Obj K A H a d:=by
 cases w<;>simp only[W.own] at e<;>first|(cases e;exact h)|cases e
theorem Rep.obj (r:Rep X P O L ρ σ H){i:Nat}{w:W}{d:D}(e:ρ[i]? =some (some w))(ew:w.own=some d):∃a,σ[i]? =some (some (.ref a))/\Obj X.K (AvO O ρ σ) H a d:=by
 obtain⟨v,h1,h2⟩:=r.slot i w e;obtain⟨a,rfl,h3⟩:=a7d h2 ew;exact⟨a,h1,h3⟩
theorem Rep.owMu (r:Rep X P O L ρ σ H){b:Addr}(z:Ow ρ σ b):∃u,H b=some u/\Mu u:=by
 obtain⟨i,w,d,e1,e2,e3⟩:=z;obtain⟨a,h1,h2⟩:=r.obj e1 e2;rw[e3] at h1;cases h1;exact Z5 h2
theorem Rep.ambN (r:Rep X P O L ρ σ H){b:Addr}(z:O b):¬Ow ρ σ b:=fun⟨i,w,d,e1,e2,e3⟩=>by
 obtain⟨⟨o,h0⟩,hl⟩:=r.amb b z;cases w with
 | o d'=>have:=r.new i d' b e1 e3;unfold hz at this;rw[if_neg (hl none),h0] at this;cases this
 | l d'=>obtain⟨c,h1,h2⟩:=r.lnt i d' e1;rw[e3] at h1;cases h1;exact hl (some i) h2
 | _=>cases e2
theorem Rep.there (r:Rep X P O L ρ σ H){b:Addr}(z:AvO O ρ σ b):∃o,H b=some o:=by
 rcases z with z|z
 ·obtain⟨⟨o,h0⟩,hl⟩:=r.amb b z;exact⟨o,r.same b o h0 hl⟩
 ·obtain⟨u,e,_⟩:=r.owMu z;exact⟨u,e⟩
theorem Rep.fresh (r:Rep X P O L ρ σ H){b:Addr}(n:H b=none):¬AvO O ρ σ b:=fun z=>by obtain⟨o,e⟩:=r.there z;rw[n] at e;cases e
theorem Rep.fresh0 (r:Rep X P O L ρ σ H){b:Addr}(n:H b=none):hz X L b=none:=by
 unfold hz
 split
 ·rfl
 ·rename_i hg;cases q:X.H₀ b with
  | none=>rfl
  | some o=>
   have:H b=some o:=r.same b o q fun i e=>by
    cases i with
    | none=>exact hg e
    | some i=>
     obtain⟨d,h1,h2⟩:=r.lnd i b e;obtain⟨a,h3,h4⟩:=r.obj h1 rfl;rw[h2] at h3;cases h3;obtain⟨u,e,_⟩:=Z5 h4;rw[n] at e;cases e
   rw[n] at this;cases this
theorem T4 {K:PySem.W.Frag}{A A' M:Av}{H H':Hp}(g:Go A A' M H H'){w:W}{v:V}(hk:∀a d,w.own=some d->v= .ref a->H' a=H a)(h:SlotOk K A H w v):SlotOk K A' H' w v:=by
 cases w with
 | v d=>exact C6 g _ _ h
 | o d=>obtain⟨a,e,q⟩:=h;exact⟨a,e,M0 g (hk a d rfl e) q⟩
 | l d=>obtain⟨a,e,q⟩:=h;exact⟨a,e,M0 g (hk a d rfl e) q⟩
 | r i=>exact h
theorem Rep.grow (r:Rep X P O L ρ σ H)(s:Same H H'):Rep X P O L ρ σ H' where
 same:=fun b o e hl=>s b o (r.same b o e hl)
 amb:=r.amb
 len:=r.len
 slot:=fun i w e=>by
  obtain⟨v,h1,h2⟩:=r.slot i w e;refine⟨v,h1,T4 (a5O s) (fun a d ew ev=>?_) h2⟩;subst ev;obtain⟨b,h3,h4⟩:=r.obj e ew;rw[h1] at h3;cases h3;obtain⟨u,eu,_⟩:=Z5 h4;rw[eu,s _ _ eu]
 inj:=r.inj
 new:=r.new
 lnt:=r.lnt
 lnd:=r.lnd
 prot:=fun p hp=>a2w s (r.prot p hp)
 gvl:=r.gvl
theorem Rep.more {p:D×V}(r:Rep X P O L ρ σ H)(h:Den X.K (AvO O ρ σ) H p.1 p.2):Rep X (p::P) O L ρ σ H:=
 ⟨r.same,r.amb,r.len,r.slot,r.inj,r.new,r.lnt,r.lnd,fun q hq=>(zT.mp hq).elim (fun e=>by rw[e];exact h) (r.prot q),r.gvl⟩
theorem Rep.less {p:D×V}(r:Rep X (p::P) O L ρ σ H):Rep X P O L ρ σ H:=
 ⟨r.same,r.amb,r.len,r.slot,r.inj,r.new,r.lnt,r.lnd,fun q hq=>r.prot q (zH _ hq),r.gvl⟩
theorem Rep.head {p:D×V}(r:Rep X (p::P) O L ρ σ H):Den X.K (AvO O ρ σ) H p.1 p.2:=r.prot p zG
theorem B3 {α:Type}{l:List α}{i j:Nat}{x y:α}(e:(l.set i x)[j]? =some y):(j=i/\y=x/\i<l.length)\/(j≠i/\l[j]? =some y):=by
 by_cases q:i=j
 ·subst q;rw[getElem?_set,if_pos rfl] at e;split at e
  ·cases e;rename_i h;exact .inl ⟨rfl,rfl,h⟩
  ·cases e
 ·rw[zL q] at e;exact .inr ⟨qA q,e⟩
theorem E7 {α:Type}{l:List α}{i:Nat}{x:α}(h:i<l.length):(l.set i x)[i]? =some x:=by rw[getElem?_set,if_pos rfl,if_pos h]
def freeSlot (ρ:Ev) (i:Nat):Bool:=match ρ[i]? with
 | some (some (.l _))=>false
 | _=>true
theorem Rep.put (r:Rep X P O L ρ σ H){i:Nat}{d:D}{v:V}(hf:freeSlot ρ i=true)(h:Den X.K (AvO O ρ σ) H d v):Rep X P O L (ρ.set i (some (.v d))) (σ.set i (some v)) H:=by
 have sub:∀b,AvO O (ρ.set i (some (.v d))) (σ.set i (some v)) b->AvO O ρ σ b:=fun b z=>by
  rcases z with z|⟨j,w,c,e1,e2,e3⟩
  ·exact .inl z
  ·rcases B3 e1 with ⟨rfl,z,_⟩|⟨n,e1⟩
   ·cases z;cases e2
   ·rw[zL (qA n)] at e3;exact .inr ⟨j,w,c,e1,e2,e3⟩
 have g:=L5 (H:=H) sub;have st:∀{j:Nat} {w:W} {c:D},(ρ.set i (some (.v d)))[j]? =some (some w)->w.own=some c->j≠i/\ρ[j]? =some (some w):=fun{j w c} e1 e2=>by
  rcases B3 e1 with ⟨rfl,z,_⟩|z
  ·cases z;cases e2
  ·exact z
 refine⟨r.same,r.amb,by rw[jM,jM];exact r.len,fun j w e=>?_,fun j k w w' c c' b e1 e2 e3 e4 e5 e6=>?_,fun j c b e1 e2=>?_,fun j c e=>?_,fun j b e=>?_,fun p hp=>C6 g _ _ (r.prot p hp),r.gvl⟩
 ·rcases B3 e with ⟨rfl,z,hl⟩|⟨n,e⟩
  ·cases z;exact⟨v,E7 (by rw[<-r.len];exact hl),C6 g _ _ h⟩
  ·obtain⟨u,h1,h2⟩:=r.slot j w e;exact⟨u,by rw[zL (qA n)];exact h1,T4 g (fun _ _ _ _=>rfl) h2⟩
 ·obtain⟨n1,e1⟩:=st e1 e2;obtain⟨n2,e4⟩:=st e4 e5;rw[zL (qA n1)] at e3;rw[zL (qA n2)] at e6;exact r.inj j k w w' c c' b e1 e2 e3 e4 e5 e6
 ·obtain⟨n1,e1⟩:=st (c:=c) e1 rfl;rw[zL (qA n1)] at e2;exact r.new j c b e1 e2
 ·obtain⟨n1,e1⟩:=st (c:=c) e rfl;rw[zL (qA n1)];exact r.lnt j c e1
 ·obtain⟨c,h1,h2⟩:=r.lnd j b e;have n:i≠j:=fun z=>by subst z;unfold freeSlot at hf;rw[h1] at hf;cases hf
  exact⟨c,by rw[zL n];exact h1,by rw[zL n];exact h2⟩
theorem Rep.putO (r:Rep X P O L ρ σ H)(s:Same H H'){i:Nat}{d:D}{a:Addr}(hf:freeSlot ρ i=true)(hn:H a=none)(h:Obj X.K (fun b=>AvO O ρ σ b\/b=a) H' a d):Rep X P O L (ρ.set i (some (.o d))) (σ.set i (some (.ref a))) H':=by
 have nA:=r.fresh hn;have sub:∀b,AvO O (ρ.set i (some (.o d))) (σ.set i (some (.ref a))) b->AvO O ρ σ b\/b=a:=fun b z=>by
  rcases z with z|⟨j,w,c,e1,e2,e3⟩
  ·exact .inl (.inl z)
  ·rcases B3 e1 with ⟨rfl,z,hl⟩|⟨n,e1⟩
   ·rw[E7 (by rw[<-r.len];exact hl)] at e3;cases e3;exact .inr rfl
   ·rw[zL (qA n)] at e3;exact .inl (.inr ⟨j,w,c,e1,e2,e3⟩)
 have g:Go (AvO O ρ σ) (AvO O (ρ.set i (some (.o d))) (σ.set i (some (.ref a)))) (fun _=>False) H H':=⟨fun b o e _=>s b o e,fun _ z=>z.elim,fun b z=>(sub b z).imp id fun z=>by rw[z];exact hn⟩
 have old:∀{j:Nat} {w:W} {b:Addr},ρ[j]? =some (some w)->σ[j]? =some (some (.ref b))->w.own≠none->b≠a:=fun{j w b} e1 e2 e3 z=>by
  cases q:w.own with
  | none=>exact e3 q
  | some c=>exact nA (.inr ⟨j,w,c,e1,q,by rw[<-z];exact e2⟩)
 refine⟨fun b o e hl=>s b o (r.same b o e hl),r.amb,by rw[jM,jM];exact r.len,fun j w e=>?_,fun j k w w' c c' b e1 e2 e3 e4 e5 e6=>?_,fun j c b e1 e2=>?_,fun j c e=>?_,fun j b e=>?_,fun p hp=>C6 g _ _ (r.prot p hp),r.gvl⟩
 ·rcases B3 e with ⟨rfl,z,hl⟩|⟨n,e⟩
  ·cases z;exact⟨.ref a,E7 (by rw[<-r.len];exact hl),a,rfl,M0 (L5 sub) rfl h⟩
  ·obtain⟨u,h1,h2⟩:=r.slot j w e;refine⟨u,by rw[zL (qA n)];exact h1,T4 g (fun b c ec eb=>?_) h2⟩
   subst eb;obtain⟨o,eo,_⟩:=r.owMu ⟨j,w,c,e,ec,h1⟩;rw[eo,s _ _ eo]
 ·rcases B3 e1 with ⟨rfl,z,hl⟩|⟨n1,e1⟩
  ·rw[E7 (by rw[<-r.len];exact hl)] at e3;cases e3
   rcases B3 e4 with ⟨rfl,_,_⟩|⟨n2,e4⟩
   ·rfl
   ·rw[zL (qA n2)] at e6;exact absurd rfl (old e4 e6 (by rw[e5];exact nofun))
  ·rw[zL (qA n1)] at e3;have f1:=old e1 e3 (by rw[e2];exact nofun)
   rcases B3 e4 with ⟨rfl,_,hl⟩|⟨n2,e4⟩
   ·rw[E7 (by rw[<-r.len];exact hl)] at e6;cases e6
    exact absurd rfl f1
   ·rw[zL (qA n2)] at e6;exact r.inj j k w w' c c' b e1 e2 e3 e4 e5 e6
 ·rcases B3 e1 with ⟨rfl,z,hl⟩|⟨n1,e1⟩
  ·rw[E7 (by rw[<-r.len];exact hl)] at e2;cases e2;exact r.fresh0 hn
  ·rw[zL (qA n1)] at e2;exact r.new j c b e1 e2
 ·rcases B3 e with ⟨rfl,z,hl⟩|⟨n1,e⟩
  ·cases z
  ·rw[zL (qA n1)];exact r.lnt j c e
 ·obtain⟨c,h1,h2⟩:=r.lnd j b e;have n:i≠j:=fun z=>by subst z;unfold freeSlot at hf;rw[h1] at hf;cases hf
  exact⟨c,by rw[zL n];exact h1,by rw[zL n];exact h2⟩
def setOwn (ρ:Ev) (i:Nat) (d:D):Ev:=match ρ[i]? with
 | some (some (.l _))=>ρ.set i (some (.l d))
 | _=>ρ.set i (some (.o d))
def ownAt (ρ:Ev) (i:Nat):Option D:=match ρ[i]? with
 | some (some w)=>w.own
 | _=>none
theorem J7 {ρ:Ev}{i:Nat}{c:D}(e:ownAt ρ i=some c):∃w,ρ[i]? =some (some w)/\w.own=some c:=by
 unfold ownAt at e;split at e
 ·rename_i w q;exact⟨w,q,e⟩
 ·cases e
theorem a3O {ρ:Ev}{i:Nat}{c d:D}(e:ownAt ρ i=some c):∃w,w.own=some d/\setOwn ρ i d=ρ.set i (some w)/\((∃x,w= .l x)↔∃x,ρ[i]? =some (some (.l x))):=by
 obtain⟨w,q,e⟩:=J7 e;unfold setOwn;cases w with
 | v d=>cases e
 | r d=>cases e
 | o x=>rw[q];exact⟨.o d,rfl,rfl,by simp⟩
 | l x=>rw[q];exact⟨.l d,rfl,rfl,by simp⟩
theorem a2H {ρ:Ev}{σ:L2.St}{i:Nat}{c d:D}(e:ownAt ρ i=some c)(b:Addr):Ow (setOwn ρ i d) σ b↔Ow ρ σ b:=by
 obtain⟨w,h1,h2,_⟩:=a3O (d:=d) e;obtain⟨w0,q,e0⟩:=J7 e;rw[h2];constructor
 ·rintro⟨j,w',c',e1,e2,e3⟩;rcases B3 e1 with ⟨rfl,z,_⟩|⟨n,e1⟩
  ·exact⟨j,w0,c,q,e0,e3⟩
  ·exact⟨j,w',c',e1,e2,e3⟩
 ·rintro⟨j,w',c',e1,e2,e3⟩
  by_cases n:j=i
  ·subst n;exact⟨j,w,d,E7 (zM.mp q).1,h1,e3⟩
  ·exact⟨j,w',c',by rw[zL (qA n)];exact e1,e2,e3⟩
theorem Rep.mut (r:Rep X P O L ρ σ H){i:Nat}{a:Addr}{c d:D}(e:ownAt ρ i=some c)(ea:σ[i]? =some (some (.ref a)))(hk:∀b o,H b=some o->b≠a->H' b=some o)(h:Obj X.K (AvO O ρ σ) H' a d):
  Rep X P O L (setOwn ρ i d) σ H':=by
 obtain⟨w,h1,h2,h3⟩:=a3O (d:=d) e;obtain⟨w0,q,e0⟩:=J7 e;have av:AvO O (setOwn ρ i d) σ=AvO O ρ σ:=funext fun b=>propext (or_congr Iff.rfl (a2H e b));have ma:Ow ρ σ a:=⟨i,w0,c,q,e0,ea⟩;have g:Go (AvO O ρ σ) (AvO O ρ σ) (fun b=>b=a) H H':=⟨hk,fun b z=>by rw[z];exact⟨.inr ma,r.owMu ma⟩,fun b z=>.inl z⟩
 have st:∀{j:Nat} {w':W} {c':D},(setOwn ρ i d)[j]? =some (some w')->w'.own=some c'->∃w'' c'',ρ[j]? =some (some w'')/\w''.own=some c'':=fun{j w' c'} e1 e2=>by
  rw[h2] at e1;rcases B3 e1 with ⟨rfl,_,_⟩|⟨_,e1⟩
  ·exact⟨w0,c,q,e0⟩
  ·exact⟨w',c',e1,e2⟩
 refine⟨fun b o eb hl=>hk b o (r.same b o eb hl) fun z=>?_,r.amb,by rw[h2,jM];exact r.len,fun j w' e'=>?_,fun j k w1 w2 c1 c2 b e1 e2 e3 e4 e5 e6=>?_,fun j c' b e1 e2=>?_,fun j c' e'=>?_,fun j b e'=>?_,fun p hp=>by rw[av];exact C6 g _ _ (r.prot p hp),r.gvl⟩
 ·subst z;cases w0 with
  | o x=>have:=r.new i x b q ea;unfold hz at this;rw[if_neg (hl none),eb] at this;cases this
  | l x=>obtain⟨c',q1,q2⟩:=r.lnt i x q;rw[ea] at q1;cases q1;exact hl (some i) q2
  | _=>cases e0
 ·rw[av];rw[h2] at e';rcases B3 e' with ⟨rfl,z,_⟩|⟨n,e'⟩
  ·cases z;refine⟨.ref a,ea,?_⟩;cases w with
   | o x=>cases h1;exact⟨a,rfl,h⟩
   | l x=>cases h1;exact⟨a,rfl,h⟩
   | _=>cases h1
  ·obtain⟨u,q1,q2⟩:=r.slot j w' e';refine⟨u,q1,T4 g (fun b c' ec eb=>?_) q2⟩;subst eb;have nb:b≠a:=fun z=>n (r.inj j i w' w0 c' c a e' ec (by rw[<-z];exact q1) q e0 ea)
   obtain⟨o,eo,_⟩:=r.owMu ⟨j,w',c',e',ec,q1⟩;rw[eo,hk _ _ eo nb]
 ·obtain⟨u1,v1,q1,q2⟩:=st e1 e2;obtain⟨u2,v2,q3,q4⟩:=st e4 e5;exact r.inj j k u1 u2 v1 v2 b q1 q2 e3 q3 q4 e6
 ·rw[h2] at e1;rcases B3 e1 with ⟨rfl,z,_⟩|⟨n,e1⟩
  ·cases z;cases w0 with
   | o x=>exact r.new j x b q e2
   | l x=>exact absurd (h3.mpr ⟨x,q⟩) (by simp)
   | _=>cases e0
  ·exact r.new j c' b e1 e2
 ·rw[h2] at e';rcases B3 e' with ⟨rfl,z,_⟩|⟨n,e'⟩
  ·cases z;obtain⟨x,qx⟩:=h3.mp ⟨_,rfl⟩;exact r.lnt j x qx
  ·exact r.lnt j c' e'
 ·obtain⟨c',q1,q2⟩:=r.lnd j b e'
  by_cases n:j=i
  ·subst n;obtain⟨x,rfl⟩:=h3.mpr ⟨c',q1⟩;exact⟨x,by rw[h2];exact E7 (zM.mp q).1,q2⟩
  ·exact⟨c',by rw[h2,zL (qA n)];exact q1,q2⟩
def frzAt (ρ:Ev) (i:Nat):Option Ev:=match ρ[i]? with
 | some (some (.o d))=>some (ρ.set i (some (.v d)))
 | some (some (.v _))=>some ρ
 | _=>none
theorem Rep.frz (r:Rep X P O L ρ σ H){i:Nat}{ρ':Ev}(e:frzAt ρ i=some ρ'):Rep X P O L ρ' σ H/\∀(j:Nat) (w:W) (d:D),ρ'[j]? =some (some w)->w.own=some d->ρ[j]? =some (some w)/\j≠i:=by
 unfold frzAt at e;split at e
 ·rename_i d q;cases e;obtain⟨a,h1,h2⟩:=r.obj q rfl;have hl:i<σ.length:=by rw[<-r.len];exact(zM.mp q).1
  have es:σ.set i (some (.ref a))=σ:=by
   apply List.ext_getElem?;intro j
   by_cases z:i=j
   ·subst z;rw[E7 hl,h1]
   ·rw[zL z]
  have hw:¬AvO O (ρ.set i (some (.v d))) σ a:=fun z=>by
   rcases z with z|⟨j,w,c,e1,e2,e3⟩
   ·exact r.ambN z ⟨i,_,d,q,rfl,h1⟩
   ·rcases B3 e1 with ⟨rfl,z,_⟩|⟨n,e1⟩
    ·cases z;cases e2
    ·exact n (r.inj j i w (.o d) c d a e1 e2 e3 q rfl h1)
  have sub:∀b,AvO O (ρ.set i (some (.v d))) σ b->AvO O ρ σ b:=fun b z=>by
   rcases z with z|⟨j,w,c,e1,e2,e3⟩
   ·exact .inl z
   ·rcases B3 e1 with ⟨rfl,z,_⟩|⟨n,e1⟩
    ·cases z;cases e2
    ·exact .inr ⟨j,w,c,e1,e2,e3⟩
  have g:=L5 (H:=H) sub;refine⟨⟨r.same,r.amb,by rw[jM];exact r.len,fun j w e=>?_,fun j k w w' c c' b e1 e2 e3 e4 e5 e6=>?_,fun j c b e1 e2=>?_,fun j c e=>?_,fun j b e=>?_,fun p hp=>C6 g _ _ (r.prot p hp),r.gvl⟩,fun j w c e1 e2=>?_⟩
  ·rcases B3 e with ⟨rfl,z,_⟩|⟨n,e⟩
   ·cases z;exact⟨.ref a,h1,a2k (M0 g rfl h2) hw⟩
   ·obtain⟨u,q1,q2⟩:=r.slot j w e;exact⟨u,q1,T4 g (fun _ _ _ _=>rfl) q2⟩
  ·rcases B3 e1 with ⟨rfl,z,_⟩|⟨n1,e1⟩
   ·cases z;cases e2
   ·rcases B3 e4 with ⟨rfl,z,_⟩|⟨n2,e4⟩
    ·cases z;cases e5
    ·exact r.inj j k w w' c c' b e1 e2 e3 e4 e5 e6
  ·rcases B3 e1 with ⟨rfl,z,_⟩|⟨n1,e1⟩
   ·cases z
   ·exact r.new j c b e1 e2
  ·rcases B3 e with ⟨rfl,z,_⟩|⟨n1,e⟩
   ·cases z
   ·exact r.lnt j c e
  ·obtain⟨c,q1,q2⟩:=r.lnd j b e;have n:i≠j:=fun z=>by subst z;rw[q] at q1;cases q1
   exact⟨c,by rw[zL n];exact q1,q2⟩
  ·rcases B3 e1 with ⟨rfl,z,_⟩|⟨n,e1⟩
   ·cases z;cases e2
   ·exact⟨e1,n⟩
 ·rename_i d q;cases e;exact⟨r,fun j w c e1 e2=>⟨e1,fun z=>by subst z;rw[q] at e1;cases e1;cases e2⟩⟩
 ·cases e
end
abbrev FX:=Ev->Option (W×Ev)
abbrev FT:=Ev->Option (Bool×Ev)
abbrev FA:=Ev->Option (List W×Ev)
def DenW (K:PySem.W.Frag) (A:Av) (σ:L2.St) (H1 H':Hp):W->V->Prop
 | .v d,v=>Den K A H' d v
 | .o d,v=>∃a,v= .ref a/\H1 a=none/\Obj K (fun b=>A b\/b=a) H' a d
 | .r i,v=>σ[i]? =some (some v)
 | .l _,_=>False
def DenP (K:PySem.W.Frag) (A:Av) (σ:L2.St) (H:Hp):W->V->Prop
 | .v d,v=>Den K A H d v
 | .r i,v=>σ[i]? =some (some v)
 | _,_=>False
def DenA (K:PySem.W.Frag) (A:Av) (σ:L2.St) (H:Hp):List W->List V->Prop
 | [],vs=>vs=[]
 | w::ws,vs=>∃v r,vs=v::r/\DenP K A σ H w v/\DenA K A σ H ws r
def W.fz:W->W
 | .o d=>.v d
 | w=>w
def tX (X:Cx) (f:FX):TE:=fun σ H Q=>∃P O L ρ w ρ',Rep X P O L ρ σ H/\f ρ=some (w,ρ')/\∀v H1 H',Rep X P O L ρ' σ H1->Same H1 H'->DenW X.K (AvO O ρ' σ) σ H1 H' w v->Q v H'
def tT (X:Cx) (f:FT):TT:=fun σ H Q=>∃P O L ρ b ρ',Rep X P O L ρ σ H/\f ρ=some (b,ρ')/\∀H',Rep X P O L ρ' σ H'->Q b H'
def tA (X:Cx) (f:FA):TA:=fun σ H Q=>∃P O L ρ ws ρ',Rep X P O L ρ σ H/\f ρ=some (ws,ρ')/\∀vs H',Rep X P O L ρ' σ H'->DenA X.K (AvO O ρ' σ) σ H' ws vs->Q vs H'
theorem tXe {X:Cx}{f:FX}{σ:L2.St}{H:Hp}{Q:VK}{C:Prop}(h:tX X f σ H Q)(k:∀P O L ρ w ρ',Rep X P O L ρ σ H->f ρ=some (w,ρ')->(∀v H1 H',Rep X P O L ρ' σ H1->Same H1 H'->DenW X.K (AvO O ρ' σ) σ H1 H' w v->Q v H')->C):C:=by
 obtain⟨P,O,L,ρ,w,ρ',r,e,q⟩:=h;exact k P O L ρ w ρ' r e q
theorem tTe {X:Cx}{f:FT}{σ:L2.St}{H:Hp}{Q:Bool->Hp->Prop}{C:Prop}(h:tT X f σ H Q)(k:∀P O L ρ b ρ',Rep X P O L ρ σ H->f ρ=some (b,ρ')->(∀H',Rep X P O L ρ' σ H'->Q b H')->C):C:=by
 obtain⟨P,O,L,ρ,w,ρ',r,e,q⟩:=h;exact k P O L ρ w ρ' r e q
theorem tAe {X:Cx}{f:FA}{σ:L2.St}{H:Hp}{Q:List V->Hp->Prop}{C:Prop}(h:tA X f σ H Q)(k:∀P O L ρ ws ρ',Rep X P O L ρ σ H->f ρ=some (ws,ρ')->(∀vs H',Rep X P O L ρ' σ H'->DenA X.K (AvO O ρ' σ) σ H' ws vs->Q vs H')->C):C:=by
 obtain⟨P,O,L,ρ,w,ρ',r,e,q⟩:=h;exact k P O L ρ w ρ' r e q
structure QX (X:Cx) (e:Expr) (f:FX):Prop where
 to:PE X e (tX X f)
structure QT (X:Cx) (e:Expr) (f:FT):Prop where
 to:PT X e (tT X f)
structure QW (X:Cx) (e:Expr) (f:FT):Prop where
 to:PW X e (tT X f)
structure QA (X:Cx) (e:List Expr) (f:FA):Prop where
 to:PA X e (tA X f)
theorem PE.weak {X:Cx}{e:Expr}{t u:TE}(h:PE X e t)(w:∀σ H Q,u σ H Q->t σ H Q):PE X e u:=fun pins s σ H Q I q=>h pins s σ H Q I (w σ H Q q)
theorem PT.weak {X:Cx}{e:Expr}{t u:TT}(h:PT X e t)(w:∀σ H Q,u σ H Q->t σ H Q):PT X e u:=fun pins s σ H Q I q=>h pins s σ H Q I (w σ H Q q)
theorem PW.weak {X:Cx}{e:Expr}{t u:TT}(h:PW X e t)(w:∀σ H Q,u σ H Q->t σ H Q):PW X e u:=fun wh pins s σ H Q I q=>h wh pins s σ H Q I (w σ H Q q)
theorem PA.weak {X:Cx}{e:List Expr}{t u:TA}(h:PA X e t)(w:∀σ H Q,u σ H Q->t σ H Q):PA X e u:=fun pos pins s σ H Q I q=>h pos pins s σ H Q I (w σ H Q q)
def dr (ρ:Ev):W->Option D
 | .v d=>some d
 | .r i=>match ρ[i]? with
  | some (some (.v d))=>some d
  | some (some w)=>w.own
  | _=>none
 | _=>none
def drs (ρ:Ev):List W->Option (List D)
 | []=>some []
 | w::ws=>(dr ρ w).bind fun d=>(drs ρ ws).map fun ds=>d::ds
section
variable {X:Cx}{P:List (D×V)}{O:Av}{L:List (Option Nat×Addr)}{ρ:Ev}{σ:L2.St}{H H1 H':Hp}{w:W}{d:D}{v:V}
theorem DenW.fz (r:Rep X P O L ρ σ H1)(s:Same H1 H')(h:DenW X.K (AvO O ρ σ) σ H1 H' w v):DenP X.K (AvO O ρ σ) σ H' w.fz v:=by
 cases w with
 | v d=>exact h
 | o d=>
  obtain⟨a,rfl,n,ob⟩:=h;exact a2k (M0 (L5 fun b z=>.inl z) rfl ob) (r.fresh n)
 | r i=>exact h
 | l d=>exact h.elim
theorem DenP.same (s:Same H H'){A:Av}(h:DenP X.K A σ H w v):DenP X.K A σ H' w v:=by
 cases w with
 | v d=>exact a2w s h
 | r i=>exact h
 | _=>exact h.elim
theorem hold (r:Rep X P O L ρ σ H)(h:DenP X.K (AvO O ρ σ) σ H w v):∃P',Rep X P' O L ρ σ H/\∀ρ2 H2,Rep X P' O L ρ2 σ H2->Rep X P O L ρ2 σ H2/\DenP X.K (AvO O ρ2 σ) σ H2 w v:=by
 cases w with
 | v d=>exact⟨(d,v)::P,r.more h,fun ρ2 H2 r2=>⟨r2.less,r2.head⟩⟩
 | r i=>exact⟨P,r,fun ρ2 H2 r2=>⟨r2,h⟩⟩
 | _=>exact h.elim
theorem P7 (r:Rep X P O L ρ σ H)(e:dr ρ w=some d)(h:DenP X.K (AvO O ρ σ) σ H w v):DenR X.K (AvO O ρ σ) H d v:=by
 cases w with
 | v c=>cases e;exact Y8 h
 | r i=>
  rw[dr] at e;have h:σ[i]? =some (some v):=h;cases q:ρ[i]? with
  | none=>rw[q] at e;cases e
  | some o=>
   rw[q] at e;cases o with
   | none=>cases e
   | some w'=>
    cases w' with
    | v c=>
     cases e;obtain⟨u,h1,h2⟩:=r.slot i _ q;rw[h1] at h;cases h;exact Y8 h2
    | _=>
     obtain⟨a,h1,h2⟩:=r.obj q e;rw[h1] at h;cases h;exact obj_r h2
 | _=>cases e
def DenRL (K:PySem.W.Frag) (A:Av) (H:Hp):List D->List V->Prop
 | [],vs=>vs=[]
 | d::ds,vs=>∃v r,vs=v::r/\DenR K A H d v/\DenRL K A H ds r
theorem a58 (r:Rep X P O L ρ σ H):∀{ws:List W} {ds:List D} {vs:List V},drs ρ ws=some ds->DenA X.K (AvO O ρ σ) σ H ws vs->DenRL X.K (AvO O ρ σ) H ds vs
 | [],ds,vs,e,h=>by cases e;exact h
 | w::ws,ds,vs,e,h=>by
  obtain⟨v,rs,rfl,h1,h2⟩:=h;rw[drs] at e;cases e1:dr ρ w with
  | none=>rw[e1] at e;cases e
  | some d=>
   cases e2:drs ρ ws with
   | none=>rw[e1,e2] at e;cases e
   | some dd=>
    rw[e1,e2] at e;cases e;exact⟨v,rs,rfl,P7 r e1 h1,a58 r e2 h2⟩
end
section
variable {K:PySem.W.Frag}{A:Av}{σ:L2.St}{H H':Hp}
theorem K9 {i:Int}:DenW K A σ H H' (.v (.int i)) (.int i):=by show Den _ _ _ _ _;rw[Den]
theorem C5 {i:Bool}:DenW K A σ H H' (.v (.bl i)) (.bl i):=by show Den _ _ _ _ _;rw[Den]
theorem N5 {i:Str}:DenW K A σ H H' (.v (.str i)) (.str i):=by show Den _ _ _ _ _;rw[Den]
theorem a6G:DenW K A σ H H' (.v .non) .non:=by show Den _ _ _ _ _;rw[Den]
end
def fVar (i:Nat):FX:=fun ρ=>match ρ[i]? with
 | some (some (.v d))=>some (.v d,ρ)
 | some (some (.r _))=>none
 | some (some _)=>some (.r i,ρ)
 | _=>none
def fC (d:D):FX:=fun ρ=>some (.v d,ρ)
section
variable {X:Cx}{a b e:Expr}{pos:Pos}{f g h:FX}{t u:FT}
theorem a7 (i:Nat){x:Str}(hN:X.N[i]? =some x:=by rfl)(hv:Vis X.env.scope x:=by first|exact Or.inl rfl|exact Or.inr (Or.inl rfl)|exact Or.inr (Or.inr rfl))(hd:(x==("__debug__":Str))=false:=by decide)(hcd:(x==("__classdict__":Str))=false:=by decide):QX X (.Name x pos) (fVar i):=by
 refine⟨PE.weak (a91 hN hv hd hcd) fun σ H Q h0=>tXe h0 fun P O L ρ w ρ' r e q=>?_⟩;unfold fVar at e;split at e
 ·rename_i d0 e0;cases e;obtain⟨v,h1,h2⟩:=r.slot i _ e0;exact⟨v,h1,q v H H r (Same.refl H) h2⟩
 ·cases e
 ·rename_i w' _ _ e0;cases e;obtain⟨v,h1,h2⟩:=r.slot i _ e0;exact⟨v,h1,q v H H r (Same.refl H) h1⟩
 ·cases e
theorem a3l {d:D}{v:V}(hd:∀A H,Den X.K A H d v):∀σ H Q,tX X (fC d) σ H Q->tC v σ H Q:=fun σ H Q h0=>tXe h0 fun P O L ρ w ρ' r e q=>by cases e;exact q v H H r (Same.refl H) (hd _ H)
theorem c6 {i:Int}{j:Nat}:QX X (.Constant (.int i) j pos) (fC (.int i)):=⟨PE.weak b3m (a3l fun A H=>W5.mpr rfl)⟩
theorem a1r {i:Bool}{j:Nat}:QX X (.Constant (.bool i) j pos) (fC (.bl i)):=⟨PE.weak pe_bl (a3l fun A H=>a2E.mpr rfl)⟩
theorem u7 {j:Nat}:QX X (.Constant .none j pos) (fC .non):=⟨PE.weak b3U (a3l fun A H=>a7R.mpr rfl)⟩
theorem j4 {i:Str}{j:Nat}:QX X (.Constant (.str i) j pos) (fC (.str i)):=⟨PE.weak b3M (a3l fun A H=>V8.mpr rfl)⟩
def fBin (op:D->D->Option W) (f g:FX):FX:=fun ρ=>(f ρ).bind fun p=>(g p.2).bind fun q=>(dr q.2 p.1.fz).bind fun x=>(dr q.2 q.1.fz).bind fun y=>(op x y).map fun w=>(w,q.2)
def Pr2 (X:Cx) (op:D->D->Option W) (r:R2):Prop:=∀(A:Av) (x y:D) (w:W) (v u:V) (H:Hp) (Q:VK),(∀b,A b->∃o,H b=some o)->op x y=some w->DenR X.K A H x v->DenR X.K A H y u->(∀z H',Same H H'->DenW X.K A [] H H' w z->Q z H')->r v u H Q
theorem DenW.st {K:PySem.W.Frag}{A:Av}{σ:L2.St}{H1 H':Hp}{w:W}{v:V}(h:DenW K A [] H1 H' w v):DenW K A σ H1 H' w v:=by
 cases w with
 | r i=>exact absurd h (by simp[DenW])
 | _=>exact h
theorem a2q {r:R2}{op:D->D->Option W}(k:Pr2 X op r):∀σ H Q,tX X (fBin op f g) σ H Q->tOp r (tX X f) (tX X g) σ H Q:=fun σ H Q h0=>tXe h0 fun P O L ρ w ρ' r e q=>by
 unfold fBin at e;obtain⟨⟨w1,ρ1⟩,e1,e⟩:=obs e;dsimp only at e;refine⟨P,O,L,ρ,w1,ρ1,r,e1,fun v H1 H1' r1 s1 d1=>?_⟩;obtain⟨P',r1',k1⟩:=hold (r1.grow s1) (d1.fz r1 s1);obtain⟨⟨w2,ρ2⟩,e2,e⟩:=obs e;dsimp only at e;refine⟨P',O,L,ρ1,w2,ρ2,r1',e2,fun u H2 H2' r2 s2 d2=>?_⟩;have d2':=d2.fz r2 s2;obtain⟨r3,d1'⟩:=k1 ρ2 H2' (r2.grow s2);cases e3:dr ρ2 w1.fz with
 | none=>rw[e3] at e;cases e
 | some x=>
  cases e4:dr ρ2 w2.fz with
  | none=>rw[e3,e4] at e;cases e
  | some y=>
   rw[e3,e4] at e;simp only[bind_some] at e;cases e5:op x y with
   | none=>rw[e5] at e;cases e
   | some w'=>
    rw[e5] at e;cases e;exact k _ x y w v u H2' Q (fun b z=>r3.there z) e5 (P7 r3 e3 d1') (P7 r3 e4 d2') fun z H' s d=>q z H2' H' r3 s d.st
theorem a0C {op:Operator}{r:R2}{o:D->D->Option W}(ho:OpR X (binaryOp op) r)(k:Pr2 X o r)(ha:QX X a f)(hb:QX X b g):QX X (.BinOp a op b pos) (fBin o f g):=⟨PE.weak (pe_op ho ha.to hb.to) (a2q k)⟩
theorem a2L {op:CmpOp}{r:R2}{o:D->D->Option W}(ho:OpR X (compareOp op) r)(k:Pr2 X o r)(ha:QX X a f)(hb:QX X b g)(hm:behindInMarks op b=false:=by first|exact nomark _|rfl):QX X (.Compare a [op] [b] pos) (fBin o f g):=⟨PE.weak (b1a ho ha.to hb.to hm) (a2q k)⟩
def fTest (f:FX):FT:=fun ρ=>(f ρ).bind fun p=>match p.1 with|.v (.bl k)=>some (k,p.2)|_=>none
theorem a0l {f:FX}{ρ ρ':Ev}{k:Bool}(e:fTest f ρ=some (k,ρ')):f ρ=some (.v (.bl k),ρ'):=by
 unfold fTest at e;cases q:f ρ with
 | none=>rw[q] at e;cases e
 | some p=>
  rw[q] at e;obtain⟨w,ρ1⟩:=p;simp only[bind_some] at e;split at e
  ·cases e;rfl
  ·cases e
theorem X1 {op:CmpOp}{r:R2}{o:D->D->Option W}(ho:OpR X (compareOp op) r)(k:Pr2 X o r)(ha:QX X a f)(hb:QX X b g)(hm:behindInMarks op b=false:=by first|exact nomark _|rfl):QT X (.Compare a [op] [b] pos) (fTest (fBin o f g)):=by
 refine⟨PT.weak (b1W ho ha.to hb.to hm) fun σ H Q h0=>tTe h0 fun P O L ρ t ρ' r e q=>?_⟩;refine a2q k σ H _ ⟨P,O,L,ρ,_,ρ',r,a0l e,fun v H1 H' r1 s1 d1=>⟨t,?_,q H' (r1.grow s1)⟩⟩;have d1':Den X.K (AvO O ρ' σ) H' (.bl t) v:=d1;exact a2E.mp d1'
def big:Nat:=2^8000
def mOk (i j:Int):Prop:=i.natAbs<2^64\/j.natAbs<2^64\/(i.natAbs<big/\j.natAbs<big)
instance (i j:Int):Decidable (mOk i j):=by unfold mOk;infer_instance
theorem mOk.ok {i j:Int}(m:mOk i j):IntMulOk i j:=by
 rcases m with m|m|⟨m,n⟩
 ·exact .of_left (KE_bits m)
 ·exact .of_right (KE_bits m)
 ·exact .of_bits (zO (KE_bits m) (by decide)) (zO (KE_bits n) (by decide))
where KE_bits {x:Int} {m:Nat} (h:x.natAbs<2^m):Builtin.Int.intBits x<=m:=intBits_le_iff.mpr h
theorem b2e:OpR X (binaryOp .Mult) (rI mOk fun i j=>.int (i*j)):=opI fun _ _ _ _ _ _ _ hc q=>mul_int q hc.ok
def dOk (j:Int):Prop:=0<j/\j.natAbs<big
instance (j:Int):Decidable (dOk j):=by unfold dOk;infer_instance
theorem b1Y:OpR X (binaryOp .FloorDiv) (rI (fun _ j=>dOk j) fun i j=>.int (i/j)):=opI fun i j _ _ _ _ _ hc q=>by
 have e:i.fdiv j=i/j:=Int.fdiv_eq_ediv_of_nonneg i (Int.le_of_lt hc.1);refine floordiv_int (Int.ne_of_gt hc.1) (by rw[e];exact q) (.inl (PyProof.noPylong_of_log2 ?_))
 by_cases z:j.natAbs=0
 ·rw[z];decide
 ·exact zF ((Nat.log2_lt z).mpr (show j.natAbs<2^8000 from hc.2)) (by decide)
def oI (C:Int->Int->Prop) [∀i j,Decidable (C i j)] (g:Int->Int->D):D->D->Option W
 | .int i,.int j=>if C i j then some (.v (g i j)) else none
 | _,_=>none
def oI0 (g:Int->Int->D):D->D->Option W
 | .int i,.int j=>some (.v (g i j))
 | _,_=>none
theorem u6 {K:PySem.W.Frag}{A:Av}{H:Hp}{i:Int}{v:V}(h:DenR K A H (.int i) v):v= .int i:=by
 have h:Den K A H (.int i) v:=h;exact W5.mp h
theorem kI {C:Int->Int->Prop} [∀i j,Decidable (C i j)] {g:Int->Int->Int}:Pr2 X (oI C fun i j=>.int (g i j)) (rI C fun i j=>.int (g i j)):=by
 intro A x y w v u H Q _ e hx hy q;cases x<;>cases y<;>simp only[oI] at e<;>try cases e
 rename_i i j;split at e
 ·rename_i hc;cases e;exact⟨i,j,u6 hx,u6 hy,hc,q _ H (Same.refl H) K9⟩
 ·cases e
theorem kI0 {g:Int->Int->Int}:Pr2 X (oI0 fun i j=>.int (g i j)) (rI0 fun i j=>.int (g i j)):=by
 intro A x y w v u H Q _ e hx hy q;cases x<;>cases y<;>simp only[oI0] at e<;>cases e
 rename_i i j;exact⟨i,j,u6 hx,u6 hy,q _ H (Same.refl H) K9⟩
theorem kB0 {g:Int->Int->Bool}:Pr2 X (oI0 fun i j=>.bl (g i j)) (rI0 fun i j=>.bl (g i j)):=by
 intro A x y w v u H Q _ e hx hy q;cases x<;>cases y<;>simp only[oI0] at e<;>cases e
 rename_i i j;exact⟨i,j,u6 hx,u6 hy,q _ H (Same.refl H) C5⟩
abbrev fSub:=fBin (oI0 fun i j=>.int (i-j))
abbrev fMul:=fBin (oI mOk fun i j=>.int (i*j))
abbrev fDiv:=fBin (oI (fun _ j=>dOk j) fun i j=>.int (i/j))
abbrev fMod:=fBin (oI (fun _ j=>0<j) fun i j=>.int (i%j))
instance (i j:Int):Decidable (CPow i j):=by unfold CPow;infer_instance
abbrev fPow:=fBin (oI CPow fun i j=>.int (i^j.toNat))
theorem a7f (ha:QX X a f)(hb:QX X b g):QX X (.BinOp a .Sub b pos) (fSub f g):=a0C b3E kI0 ha hb
theorem U8 (ha:QX X a f)(hb:QX X b g):QX X (.BinOp a .Mult b pos) (fMul f g):=a0C b2e kI ha hb
theorem a5G (ha:QX X a f)(hb:QX X b g):QX X (.BinOp a .FloorDiv b pos) (fDiv f g):=a0C b1Y kI ha hb
theorem a2Y (ha:QX X a f)(hb:QX X b g):QX X (.BinOp a .Mod b pos) (fMod f g):=a0C b3t kI ha hb
theorem X8 (ha:QX X a f)(hb:QX X b g):QX X (.BinOp a .Pow b pos) (fPow f g):=a0C b4N kI ha hb
abbrev oLt:=oI0 fun i j=>.bl (decide (i<j))
abbrev oLe:=oI0 fun i j=>.bl (decide (i<=j))
abbrev oGt:=oI0 fun i j=>.bl (decide (j<i))
abbrev oGe:=oI0 fun i j=>.bl (decide (j<=i))
theorem qx_le (ha:QX X a f)(hb:QX X b g):QX X (.Compare a [.LtE] [b] pos) (fBin oLe f g):=a2L a5a kB0 ha hb
theorem qx_gt (ha:QX X a f)(hb:QX X b g):QX X (.Compare a [.Gt] [b] pos) (fBin oGt f g):=a2L b2w kB0 ha hb
theorem qx_ge (ha:QX X a f)(hb:QX X b g):QX X (.Compare a [.GtE] [b] pos) (fBin oGe f g):=a2L b2z kB0 ha hb
theorem a0w (ha:QX X a f)(hb:QX X b g):QT X (.Compare a [.Gt] [b] pos) (fTest (fBin oGt f g)):=X1 b2w kB0 ha hb
theorem a94 (ha:QX X a f)(hb:QX X b g):QT X (.Compare a [.GtE] [b] pos) (fTest (fBin oGe f g)):=X1 b2z kB0 ha hb
def lim:Nat:=1000000
theorem B5:lim<=sizeLine:=by unfold lim;rw[sizeLine_eq];decide
theorem A4 {H:Hp}{p:Addr}(h:H p=none)(o:HO):Same H (upd H p o):=fun b u q=>by rw[k8 (B4 q h)];exact q
theorem a2h {K:PySem.W.Frag}{A:Av}{σ:L2.St}{H:Hp}{p:Addr}{xs:List D}{vs:List V}(hp:H p=none)(l:DenL K A H xs vs):DenW K A σ H (upd H p (.lst vs)) (.o (.lst xs)) (.ref p):=
 ⟨p,rfl,hp,vs,C3,F2 (M:=fun _=>False) ⟨fun b o q _=>A4 hp _ b o q,fun _ z=>z.elim,fun b z=>z.imp id fun z=>by rw[z];exact hp⟩ _ _ l⟩
theorem Y7 {K:PySem.W.Frag}{A:Av}{σ:L2.St}{H H0:Hp}{p:Addr}{xs:List D}{vs:List V}(hp:H p=none)(l:DenL K A H xs vs):DenW K A σ H0 (upd H p (.tup vs)) (.v (.tup xs)) (.ref p):=by
 show Den _ _ _ _ _;rw[Den];exact⟨p,vs,rfl,.inl (.inl C3),a9k (A4 hp _) l⟩
theorem b2i:OpR X (binaryOp .Add) (fun x y H Q=>∃l b xs zs,x= .ref l/\y= .ref b/\SqL X.K H l xs/\SqL X.K H b zs/\xs.length+zs.length<=sizeLine/\∀p,H p=none->Q (.ref p) (upd H p (.lst (xs++zs)))):=by
 intro pins s σ H x y v u Q I rx ry h;obtain⟨l,b,xs,zs,rfl,rfl,hH,hB,hz,q⟩:=h;cases rx;cases ry;obtain⟨its,r,⟨⟨c1,d1,e1,s1⟩,n1,g1,k1,_,w1⟩,_⟩:=I.list hH;obtain⟨its2,r2,⟨⟨c2,d2,e2,s2⟩,n2,g2,k2,_,w2⟩,_⟩:=I.list hB;simp only at k1 w1 k2 w2;subst k1 w1 k2 w2;have l1:=r.length;have l2:=r2.length;refine concat_meets ⟨_,g1,rfl⟩ ⟨_,g2,rfl⟩ noFill_list_add seq_list_add PySem.F.slot_list_add PySem.F.entry_list_add (PySem.F.args_list_add_2 _ _) (list_addW l b its.toArray its2.toArray n1 n2 d1 d2 s1 s2 (by rw[zX,zX];walk_at "o")) ⟨g1,g2,?_⟩
 have ea:its.toArray++its2.toArray=(its++its2).toArray:=by simp
 rw[ea];exact⟨.ref _,_,I.lnew (t':=s.toks) (r.append r2) (by rw[zP];walk_at "o"),rfl,q _ I.fresh⟩
def oCat (xs ys:List D):Option W:=if xs.length+ys.length<=lim then some (.o (.lst (xs++ys))) else none
def oAdd:D->D->Option W
 | .int i,.int j=>some (.v (.int (i+j)))
 | .lst xs,.lst ys=>oCat xs ys
 | .tup xs,.tup ys=>if xs≠[]/\xs.length+ys.length<=lim then some (.v (.tup (xs++ys))) else none
 | _,_=>none
instance (xs:List D):Decidable (xs≠[]):=match xs with
 | []=>.isFalse fun h=>h rfl
 | _::_=>.isTrue nofun
theorem C1 (ha:QX X a f)(hb:QX X b g):QX X (.BinOp a .Add b pos) (fBin oAdd f g):=a0C (b3J.or (b2i.or b17)) (by
 intro A x y w v u H Q _ e hx hy q;cases x<;>cases y<;>simp only[oAdd] at e<;>try cases e
 ·rename_i i j;exact .inl ⟨i,j,u6 hx,u6 hy,q _ H (Same.refl H) K9⟩
 ·rename_i xs ys;split at e
  ·rename_i hl;cases e;have hx:Den X.K A H (.tup xs) v:=hx;have hy:Den X.K A H (.tup ys) u:=hy;rw[Den] at hx hy;obtain⟨a,vs,ev,ha,la⟩:=hx;obtain⟨b,us,eu,hb,lb⟩:=hy;refine .inr (.inr ⟨a,b,vs,us,ev,eu,ha,hb,fun z=>?_,?_,fun z=>?_,fun _ p hp=>q _ _ (A4 hp _) (Y7 hp (M7 la lb))⟩)
   rotate_left 2
   ·subst z;have z:ys=[]:=List.length_eq_zero_iff.mp (g8 lb);subst z;refine q _ H (Same.refl H) ?_;show Den _ _ _ _ _;rw[jT,Den];exact⟨a,vs,rfl,ha,la⟩
   ·subst z;exact hl.1 (List.length_eq_zero_iff.mp (g8 la))
   ·rw[<-g8 la,<-g8 lb];exact zO hl.2 B5
  ·cases e
 ·rename_i xs ys;unfold oCat at e;split at e
  ·rename_i hl;cases e;obtain⟨a,vs,ev,ha,la⟩:=hx;obtain⟨b,us,eu,hb,lb⟩:=hy;refine .inr (.inl ⟨a,b,vs,us,ev,eu,ha,hb,?_,fun p hp=>q _ _ (A4 hp _) (a2h hp (M7 la lb))⟩);rw[<-g8 la,<-g8 lb];exact zO hl B5
  ·cases e) ha hb
def fUn (op:D->Option W) (f:FX):FX:=fun ρ=>(f ρ).bind fun p=>(dr p.2 p.1.fz).bind fun x=>(op x).map fun w=>(w,p.2)
def Pr1 (X:Cx) (op:D->Option W) (r:V->Hp->VK->Prop):Prop:=∀(A:Av) (x:D) (w:W) (v:V) (H:Hp) (Q:VK),(∀b,A b->∃o,H b=some o)->op x=some w->DenR X.K A H x v->(∀z H',Same H H'->DenW X.K A [] H H' w z->Q z H')->r v H Q
theorem a2s {r:V->Hp->VK->Prop}{op:D->Option W}(k:Pr1 X op r):∀σ H Q,tX X (fUn op f) σ H Q->tUn r (tX X f) σ H Q:=fun σ H Q h0=>tXe h0 fun P O L ρ w ρ' r e q=>by
 unfold fUn at e;obtain⟨⟨w1,ρ1⟩,e1,e⟩:=obs e;dsimp only at e;refine⟨P,O,L,ρ,w1,ρ1,r,e1,fun v H1 H1' r1 s1 d1=>?_⟩;have r3:=r1.grow s1;cases e3:dr ρ1 w1.fz with
 | none=>rw[e3] at e;cases e
 | some x=>
  rw[e3] at e;simp only[bind_some] at e;cases e5:op x with
  | none=>rw[e5] at e;cases e
  | some w'=>
   rw[e5] at e;cases e;exact k _ x w v H1' Q (fun b z=>r3.there z) e5 (P7 r3 e3 (d1.fz r1 s1)) fun z H' s d=>q z H1' H' r3 s d.st
def oNeg:D->Option W
 | .int i=>some (.v (.int (-i)))
 | _=>none
theorem a9X (ha:QX X a f):QX X (.UnaryOp .USub a pos) (fUn oNeg f):=⟨PE.weak (pe_un b4a ha.to) (a2s fun A x w v H Q _ e hx q=>by
 cases x<;>simp only[oNeg] at e<;>cases e
 rename_i i
 exact⟨i,u6 hx,q _ H (Same.refl H) K9⟩)⟩
end
section
variable {X:Cx}{a b c e:Expr}{pos:Pos}{f g h:FX}{t u:FT}{fa:FA}{es rest:List Expr}
def truth:D->Option Bool
 | .non=>some false
 | .bl b=>some b
 | .int i=>some (!decide (i=0))
 | .tup xs=>some (!xs.isEmpty)
 | .lst xs=>some (!xs.isEmpty)
 | .dK ks _=>some (!ks.isEmpty)
 | _=>none
def fTru (f:FX):FT:=fun ρ=>(f ρ).bind fun p=>(dr p.2 p.1.fz).bind fun d=>(truth d).map fun k=>(k,p.2)
theorem a4h {K:PySem.W.Frag}{A:Av}{H:Hp}{xs:List D}{vs:List V}(l:DenL K A H xs vs):(!xs.isEmpty)= !vs.isEmpty:=by
 have:=g8 l
 cases xs<;>cases vs<;>simp_all
theorem a76 {K:PySem.W.Frag}{A:Av}{H:Hp}{d:D}{v:V}{k:Bool}(e:truth d=some k)(h:DenR K A H d v):TruV K v H k:=by
 cases d with
 | non=>cases e;have h:Den K A H .non v:=h;rw[Den] at h;subst h;rfl
 | bl b=>cases e;have h:Den K A H (.bl k) v:=h;rw[Den] at h;subst h;rfl
 | int i=>cases e;have h:Den K A H (.int i) v:=h;rw[Den] at h;subst h;rfl
 | tup xs=>cases e;have h:Den K A H (.tup xs) v:=h;rw[Den] at h;obtain⟨a,vs,rfl,hq,l⟩:=h;exact .inr (.inl ⟨vs,hq,a4h l⟩)
 | lst xs=>cases e;obtain⟨a,vs,rfl,hq,l⟩:=h;exact .inl ⟨vs,hq,a4h l⟩
 | dK ks xs=>
  cases e;obtain⟨a,vs,rfl,hq,hl,l⟩:=h;refine .inr (.inr ⟨_,hq,?_⟩)
  have:=g8 l
  cases ks<;>cases vs<;>cases xs<;>simp_all
 | _=>cases e
theorem B8 (ha:QX X a f)(he:∀whole,isTrue a X.env whole=(do let v <-whole;standAt a.pos;holding [v] (truthy v)):=by intro _;rfl):QT X a (fTru f):=⟨PT.weak (b0j ha.to he) fun σ H Q h0=>tTe h0 fun P O L ρ k ρ' r e q=>by
 unfold fTru at e;obtain⟨⟨w,ρ1⟩,e1,e⟩:=obs e;dsimp only at e;cases e2:dr ρ1 w.fz with
 | none=>rw[e2] at e;cases e
 | some d=>
  rw[e2] at e;simp only[bind_some] at e;cases e3:truth d with
  | none=>rw[e3] at e;cases e
  | some k'=>
   rw[e3] at e;cases e
   exact⟨P,O,L,ρ,w,_,r,e1,fun v H1 H' r1 s1 d1=>⟨k,a76 e3 (P7 (r1.grow s1) e2 (d1.fz r1 s1)),q H' (r1.grow s1)⟩⟩⟩
def fNot (t:FT):FT:=fun ρ=>(t ρ).map fun p=>(!p.1,p.2)
theorem E3 (ha:QT X a t):QT X (.UnaryOp .Not a pos) (fNot t):=⟨PT.weak (L2.b3W ha.to) fun σ H Q h0=>tTe h0 fun P O L ρ k ρ' r e q=>by
 unfold fNot at e;cases e1:t ρ with
 | none=>rw[e1] at e;cases e
 | some p=>rw[e1] at e;obtain⟨k1,ρ1⟩:=p;cases e;exact⟨P,O,L,ρ,k1,_,r,e1,q⟩⟩
def fAnd (t u:FT):FT:=fun ρ=>(t ρ).bind fun p=>if p.1=true then u p.2 else some (false,p.2)
def fOr (t u:FT):FT:=fun ρ=>(t ρ).bind fun p=>if p.1=true then some (true,p.2) else u p.2
theorem S9 (ha:QT X a t):QW X (.BoolOp .And [a] pos) t:=⟨pw_and1 ha.to⟩
theorem J4 (ha:QT X a t):QW X (.BoolOp .Or [a] pos) t:=⟨pw_or1 ha.to⟩
theorem Y3 (ha:QT X a t)(hb:QW X (.BoolOp .And (b::rest) pos) u):QW X (.BoolOp .And (a::b::rest) pos) (fAnd t u):=⟨PW.weak (pw_and ha.to hb.to) fun σ H Q h0=>tTe h0 fun P O L ρ k ρ' r e q=>by
 unfold fAnd at e;obtain⟨⟨k1,ρ1⟩,e1,e⟩:=obs e;dsimp only at e;refine⟨P,O,L,ρ,k1,ρ1,r,e1,fun H' r'=>?_⟩;cases k1 with
 | true=>rw[if_pos rfl] at e ⊢;exact⟨P,O,L,ρ1,k,ρ',r',e,q⟩
 | false=>rw[if_neg zW] at e ⊢;cases e;exact q H' r'⟩
theorem C8 (ha:QT X a t)(hb:QW X (.BoolOp .Or (b::rest) pos) u):QW X (.BoolOp .Or (a::b::rest) pos) (fOr t u):=⟨PW.weak (pw_or ha.to hb.to) fun σ H Q h0=>tTe h0 fun P O L ρ k ρ' r e q=>by
 unfold fOr at e;obtain⟨⟨k1,ρ1⟩,e1,e⟩:=obs e;dsimp only at e;refine⟨P,O,L,ρ,k1,ρ1,r,e1,fun H' r'=>?_⟩;cases k1 with
 | true=>rw[if_pos rfl] at e ⊢;cases e;exact q H' r'
 | false=>rw[if_neg zW] at e ⊢;exact⟨P,O,L,ρ1,k,ρ',r',e,q⟩⟩
theorem F0 (ha:QW X a t):QT X a t:=⟨PW.pt ha.to⟩
theorem a0M {op}(ha:QX X a f):QX X (.BoolOp op [a] pos) f:=⟨b23 ha.to⟩
def fAndV (f g:FX):FX:=fun ρ=>(fTest f ρ).bind fun p=>if p.1=true then g p.2 else some (.v (.bl false),p.2)
def fOrV (f g:FX):FX:=fun ρ=>(fTest f ρ).bind fun p=>if p.1=true then some (.v (.bl true),p.2) else g p.2
def fNotV (f:FX):FX:=fun ρ=>(fTest f ρ).map fun p=>(.v (.bl (!p.1)),p.2)
theorem Z8 {K:PySem.W.Frag}{A:Av}{σ:L2.St}{H H':Hp}{k:Bool}{v:V}(h:DenW K A σ H H' (.v (.bl k)) v):v= .bl k:=by
 have h:Den K A H' (.bl k) v:=h;exact a2E.mp h
theorem a1E (ha:QX X a f)(hb:QX X (.BoolOp .And (b::rest) pos) g):QX X (.BoolOp .And (a::b::rest) pos) (fAndV f g):=⟨PE.weak (b4L ha.to hb.to) fun σ H Q h0=>tXe h0 fun P O L ρ w ρ' r e q=>by
 unfold fAndV at e;obtain⟨⟨k,ρ1⟩,e1,e⟩:=obs e;dsimp only at e;refine⟨P,O,L,ρ,_,ρ1,r,a0l e1,fun v H1 H' r1 s1 d1=>⟨k,Z8 d1,?_⟩⟩;cases k with
 | true=>rw[if_pos rfl] at e ⊢;exact⟨P,O,L,ρ1,w,ρ',r1.grow s1,e,q⟩
 | false=>rw[if_neg zW] at e ⊢;cases e;exact q _ H' H' (r1.grow s1) (Same.refl _) C5⟩
theorem qx_or (ha:QX X a f)(hb:QX X (.BoolOp .Or (b::rest) pos) g):QX X (.BoolOp .Or (a::b::rest) pos) (fOrV f g):=⟨PE.weak (pe_or ha.to hb.to) fun σ H Q h0=>tXe h0 fun P O L ρ w ρ' r e q=>by
 unfold fOrV at e;obtain⟨⟨k,ρ1⟩,e1,e⟩:=obs e;dsimp only at e;refine⟨P,O,L,ρ,_,ρ1,r,a0l e1,fun v H1 H' r1 s1 d1=>⟨k,Z8 d1,?_⟩⟩;cases k with
 | true=>rw[if_pos rfl] at e ⊢;cases e;exact q _ H' H' (r1.grow s1) (Same.refl _) C5
 | false=>rw[if_neg zW] at e ⊢;exact⟨P,O,L,ρ1,w,ρ',r1.grow s1,e,q⟩⟩
def fIf (t:FT) (f g:FX):FX:=fun ρ=>(t ρ).bind fun p=>if p.1=true then f p.2 else g p.2
theorem a5d (hc:QT X c t)(ha:QX X a f)(hb:QX X b g):QX X (.IfExp c a b pos) (fIf t f g):=⟨PE.weak (b0p hc.to ha.to hb.to) fun σ H Q h0=>tXe h0 fun P O L ρ w ρ' r e q=>by
 unfold fIf at e;obtain⟨⟨k,ρ1⟩,e1,e⟩:=obs e;dsimp only at e;refine⟨P,O,L,ρ,k,ρ1,r,e1,fun H' r'=>?_⟩;cases k with
 | true=>rw[if_pos rfl] at e ⊢;exact⟨P,O,L,ρ1,w,ρ',r',e,q⟩
 | false=>rw[if_neg zW] at e ⊢;exact⟨P,O,L,ρ1,w,ρ',r',e,q⟩⟩
def fNil:FA:=fun ρ=>some ([],ρ)
def fCons (f:FX) (fa:FA):FA:=fun ρ=>(f ρ).bind fun p=>(fa p.2).map fun q=>(p.1.fz::q.1,q.2)
theorem a9:QA X [] fNil:=⟨PA.weak a2R fun σ H Q h0=>tAe h0 fun P O L ρ ws ρ' r e q=>by cases e;exact q [] H r rfl⟩
theorem a8 (ha:QX X e f)(hr:QA X es fa)(hs:starEach (e::es) X.env=(false,eval e X.env)::starEach es X.env:=by rfl):QA X (e::es) (fCons f fa):=⟨PA.weak (Q8 ha.to hr.to hs) fun σ H Q h0=>tAe h0 fun P O L ρ ws ρ' r e q=>by
 unfold fCons at e;obtain⟨⟨w,ρ1⟩,e1,e⟩:=obs e;dsimp only at e;obtain⟨⟨ws2,ρ2⟩,e2,e⟩:=oms e;cases e;refine⟨P,O,L,ρ,w,ρ1,r,e1,fun v H1 H' r1 s1 d1=>?_⟩;obtain⟨P',r1',k1⟩:=hold (r1.grow s1) (d1.fz r1 s1);refine⟨P',O,L,ρ1,ws2,_,r1',e2,fun vs H2 r2 l2=>?_⟩;obtain⟨r3,d3⟩:=k1 _ H2 r2
 exact q _ H2 r3 ⟨v,vs,rfl,d3,l2⟩⟩
def takeAll:Ev->List W->Option (List D×Ev)
 | ρ,[]=>some ([],ρ)
 | ρ,.v d::ws=>(takeAll ρ ws).map fun p=>(d::p.1,p.2)
 | ρ,.r i::ws=>(frzAt ρ i).bind fun ρ1=>match ρ1[i]? with
  | some (some (.v d))=>(takeAll ρ1 ws).map fun p=>(d::p.1,p.2)
  | _=>none
 | _,_=>none
theorem a7L {ρ ρ':Ev}{σ:L2.St}{O:Av}(h:∀(j:Nat) (w:W) (d:D),ρ'[j]? =some (some w)->w.own=some d->ρ[j]? =some (some w)):∀b,AvO O ρ' σ b->AvO O ρ σ b:=fun b z=>z.imp id fun⟨j,w,d,e1,e2,e3⟩=>⟨j,w,d,h j w d e1 e2,e2,e3⟩
theorem D7 {P:List (D×V)}{O:Av}{L:List (Option Nat×Addr)}{σ:L2.St}{H:Hp}:∀{ws:List W} {ds:List D} {vs:List V} {ρ ρ':Ev},Rep X P O L ρ σ H->takeAll ρ ws=some (ds,ρ')->DenA X.K (AvO O ρ σ) σ H ws vs->
  Rep X P O L ρ' σ H/\DenL X.K (AvO O ρ' σ) H ds vs/\∀(j:Nat) (w:W) (d:D),ρ'[j]? =some (some w)->w.own=some d->ρ[j]? =some (some w)
 | [],ds,vs,ρ,ρ',r,e,h=>by cases e;have h:vs=[]:=h;subst h;exact⟨r,A8,fun j w d e _=>e⟩
 | .v d::ws,ds,vs,ρ,ρ',r,e,h=>by
  obtain⟨v,rs,rfl,h1,h2⟩:=h;rw[takeAll] at e;obtain⟨⟨ds1,ρ1⟩,e1,e⟩:=oms e;cases e;obtain⟨r1,l1,k1⟩:=D7 r e1 h2;exact⟨r1,z9 (C6 (L5 (a7L k1)) _ _ h1) l1,k1⟩
 | .r i::ws,ds,vs,ρ,ρ',r,e,h=>by
  obtain⟨v,rs,rfl,h1,h2⟩:=h;have h1:σ[i]? =some (some v):=h1;rw[takeAll] at e;cases e0:frzAt ρ i with
  | none=>rw[e0] at e;cases e
  | some ρ1=>
   rw[e0] at e;simp only[bind_some] at e;obtain⟨r1,k1⟩:=r.frz e0;split at e
   ·rename_i d q;obtain⟨⟨ds1,ρ2⟩,e1,e⟩:=oms e;cases e;have go1:∀{ws:List W} {vs:List V},DenA X.K (AvO O ρ σ) σ H ws vs->DenA X.K (AvO O ρ1 σ) σ H ws vs:=fun{ws}=>by
     induction ws with
     | nil=>exact fun h=>h
     | cons w ws ih=>
      intro vs h;obtain⟨v,rs,rfl,h1,h2⟩:=h;refine⟨v,rs,rfl,?_,ih h2⟩;cases w with
      | v d=>exact C6 (L5 (a7L fun j w d e1 e2=>(k1 j w d e1 e2).1)) _ _ h1
      | _=>exact h1
    obtain⟨r2,l2,k2⟩:=D7 r1 e1 (go1 h2);obtain⟨u,q1,q2⟩:=r1.slot i _ q;rw[h1] at q1;cases q1;have q2:Den X.K (AvO O ρ1 σ) H d v:=q2;exact⟨r2,z9 (C6 (L5 (a7L k2)) _ _ q2) l2,fun j w d e1 e2=>(k1 j w d (k2 j w d e1 e2) e2).1⟩
   ·cases e
 | .o _::ws,ds,vs,ρ,ρ',r,e,h=>by rw[takeAll] at e<;>first|cases e|(intros;nofun)
 | .l _::ws,ds,vs,ρ,ρ',r,e,h=>by rw[takeAll] at e<;>first|cases e|(intros;nofun)
def fTup (fa:FA):FX:=fun ρ=>(fa ρ).bind fun p=>(takeAll p.2 p.1).bind fun q=>if q.1.length<=lim then some (.v (.tup q.1),q.2) else none
def fLst (fa:FA):FX:=fun ρ=>(fa ρ).bind fun p=>(takeAll p.2 p.1).bind fun q=>if q.1.length<=lim then some (.o (.lst q.1),q.2) else none
theorem a5l {mk:List D->W}{σ:L2.St}{H:Hp}{Q:VK}{R:List V->Hp->Prop}(hq:∀(A:Av) (ds:List D) (vs:List V) (H:Hp),(∀v H',Same H H'->DenW X.K A σ H H' (mk ds) v->Q v H')->vs.length<=sizeLine->DenL X.K A H ds vs->R vs H)
  (h:tX X (fun ρ=>(fa ρ).bind fun p=>(takeAll p.2 p.1).bind fun q=>if q.1.length<=lim then some (mk q.1,q.2) else none) σ H Q):tA X fa σ H R:=by
 obtain⟨P,O,L,ρ,w,ρ',r,e,q⟩:=h;dsimp only at e;obtain⟨⟨ws,ρ1⟩,e1,e⟩:=obs e;dsimp only at e;obtain⟨⟨ds,ρ2⟩,e2,e⟩:=obs e;dsimp only at e;split at e
 ·rename_i hl;cases e;refine⟨P,O,L,ρ,ws,ρ1,r,e1,fun vs H1 r1 l1=>?_⟩;obtain⟨r2,l2,_⟩:=D7 r1 e2 l1;exact hq _ ds vs H1 (fun v H' s d=>q v H1 H' r2 s d) (by rw[<-g8 l2];exact zO hl B5) l2
 ·cases e
theorem K8 {k:Nat}(ha:QA X es fa):QX X (.Tuple es k pos) (fTup fa):=⟨PE.weak (b0I ha.to) fun σ H Q h=>a5l (mk:=fun ds=>.v (.tup ds)) (fun A ds vs H q hl l=>⟨hl,fun p hp=>q _ _ (A4 hp _) (Y7 hp l)⟩) h⟩
theorem E8 (ha:QA X es fa):QX X (.List es pos) (fLst fa):=⟨PE.weak (b2I ha.to) fun σ H Q h=>a5l (mk:=fun ds=>.o (.lst ds)) (fun A ds vs H q hl l=>⟨hl,fun p hp=>q _ _ (A4 hp _) (a2h hp l)⟩) h⟩
def items:D->Option (List D)
 | .tup xs=>some xs
 | .lst xs=>some xs
 | _=>none
theorem a2X {K:PySem.W.Frag}{A:Av}{H:Hp}{d:D}{xs:List D}{v:V}(e:items d=some xs)(h:DenR K A H d v):∃a vs,v= .ref a/\(SqL K H a vs\/SqT K H a vs)/\DenL K A H xs vs:=by
 cases d<;>simp only[items] at e<;>cases e
 ·have h:Den K A H (.tup xs) v:=h;rw[Den] at h;obtain⟨a,vs,e,hq,l⟩:=h;exact⟨a,vs,e,.inr hq,l⟩
 ·obtain⟨a,vs,e,hq,l⟩:=h;exact⟨a,vs,e,.inl hq,l⟩
def strAt (x:Str) (i:Int):Option W:=if x.length<=lim then(atI x.cps.toList i).map fun c=>.v (.str ⟨#[c]⟩) else none
def oIx (x y:D):Option W:=match x,y with
 | .str x,.int i=>strAt x i
 | x,.int i=>(items x).bind fun xs=>(atI xs i).map .v
 | _,_=>none
theorem b1V {K:PySem.W.Frag}{A:Av}{H:Hp}{xs:List D}{vs:List V}{i:Int}{d:D}(l:DenL K A H xs vs)(e:atI xs i=some d):∃v,atI vs i=some v/\Den K A H d v:=by
 unfold atI at e ⊢;rw[<-g8 l];cases q:ixN xs.length i with
 | none=>rw[q] at e;cases e
 | some j=>rw[q] at e;exact L3 l e
theorem k_ix:Pr2 X oIx (rIx X.K):=by
 intro A x y w v u H Q _ e hx hy q;unfold oIx at e;split at e
 ·rename_i z i;unfold strAt at e;split at e
  ·rename_i hl;obtain⟨ch,e1,e⟩:=oms e;cases e;have hx:Den X.K A H (.str z) v:=hx;exact .inr (.inr ⟨z,i,ch,V8.mp hx,u6 hy,zO hl B5,e1,q _ H (Same.refl H) N5⟩)
  ·cases e
 ·rename_i i _;cases e1:items x with
  | none=>rw[e1] at e;cases e
  | some xs=>
   rw[e1] at e;simp only[bind_some] at e;obtain⟨d,e2,e⟩:=oms e;cases e;obtain⟨a,vs,rfl,hq,l⟩:=a2X e1 hx;obtain⟨v',h1,h2⟩:=b1V l e2;rcases hq with hq|hq
   ·exact .inl ⟨a,vs,i,v',rfl,u6 hy,hq,h1,q _ H (Same.refl H) h2⟩
   ·exact .inr (.inl ⟨a,vs,i,v',rfl,u6 hy,hq,h1,q _ H (Same.refl H) h2⟩)
 ·cases e
theorem t6 (ha:QX X a f)(hb:QX X b g)(hs:PlainIx b:=by intro _ _;rfl):QX X (.Subscript a b pos) (fBin oIx f g):=⟨PE.weak (pe_ix b28 ha.to hb.to hs) (a2q k_ix)⟩
def fCall (k:List D->Option W) (fa:FA):FX:=fun ρ=>(fa ρ).bind fun p=>(drs p.2 p.1).bind fun ds=>(k ds).map fun w=>(w,p.2)
def PrA (X:Cx) (k:List D->Option W) (r:List V->Hp->VK->Prop):Prop:=∀(A:Av) (ds:List D) (w:W) (vs:List V) (H:Hp) (Q:VK),(∀b,A b->∃o,H b=some o)->k ds=some w->DenRL X.K A H ds vs->(∀z H',Same H H'->DenW X.K A [] H H' w z->Q z H')->r vs H Q
theorem a43 {r:List V->Hp->VK->Prop}{k:List D->Option W}(hk:PrA X k r):∀σ H Q,tX X (fCall k fa) σ H Q->tCB r (tA X fa) σ H Q:=fun σ H Q h0=>tXe h0 fun P O L ρ w ρ' r e q=>by
 unfold fCall at e;obtain⟨⟨ws,ρ1⟩,e1,e⟩:=obs e;dsimp only at e;cases e2:drs ρ1 ws with
 | none=>rw[e2] at e;cases e
 | some ds=>
  rw[e2] at e;simp only[bind_some] at e;cases e3:k ds with
  | none=>rw[e3] at e;cases e
  | some w'=>
   rw[e3] at e;cases e;exact⟨P,O,L,ρ,ws,ρ',r,e1,fun vs H1 r1 l1=>hk _ ds w vs H1 Q (fun b z=>r1.there z) e3 (a58 r1 e2 l1) fun z H2 s2 d2=>q z H1 H2 r1 s2 d2.st⟩
theorem a6y {x:Str}{p:Pos}{id:String}{r:List V->Hp->VK->Prop}{k:List D->Option W}(hc:CallR X (.builtin id) r)(hk:PrA X k r)(hv:bootBuiltins x=some (.builtin id))(hm:X.mg x=none)(ha:QA X (e::es) fa)(hg:Gl X x)(hn:x≠"__name__")(hdb:(x==("__debug__":Str))=false)
  (he:starEach (e::es) X.env=(false,eval e X.env)::starEach es X.env) (hpl:(backTo pos (starEach es X.env)).any (·.1)=false):QX X (.Call (.Name x p) (e::es) [] pos) (fCall k fa):=⟨PE.weak (a1h hc hg hm hv ha.to hn hdb he hpl) (a43 hk)⟩
theorem b0J {x:Str}{p:Pos}{T:String}{r:List V->Hp->VK->Prop}{k:List D->Option W}(hc:CallR X (.type T) r)(hk:PrA X k r)(hv:bootBuiltins x=some (.type T))(hm:X.mg x=none)(ha:QA X (e::es) fa)(hg:Gl X x)(hn:x≠"__name__")(hdb:(x==("__debug__":Str))=false)
  (he:starEach (e::es) X.env=(false,eval e X.env)::starEach es X.env) (hpl:(backTo pos (starEach es X.env)).any (·.1)=false):QX X (.Call (.Name x p) (e::es) [] pos) (fCall k fa):=⟨PE.weak (a8Y hc hg hm hv ha.to hn hdb he hpl) (a43 hk)⟩
theorem denRL1 {K:PySem.W.Frag}{A:Av}{H:Hp}{d:D}{vs:List V}(l:DenRL K A H [d] vs):∃v,vs=[v]/\DenR K A H d v:=by
 obtain⟨v,r,rfl,h,l⟩:=l;have l:r=[]:=l;subst l;exact⟨v,rfl,h⟩
theorem denRL2 {K:PySem.W.Frag}{A:Av}{H:Hp}{d d':D}{vs:List V}(l:DenRL K A H [d,d'] vs):∃v v',vs=[v,v']/\DenR K A H d v/\DenR K A H d' v':=by
 obtain⟨v,r,rfl,h,l⟩:=l;obtain⟨v',rfl,h'⟩:=denRL1 l;exact⟨v,v',rfl,h,h'⟩
end
inductive R where
 | nx (ρ:Ev)|bk (ρ:Ev)|ct (ρ:Ev)|rt (w:W) (ρ:Ev)
abbrev FS:=Ev->Option R
abbrev A0 (O:Av) (L:List (Option Nat×Addr)):Av:=fun b=>O b\/∃i:Nat,(some i,b)∈L
def EndsOk (X:Cx) (P:List (D×V)) (O:Av) (L:List (Option Nat×Addr)) (E:Ends):R->Prop
 | .nx ρ=>∀σ H,Rep X P O L ρ σ H->E.nx σ H
 | .bk ρ=>∀σ H,Rep X P O L ρ σ H->E.bk σ H
 | .ct ρ=>∀σ H,Rep X P O L ρ σ H->E.ct σ H
 | .rt w ρ=>∀v H,(∀b o,X.H₀ b=some o->(∀i,(i,b)∉L)->H b=some o)->(∀(i:Nat) b,(some i,b)∈L->∃c,ownAt ρ i=some c/\Obj X.K (A0 O L) H b c)->DenW X.K (A0 O L) [] (hz X L) H w v->E.rt v H
def tS (X:Cx) (F:FS):TS:=fun E σ H=>∃P O L ρ r,Rep X P O L ρ σ H/\F ρ=some r/\EndsOk X P O L E r
theorem tSe {X:Cx}{F:FS}{E:Ends}{σ:L2.St}{H:Hp}{C:Prop}(h:tS X F E σ H)(k:∀P O L ρ r,Rep X P O L ρ σ H->F ρ=some r->EndsOk X P O L E r->C):C:=by
 obtain⟨P,O,L,ρ,r,rp,e,q⟩:=h;exact k P O L ρ r rp e q
structure QS (X:Cx) (st:Stmt) (F:FS):Prop where
 to:PS X st (tS X F)
structure QSs (X:Cx) (st:List Stmt) (F:FS):Prop where
 to:PSs X st (tS X F)
theorem PS.weak {X:Cx}{e:Stmt}{t u:TS}(h:PS X e t)(w:∀E σ H,u E σ H->t E σ H):PS X e u:=fun pins s σ H E I q=>h pins s σ H E I (w E σ H q)
theorem PSs.weak {X:Cx}{e:List Stmt}{t u:TS}(h:PSs X e t)(w:∀E σ H,u E σ H->t E σ H):PSs X e u:=fun pins s σ H E I q=>h pins s σ H E I (w E σ H q)
def fThen (F G:FS):FS:=fun ρ=>(F ρ).bind fun r=>match r with
 | .nx ρ'=>G ρ'
 | r=>some r
section
variable {X:Cx}{P:List (D×V)}{O:Av}{L:List (Option Nat×Addr)}{ρ ρ':Ev}{σ:L2.St}{H H1 H':Hp}{w:W}{d:D}{v:V}
theorem Rep.a0 (r:Rep X P O L ρ σ H){b:Addr}(z:A0 O L b):AvO O ρ σ b:=z.imp id fun⟨i,z⟩=>by
 obtain⟨d,h1,h2⟩:=r.lnd i b z;exact⟨i,_,d,h1,rfl,h2⟩
theorem Rep.lents (r:Rep X P O L ρ σ H):∀(i:Nat) b,(some i,b)∈L->∃c,ownAt ρ i=some c/\Obj X.K (A0 O L) H b c:=fun i b z=>by
 obtain⟨d,h1,h2⟩:=r.lnd i b z;obtain⟨a,h3,h4⟩:=r.obj h1 rfl;rw[h2] at h3;cases h3;exact⟨d,by unfold ownAt;rw[h1];rfl,M0 (L5 fun b z=>r.a0 z) rfl h4⟩
def bindW (ρ:Ev) (i:Nat):W->Option Ev
 | .v d=>if freeSlot ρ i=true then some (ρ.set i (some (.v d))) else none
 | .o d=>if freeSlot ρ i=true then some (ρ.set i (some (.o d))) else none
 | .r j=>(frzAt ρ j).bind fun ρ1=>match ρ1[j]? with
  | some (some (.v d))=>if freeSlot ρ1 i=true then some (ρ1.set i (some (.v d))) else none
  | _=>none
 | .l _=>none
theorem a7M {i:Nat}(r:Rep X P O L ρ σ H1)(s:Same H1 H')(h:DenW X.K (AvO O ρ σ) σ H1 H' w v)(e:bindW ρ i w=some ρ'):Rep X P O L ρ' (σ.set i (some v)) H':=by
 cases w with
 | v d=>
  rw[bindW] at e;split at e
  ·rename_i hf;cases e;exact(r.grow s).put hf h
  ·cases e
 | o d=>
  rw[bindW] at e;split at e
  ·rename_i hf;cases e;obtain⟨a,rfl,hn,ob⟩:=h;exact r.putO s hf hn ob
  ·cases e
 | r j=>
  rw[bindW] at e;cases e1:frzAt ρ j with
  | none=>rw[e1] at e;cases e
  | some ρ1=>
   rw[e1] at e;simp only[bind_some] at e;obtain⟨r1,_⟩:=(r.grow s).frz e1;split at e
   ·rename_i d q;split at e
    ·rename_i hf;cases e;obtain⟨u,q1,q2⟩:=r1.slot j _ q;have h:σ[j]? =some (some v):=h;rw[h] at q1;cases q1;exact r1.put hf q2
    ·cases e
   ·cases e
 | l d=>cases e
def retW (ρ:Ev):W->Option R
 | .v d=>some (.rt (.v d) ρ)
 | .o d=>some (.rt (.o d) ρ)
 | .r i=>match ρ[i]? with
  | some (some (.o d))=>some (.rt (.o d) ρ)
  | some (some (.v d))=>some (.rt (.v d) ρ)
  | _=>none
 | .l _=>none
theorem b4T {E:Ends}{q:R}(r:Rep X P O L ρ σ H1)(s:Same H1 H')(h:DenW X.K (AvO O ρ σ) σ H1 H' w v)(e:retW ρ w=some q)(hq:EndsOk X P O L E q):E.rt v H':=by
 have r':=r.grow s;cases w with
 | v d=>cases e;exact hq v H' r'.same r'.lents (C6 (L5 fun b z=>r.a0 z) _ _ h)
 | o d=>
  cases e;obtain⟨a,rfl,hn,ob⟩:=h;exact hq _ H' r'.same r'.lents ⟨a,rfl,r.fresh0 hn,M0 (L5 fun b z=>z.imp (fun z=>r.a0 z) id) rfl ob⟩
 | r i=>
  rw[retW] at e;have h:σ[i]? =some (some v):=h;split at e
  ·rename_i d q;cases e;obtain⟨a,h1,h2⟩:=r'.obj q rfl;rw[h] at h1;cases h1;refine hq _ H' r'.same r'.lents ⟨a,rfl,r'.new i d a q h,M0 (L5 fun b z=>?_) rfl h2⟩;rcases z with z|z
   ·exact r.a0 z
   ·rw[z];exact .inr ⟨i,_,d,q,rfl,h⟩
  ·rename_i d q;cases e;obtain⟨u,q1,q2⟩:=r'.slot i _ q;rw[h] at q1;cases q1;exact hq v H' r'.same r'.lents (C6 (L5 fun b z=>r.a0 z) _ _ q2)
  ·cases e
 | l d=>cases e
end
section
variable {X:Cx}{a b c e:Expr}{st:Stmt}{rest bd els:List Stmt}{pos:Pos}{f g:FX}{t:FT}{fa:FA}{F G:FS}
theorem h7:QSs X [] (fun ρ=>some (.nx ρ)):=⟨PSs.weak b18 fun E σ H h0=>tSe h0 fun P O L ρ r rp e q=>by cases e;exact q σ H rp⟩
theorem b8 (h1:QS X st F)(h2:QSs X rest G):QSs X (st::rest) (fThen F G):=⟨PSs.weak (a9Q h1.to h2.to) fun E σ H h0=>tSe h0 fun P O L ρ r rp e q=>by
 unfold fThen at e;obtain⟨r1,e1,e⟩:=obs e;refine⟨P,O,L,ρ,r1,rp,e1,?_⟩;cases r1 with
 | nx ρ'=>exact fun σ' H' rp'=>⟨P,O,L,ρ',r,rp',e,q⟩
 | bk ρ'=>cases e;exact q
 | ct ρ'=>cases e;exact q
 | rt d ρ'=>cases e;exact q⟩
theorem c7 (h1:QS X st F):QSs X [st] F:=⟨b1z h1.to⟩
theorem b0F:QS X st (fun _=>none):=⟨PS.weak a9F fun E σ H h0=>tSe h0 fun P O L ρ r rp e q=>by cases e⟩
theorem a19 {e c:Option Expr}:QS X (.Raise e c pos) (fun _=>none):=b0F
def fRet (f:FX):FS:=fun ρ=>(f ρ).bind fun p=>retW p.2 p.1
theorem g6 (ha:QX X e f):QS X (.Return (some e) pos) (fRet f):=⟨PS.weak (b4g ha.to) fun E σ H h0=>tSe h0 fun P O L ρ r rp e q=>by
 unfold fRet at e;obtain⟨⟨w,ρ1⟩,e1,e⟩:=obs e
 exact⟨P,O,L,ρ,w,ρ1,rp,e1,fun v H1 H' r1 s1 d1=>b4T r1 s1 d1 e q⟩⟩
def fIfS (t:FT) (F G:FS):FS:=fun ρ=>(t ρ).bind fun p=>if p.1=true then F p.2 else G p.2
theorem p9 (hc:QT X c t)(ha:QSs X bd F)(hb:QSs X els G):QS X (.If c bd els pos) (fIfS t F G):=⟨PS.weak (ps_if hc.to ha.to hb.to) fun E σ H h0=>tSe h0 fun P O L ρ r rp e q=>by
 unfold fIfS at e;obtain⟨⟨k,ρ1⟩,e1,e⟩:=obs e;dsimp only at e;refine⟨P,O,L,ρ,k,ρ1,rp,e1,fun H1 r1=>?_⟩;cases k with
 | true=>rw[if_pos rfl] at e ⊢;exact⟨P,O,L,ρ1,r,r1,e,q⟩
 | false=>rw[if_neg zW] at e ⊢;exact⟨P,O,L,ρ1,r,r1,e,q⟩⟩
def fAsg (i:Nat) (f:FX):FS:=fun ρ=>(f ρ).bind fun p=>(bindW p.2 i p.1).map .nx
theorem l4 (i:Nat){x:Str}{pos':Pos}(hN:X.N.Nodup)(ha:QX X e f)(hi:X.N[i]? =some x:=by rfl)(hx:Loc X.env.scope x:=by first|exact Or.inl rfl|exact Or.inr rfl)(hs:swapsWith e (some (.Name x pos')) pos.line X.env=pure false:=by rfl)(hf:X.fn x=true\/X.env.scope.names.lookup x=some .local:=by first|exact .inl rfl|exact .inr rfl):
  QS X (.Assign [.Name x pos'] e pos) (fAsg i f):=⟨PS.weak (b3Z hN hi hx ha.to hs hf) fun E σ H h0=>tSe h0 fun P O L ρ r rp e q=>by
 unfold fAsg at e;obtain⟨⟨w,ρ1⟩,e1,e⟩:=obs e;dsimp only at e;obtain⟨ρ2,e2,e⟩:=oms e;cases e
 exact⟨P,O,L,ρ,w,ρ1,rp,e1,fun v H1 H' r1 s1 d1=>q _ H' (a7M r1 s1 d1 e2)⟩⟩
abbrev FG:=D->Ev->Option Ev
def GOk (X:Cx) (g:TG) (gf:FG):Prop:=∀(P:List (D×V)) (O:Av) (L:List (Option Nat×Addr)) (d:D) (v:V) (ρ ρ':Ev) (σ:L2.St) (H:Hp) (Q:L2.St->Hp->Prop),Rep X P O L ρ σ H->Den X.K (AvO O ρ σ) H d v->gf d ρ=some ρ'->(∀σ' H',Rep X P O L ρ' σ' H'->Q σ' H')->g v σ H Q
structure QG (X:Cx) (tg:Expr) (gf:FG):Prop where
 to:∃g,PG X tg g/\GOk X g gf
abbrev FGs:=List D->Ev->Option Ev
structure QGs (X:Cx) (tgs:List Expr) (n:Nat) (gf:FGs):Prop where
 to:∃g,PGs X tgs g/\∀(P:List (D×V)) (O:Av) (L:List (Option Nat×Addr)) (ds:List D) (vs:List V) (ρ ρ':Ev) (σ:L2.St) (H:Hp) (Q:L2.St->Hp->Prop),Rep X P O L ρ σ H->DenL X.K (AvO O ρ σ) H ds vs->gf ds ρ=some ρ'->(∀σ' H',Rep X P O L ρ' σ' H'->Q σ' H')->g vs σ H Q
 len:∀ds ρ ρ',gf ds ρ=some ρ'->ds.length=n
def gfName (i:Nat):FG:=fun d ρ=>if freeSlot ρ i=true then some (ρ.set i (some (.v d))) else none
theorem c8 (i:Nat){x:Str}(hN:X.N.Nodup)(hi:X.N[i]? =some x:=by rfl)(hx:Loc X.env.scope x:=by first|exact Or.inl rfl|exact Or.inr rfl)(hf:X.fn x=true\/X.env.scope.names.lookup x=some .local:=by first|exact .inl rfl|exact .inr rfl):QG X (.Name x pos) (gfName i):=
 ⟨gName i,a71 hN hi hx hf,fun P O L d v ρ ρ' σ H Q r h e q=>by
  unfold gfName at e;split at e
  ·rename_i hf;cases e;exact q _ H (r.put hf h)
  ·cases e⟩
def gfNil:FGs:=fun ds ρ=>match ds with
 | []=>some ρ
 | _=>none
def gfCons (gf:FG) (gs:FGs):FGs:=fun ds ρ=>match ds with
 | d::ds=>(gf d ρ).bind (gs ds)
 | _=>none
def gfTup (gs:FGs):FG:=fun d ρ=>match d with
 | .tup ds=>gs ds ρ
 | _=>none
theorem t5:QGs X [] 0 gfNil:=⟨⟨gNil,b2m,fun P O L ds vs ρ ρ' σ H Q r l e q=>by
 cases ds with
 | nil=>cases e;rw[DenL] at l;exact⟨l,q σ H r⟩
 | cons d ds=>cases e⟩,fun ds ρ ρ' e=>by cases ds with|nil=>rfl|cons d ds=>cases e⟩
theorem holdL {P:List (D×V)}{O:Av}{L:List (Option Nat×Addr)}{σ:L2.St}:∀{ds:List D} {vs:List V} {ρ:Ev} {H:Hp},Rep X P O L ρ σ H->DenL X.K (AvO O ρ σ) H ds vs->∃P',Rep X P' O L ρ σ H/\∀ρ2 σ2 H2,Rep X P' O L ρ2 σ2 H2->Rep X P O L ρ2 σ2 H2/\DenL X.K (AvO O ρ2 σ2) H2 ds vs
 | [],vs,ρ,H,r,l=>⟨P,r,fun ρ2 σ2 H2 r2=>⟨r2,by rw[DenL] at l ⊢;exact l⟩⟩
 | d::ds,vs,ρ,H,r,l=>by
  rw[DenL] at l;obtain⟨v,rs,rfl,h,l⟩:=l;obtain⟨P',r1,k1⟩:=holdL r l
  exact⟨(d,v)::P',r1.more h,fun ρ2 σ2 H2 r2=>by
   obtain⟨r3,l3⟩:=k1 ρ2 σ2 H2 r2.less
   exact⟨r3,z9 r2.head l3⟩⟩
theorem c9 {n:Nat}{tgs:List Expr}{tg:Expr}{gf:FG}{gs:FGs}(h:QG X tg gf)(t:QGs X tgs n gs)(hs:(assignEach (tg::tgs) X.env).map (·.2)=assign tg X.env::(assignEach tgs X.env).map (·.2):=by rfl):QGs X (tg::tgs) (n+1) (gfCons gf gs):=by
 obtain⟨g,p,k⟩:=h.to;obtain⟨gg,pp,kk⟩:=t.to;refine⟨⟨gCons g gg,a9z p pp hs,fun P O L ds vs ρ ρ' σ H Q r l e q=>?_⟩,fun ds ρ ρ' e=>?_⟩
 ·cases ds with
  | nil=>cases e
  | cons d ds=>
   rw[DenL] at l;obtain⟨v,rs,rfl,hd,l⟩:=l;simp only[gfCons] at e;obtain⟨ρ1,e1,e⟩:=obs e;obtain⟨P',r1,k1⟩:=holdL r l;refine⟨v,rs,rfl,k P' O L d v ρ ρ1 σ H _ r1 hd e1 fun σ' H' r2=>?_⟩;obtain⟨r3,l3⟩:=k1 _ _ _ r2;exact kk P O L ds rs ρ1 ρ' σ' H' Q r3 l3 e q
 ·cases ds with
  | nil=>cases e
  | cons d ds=>
   simp only[gfCons] at e;cases e1:gf d ρ with
   | none=>rw[e1] at e;cases e
   | some ρ1=>rw[e1] at e;rw[zU,t.len ds ρ1 ρ' e]
theorem z6 {tgs:List Expr}{n k:Nat}{gs:FGs}(hc:X.calm=true)(h:QGs X tgs n gs)(hn:(assignEach tgs X.env).length=n:=by rfl)(hst:(assignEach tgs X.env).findIdx? (·.1)=none:=by rfl):QG X (.Tuple tgs k pos) (gfTup gs):=by
 obtain⟨gg,pp,kk⟩:=h.to;refine⟨gTup X.K n gg,b4Q hc pp hn hst,fun P O L d v ρ ρ' σ H Q r hd e q=>?_⟩;cases d with
 | tup ds=>
  rw[Den] at hd;obtain⟨a,vs,ev,hq,l⟩:=hd;exact⟨a,vs,ev,hq,by rw[<-g8 l];exact h.len ds ρ ρ' e,kk P O L ds vs ρ ρ' σ H Q r l e q⟩
 | _=>cases e
def gfSub (f g:FX):FG:=fun d ρ=>(f ρ).bind fun p=>match p.1 with
 | .r j=>(g p.2).bind fun q=>(dr q.2 q.1.fz).bind fun k=>match k,ownAt q.2 j with
  | .int k,some (.lst xs)=>(ixN xs.length k).map fun n=>setOwn q.2 j (.lst (xs.set n d))
  | _,_=>none
 | _=>none
theorem a5T (ha:QX X a f)(hb:QX X b g)(hs:∀v,assign (.Subscript a b pos) X.env v=(do
   let ov <-holding [v] (eval a X.env)
   let iv <-holding [v,ov] (eval b X.env)
   standAt pos
   holding [v,ov,iv] (setItem ov iv v)
   release [v,ov,iv] []):=by intro _;rfl):QG X (.Subscript a b pos) (gfSub f g):=by
 refine⟨_,b4x ha.to hb.to a97 hs,fun P O L d v ρ ρ' σ H Q r hd e q=>?_⟩;unfold gfSub at e;obtain⟨⟨w1,ρ1⟩,e1,e⟩:=obs e;dsimp only at e;split at e
 ·rename_i w1 j;obtain⟨⟨w2,ρ2⟩,e2,e⟩:=obs e;dsimp only at e;cases e3:dr ρ2 w2.fz with
  | none=>rw[e3] at e;cases e
  | some k=>
   rw[e3] at e;simp only[bind_some] at e;split at e
   ·rename_i _ _ i xs e4;obtain⟨n,e5,e⟩:=oms e;cases e;have r0:Rep X ((d,v)::P) O L ρ σ H:=r.more hd;refine⟨(d,v)::P,O,L,ρ,_,ρ1,r0,e1,fun o H1 H1' r1 s1 d1=>?_⟩;have d1:σ[j]? =some (some o):=d1;refine⟨(d,v)::P,O,L,ρ1,w2,ρ2,r1.grow s1,e2,fun u H2 H2' r2 s2 d2=>?_⟩;have r3:=r2.grow s2;have ki:=u6 (P7 r3 e3 (d2.fz r2 s2));obtain⟨w0,q0,ow⟩:=J7 e4;obtain⟨pa,h1,vs,h2,l⟩:=r3.obj q0 ow;rw[d1] at h1;cases h1;have av:∀b,AvO O (setOwn ρ2 j (.lst (xs.set n d))) σ b->AvO O ρ2 σ b:=fun b z=>z.imp id fun z=>(a2H e4 b).mp z;refine⟨pa,vs,i,n,rfl,ki,h2,by rw[<-g8 l];exact e5,q σ _ ((r3.less).mut e4 d1 (fun b o eb nb=>by rw[k8 nb];exact eb) ⟨_,C3,?_⟩)⟩
    have g0:Go (AvO O ρ2 σ) (AvO O ρ2 σ) (fun b=>b=pa) H2' (upd H2' pa (.lst (vs.set n v))):=⟨fun b o eb nb=>by rw[k8 nb];exact eb,fun b z=>by rw[z];exact⟨.inr ⟨j,w0,_,q0,ow,d1⟩,_,h2,trivial⟩,fun b z=>.inl z⟩
    exact F2 g0 _ _ (a6L r3.head n l)
   ·cases e
 ·cases e
def fAsgG (f:FX) (gf:FG):FS:=fun ρ=>(f ρ).bind fun p=>(takeAll p.2 [p.1.fz]).bind fun q=>match q.1 with
 | [d]=>(gf d q.2).map .nx
 | _=>none
theorem w9 {tg:Expr}{gf:FG}(ha:QX X e f)(hg:QG X tg gf)(hs:swapsWithSole [tg] e pos.line X.env=pure false:=by rfl)(hw:swappedStores [tg] e X.env=pure none:=by rfl)(h1:(assignEach [tg] X.env).map (·.2)=[assign tg X.env]:=by rfl):QS X (.Assign [tg] e pos) (fAsgG f gf):=by
 obtain⟨g,p,k⟩:=hg.to;refine⟨PS.weak (b3V ha.to p hs hw h1) fun E σ H h0=>tSe h0 fun P O L ρ r rp e q=>?_⟩;unfold fAsgG at e;obtain⟨⟨w,ρ1⟩,e1,e⟩:=obs e;dsimp only at e;obtain⟨⟨ds,ρ2⟩,e2,e⟩:=obs e;dsimp only at e;split at e
 ·rename_i d;obtain⟨ρ3,e3,e⟩:=oms e;cases e;refine⟨P,O,L,ρ,w,ρ1,rp,e1,fun v H1 H' r1 s1 d1=>?_⟩;obtain⟨r2,l2,_⟩:=D7 (vs:=[v]) (r1.grow s1) e2 ⟨v,[],rfl,d1.fz r1 s1,rfl⟩;obtain⟨v',ev,h'⟩:=denL1 l2;cases ev;exact k P O L d v ρ2 ρ3 σ H' _ r2 h' e3 fun σ' H' r'=>q σ' H' r'
 ·cases e
def fDrop (f:FX):FS:=fun ρ=>(f ρ).map fun p=>.nx p.2
theorem J0 (ha:QX X e f)(hs:swapsWith e none pos.line X.env=pure false:=by rfl):QS X (.Expr e pos) (fDrop f):=⟨PS.weak (b2t ha.to hs) fun E σ H h0=>tSe h0 fun P O L ρ r rp e q=>by
 unfold fDrop at e;obtain⟨p,e1,e⟩:=oms e;cases e
 exact⟨P,O,L,ρ,p.1,p.2,rp,e1,fun v H1 H' r1 s1 d1=>q σ H' (r1.grow s1)⟩⟩
def fPar (i j:Nat) (fa:FA):FS:=fun ρ=>(fa ρ).bind fun p=>(takeAll p.2 p.1).bind fun q=>match q.1 with
 | [d,d']=>if freeSlot q.2 i=true/\freeSlot (q.2.set i (some (.v d))) j=true then some (.nx ((q.2.set i (some (.v d))).set j (some (.v d')))) else none
 | _=>none
theorem a6b (i j:Nat){x y:Str}{px py pt:Pos}{kt k2 pt2}(hc:X.calm=true)(hN:X.N.Nodup)(ha:QA X [a,b] fa)(hw:swappedStores [.Tuple [.Name x px,.Name y py] kt pt] (.Tuple [a,b] k2 pt2) X.env=pure (some [x,y]))(hi:X.N[i]? =some x:=by rfl)(hj:X.N[j]? =some y:=by rfl)(hij:i≠j:=by decide)
  (hx:X.env.scope.names.lookup x=some .local:=by rfl) (hy:X.env.scope.names.lookup y=some .local:=by rfl)
  (hs:swapsWithSole [.Tuple [.Name x px,.Name y py] kt pt] (.Tuple [a,b] k2 pt2) pos.line X.env=pure false:=by rfl):
  QS X (.Assign [.Tuple [.Name x px,.Name y py] kt pt] (.Tuple [a,b] k2 pt2) pos) (fPar i j fa):=⟨PS.weak (b4s hc hN hi hj hij hx hy ha.to hw hs) fun E σ H h0=>tSe h0 fun P O L ρ r rp e q=>by
 unfold fPar at e;obtain⟨⟨ws,ρ1⟩,e1,e⟩:=obs e;dsimp only at e;obtain⟨⟨ds,ρ2⟩,e2,e⟩:=obs e;dsimp only at e;split at e
 ·rename_i d d';split at e
  ·rename_i hf;cases e;refine⟨P,O,L,ρ,ws,ρ1,rp,e1,fun vs H1 r1 l1=>?_⟩;obtain⟨r2,l2,_⟩:=D7 r1 e2 l1;obtain⟨v,v',rfl,h,h'⟩:=denL2 l2;have r3:=(r2.more (p:=(d',v')) h').put (i:=i) hf.1 h;exact⟨v,v',rfl,q _ H1 (r3.less.put (i:=j) hf.2 r3.head)⟩
  ·cases e
 ·cases e⟩
end
def whileF (c:FT) (b:FS):Nat->Ev->Option R
 | 0,_=>none
 | n+1,ρ=>(c ρ).bind fun k=>if k.1=true then(b k.2).bind (fun r=>match r with
   | .nx ρ'=>whileF c b n ρ'
   | .ct ρ'=>whileF c b n ρ'
   | .bk ρ'=>some (.nx ρ')
   | .rt d ρ'=>some (.rt d ρ')) else some (.nx k.2)
theorem a0D {c:FT}{b:FS}:∀{n:Nat} {ρ:Ev} {r:R},whileF c b n ρ=some r->whileF c b (n+1) ρ=some r
 | 0,ρ,r,h=>by cases h
 | n+1,ρ,r,h=>by
  rw[whileF] at h ⊢;cases e:c ρ with
  | none=>rw[e] at h;cases h
  | some k=>
   rw[e] at h;obtain⟨k,ρ1⟩:=k;cases k with
   | false=>exact h
   | true=>
    simp only[bind_some,qT] at h ⊢;cases e2:b ρ1 with
    | none=>rw[e2] at h;cases h
    | some r2=>
     rw[e2] at h;cases r2 with
     | nx ρ'=>exact a0D (n:=n) h
     | ct ρ'=>exact a0D (n:=n) h
     | bk ρ'=>exact h
     | rt d ρ'=>exact h
theorem a5f {c:FT}{b:FS}{n m:Nat}{ρ:Ev}{r:R}(h:whileF c b n ρ=some r)(hm:n<=m):whileF c b m ρ=some r:=by
 induction hm with
 | refl=>exact h
 | step _ ih=>exact a0D ih
open Classical in
def whileV (c:FT) (b:FS):FS:=fun ρ=>if h:∃r,∃n,whileF c b n ρ=some r then some h.choose else none
theorem a8m {c:FT}{b:FS}{n:Nat}{ρ:Ev}{r:R}(h:whileF c b n ρ=some r):whileV c b ρ=some r:=by
 have z:∃r,∃n,whileF c b n ρ=some r:=⟨r,n,h⟩;unfold whileV;rw[dif_pos z];obtain⟨m,hm⟩:=z.choose_spec;have h1:=a5f h (Nat.le_max_left n m);have h2:=a5f hm (Nat.le_max_right n m);rw[h1] at h2;exact h2.symm
theorem a8E {c:FT}{b:FS}{ρ:Ev}{r:R}(h:whileV c b ρ=some r):∃n,whileF c b n ρ=some r:=by
 unfold whileV at h;split at h
 ·rename_i z;cases h;exact z.choose_spec
 ·cases h
section
variable {X:Cx}{a b c e:Expr}{body:List Stmt}{pos:Pos}{f g:FX}{t:FT}{fa:FA}{F:FS}
theorem a60 (hp:PassesOwn (model X.prog X.w) X.A X.env X.xe)(hc:QT X c t)(hb:QSs X body F):QS X (.While c body [] pos) (whileV t F):=⟨PS.weak (a9L hp hc.to hb.to) fun E σ H h0=>tSe h0 fun P O L ρ r rp e q=>by
 obtain⟨n,e⟩:=a8E e;refine⟨fun m σ H=>∃ρ,Rep X P O L ρ σ H/\whileF t F m ρ=some r,⟨n,ρ,rp,e⟩,fun m σ H ⟨ρ,rp,e⟩=>?_⟩;cases m with
 | zero=>cases e
 | succ m=>
  rw[whileF] at e;obtain⟨⟨k,ρ1⟩,e1,e⟩:=obs e;refine⟨P,O,L,ρ,k,ρ1,rp,e1,fun H1 r1=>?_⟩;cases k with
  | false=>
   rw[if_neg zW];cases e;exact q σ H1 r1
  | true=>
   rw[if_pos rfl];simp only[bind_some,qT] at e;obtain⟨r2,e2,e⟩:=obs e;refine⟨fun σ' H'=>∃ρ,Rep X P O L ρ σ' H'/\whileF t F m ρ=some r,fun σ' H' h=>⟨m,Nat.lt_succ_self m,h⟩,P,O,L,ρ1,r2,r1,e2,?_⟩;cases r2 with
   | nx ρ'=>exact fun σ' H' rp'=>⟨ρ',rp',e⟩
   | ct ρ'=>exact fun σ' H' rp'=>⟨ρ',rp',e⟩
   | bk ρ'=>cases e;exact fun σ' H' rp'=>q σ' H' rp'
   | rt d ρ'=>cases e;exact q⟩
abbrev FI:=Ev->Option (List D×Ev)
def Wks (K:PySem.W.Frag) (P:List (D×V)) (xs:List D) (J:It):Prop:=∀(Y:Cx) (O:Av) (L:List (Option Nat×Addr)) (ρ:Ev) (σ:L2.St) (H:Hp),Y.K=K->Rep Y P O L ρ σ H->
 (∀(i:Nat) (x:D),xs[i]? =some x->J.go i H/\∀v H',J.yld i H v H'->Same H H'/\Den K (AvO O ρ σ) H' x v)/\J.stop xs.length H
def Holds (P P':List (D×V)):Prop:=∀p∈P',p∈P
theorem Rep.holds {P P':List (D×V)}{O:Av}{L:List (Option Nat×Addr)}{ρ:Ev}{σ:L2.St}{H:Hp}(r:Rep X P O L ρ σ H)(h:Holds P P'):Rep X P' O L ρ σ H:=⟨r.same,r.amb,r.len,r.slot,r.inj,r.new,r.lnt,r.lnd,fun p hp=>r.prot p (h p hp),r.gvl⟩
def tI (X:Cx) (fi:FI):TI:=fun σ H R=>∃P O L ρ xs ρ',Rep X P O L ρ σ H/\fi ρ=some (xs,ρ')/\∀J H1 P',Rep X P' O L ρ' σ H1->Holds P' P->Wks X.K P' xs J->R J H1
theorem tIe {X:Cx}{fi:FI}{σ:L2.St}{H:Hp}{R:It->Hp->Prop}{C:Prop}(h:tI X fi σ H R)(k:∀P O L ρ xs ρ',Rep X P O L ρ σ H->fi ρ=some (xs,ρ')->(∀J H1 P',Rep X P' O L ρ' σ H1->Holds P' P->Wks X.K P' xs J->R J H1)->C):C:=by
 obtain⟨P,O,L,ρ,w,ρ',r,e,q⟩:=h;exact k P O L ρ w ρ' r e q
structure QI (X:Cx) (tg iter:Expr) (fi:FI):Prop where
 to:PI X tg iter (tI X fi)
theorem PI.weak {tg e:Expr}{t u:TI}(h:PI X tg e t)(w:∀σ H Q,u σ H Q->t σ H Q):PI X tg e u:=fun pins s σ H Q I q=>h pins s σ H Q I (w σ H Q q)
def iSeq (K:PySem.W.Frag) (tl:TE):TI:=fun σ H R=>tl σ H fun x H1=>(∃a,x= .ref a/\(∃xs,SqL K H1 a xs)/\R (Itl K a) H1)\/∃a,x= .ref a/\(∃xs,SqT K H1 a xs)/\R (Itt K a) H1
theorem b0E {tg l:Expr}{tl:TE}(hl:PE X l tl):PI X tg l (iSeq X.K tl):=by
 intro pins s σ H R I h;refine thn (hl pins s σ H _ I h) fun v s1 ⟨x,H1,I1,r1,q1⟩=>?_;rcases q1 with ⟨a,e,⟨xs,hq⟩,q⟩|⟨a,e,⟨xs,hq⟩,q⟩
 ·subst e;cases r1;obtain⟨its,rv,p,hz⟩:=I1.list hq;refine wpAny_pyIter_list p.isList ?_;refine⟨s1.heap.objs.size,[s1.heap.objs.size],_,_,H1,rfl,I1.kept (t':=s1.toks) fun b o e=>zN _ e,a86 a _,⟨_,qB _ rfl,rfl,rfl⟩,fun b hb=>?_,q⟩;have e:b=s1.heap.objs.size:=by simpa using hb
  subst e;exact I1.fpOk (zI _) (I1.hok.fresh (zI _))
 ·subst e;cases r1;obtain⟨its,rv,p,hz⟩:=I1.tuple hq;refine wpAny_pyIter_tuple (show s1.heap.IsTuple a its.toArray from p) ?_;refine⟨s1.heap.objs.size,[s1.heap.objs.size],_,_,H1,rfl,I1.kept (t':=s1.toks) fun b o e=>zN _ e,a7z a _,⟨_,qB _ rfl,rfl,rfl⟩,fun b hb=>?_,q⟩;have e:b=s1.heap.objs.size:=by simpa using hb
  subst e;exact I1.fpOk (zI _) (I1.hok.fresh (zI _))
def fiSeq (f:FX):FI:=fun ρ=>(f ρ).bind fun p=>(takeAll p.2 [p.1.fz]).bind fun q=>match q.1 with
 | [d]=>(items d).map fun xs=>(xs,q.2)
 | _=>none
theorem V7 {tg l:Expr}(hl:QX X l f):QI X tg l (fiSeq f):=⟨PI.weak (b0E hl.to) fun σ H R h0=>tIe h0 fun P O L ρ xs ρ' r e q=>by
 unfold fiSeq at e;obtain⟨⟨w,ρ1⟩,e1,e⟩:=obs e;dsimp only at e;obtain⟨⟨ds,ρ2⟩,e2,e⟩:=obs e;dsimp only at e;split at e
 ·rename_i d;obtain⟨ys,e3,e⟩:=oms e;cases e;refine⟨P,O,L,ρ,w,ρ1,r,e1,fun v H1 H' r1 s1 d1=>?_⟩;obtain⟨r2,l2,_⟩:=D7 (vs:=[v]) (r1.grow s1) e2 ⟨v,[],rfl,d1.fz r1 s1,rfl⟩;obtain⟨v',ev,h'⟩:=denL1 l2;cases ev;have r3:=r2.more (p:=(d,v)) h';have hh:Holds ((d,v)::P) P:=fun p hp=>zH _ hp;cases d with
  | tup zs=>
   cases e3;have z:=h';rw[Den] at z;obtain⟨a,vs,rfl,hq,l⟩:=z;refine .inr ⟨a,rfl,⟨vs,hq⟩,q _ H' _ r3 hh fun Y O' L' ρ' σ' Hh hY rr=>?_⟩;have z:=rr.head;rw[hY] at z;rw[Den] at z;obtain⟨a',vs,ea,hq,l⟩:=z;cases ea;refine⟨fun i x ex=>?_,vs,hq,by rw[<-g8 l];exact zI _⟩
   obtain⟨v0,hv,dv⟩:=L3 l ex;exact⟨⟨vs,v0,hq,hv⟩,fun w H' ⟨y1,y2⟩=>by subst y1;have:=y2 vs hq;rw[hv] at this;cases this;exact⟨Same.refl _,dv⟩⟩
  | lst zs=>
   cases e3;obtain⟨a,vs,rfl,hq,l⟩:=Y8 h';refine .inl ⟨a,rfl,⟨vs,hq⟩,q _ H' _ r3 hh fun Y O' L' ρ' σ' Hh hY rr=>?_⟩;have z:=rr.head;rw[hY] at z;obtain⟨a',vs,ea,hq,l⟩:=Y8 z;cases ea;refine⟨fun i x ex=>?_,vs,hq,by rw[<-g8 l];exact zI _⟩
   obtain⟨v0,hv,dv⟩:=L3 l ex;exact⟨⟨vs,v0,hq,hv⟩,fun w H' ⟨y1,y2⟩=>by subst y1;have:=y2 vs hq;rw[hv] at this;cases this;exact⟨Same.refl _,dv⟩⟩
  | _=>cases e3
 ·cases e⟩
def rngD (lo:Int) (n:Nat):List D:=(List.range n).map fun(i:Nat)=>D.int (lo+i)
theorem a5b {K:PySem.W.Frag}{P:List (D×V)}(lo:Int)(n:Nat):Wks K P (rngD lo n) (Itr lo n):=fun Y O L ρ σ H _ _=>by
 unfold rngD;refine⟨fun i x ex=>?_,by show(List.length _)≥n;simp⟩
 rw[qU] at ex
 by_cases hi:i<n
 ·rw[List.getElem?_range hi] at ex;cases ex;exact⟨hi,fun v H' ⟨y1,y2⟩=>by subst y1;exact⟨Same.refl _,W5.mpr y2⟩⟩
 ·rw[List.getElem?_eq_none (by simpa using hi)] at ex;cases ex
def fiR1 (fa:FA):FI:=fun ρ=>(fa ρ).bind fun p=>match p.1 with
 | [.v (.int n)]=>if -(2^62)<=n/\n<2^62 then some (rngD 0 n.toNat,p.2) else none
 | _=>none
theorem a6x {tg:Expr}{p:Pos}(hm:X.mg "range"=none)(ha:QA X [a] fa)(hg:Gl X "range":=by rfl)(hs:starEach [a] X.env=[(false,eval a X.env)]:=by rfl):QI X tg (.Call (.Name "range" p) [a] [] pos) (fiR1 fa):=⟨PI.weak (a9i hg hm ha.to hs) fun σ H R h0=>tIe h0 fun P O L ρ xs ρ' r e q=>by
 unfold fiR1 at e;obtain⟨⟨ws,ρ1⟩,e1,e⟩:=obs e;dsimp only at e;split at e
 ·rename_i n;split at e
  ·rename_i hn;cases e;refine⟨P,O,L,ρ,_,_,r,e1,fun vs H1 r1 l1=>?_⟩;obtain⟨v,rs,rfl,h1,l1⟩:=l1;have l1:rs=[]:=l1;have h1:Den X.K (AvO O ρ' σ) H1 (.int n) v:=h1;subst l1;exact⟨n,by rw[W5.mp h1],hn.1,hn.2,q _ H1 P r1 (fun p hp=>hp) (a5b 0 _)⟩
  ·cases e
 ·cases e⟩
def fiR2 (fa:FA):FI:=fun ρ=>(fa ρ).bind fun p=>match p.1 with
 | [.v (.int m),.v (.int n)]=>if(-(2^62)<=m/\m<2^62)/\-(2^62)<=n/\n<2^62 then some (rngD m (n-m).toNat,p.2) else none
 | _=>none
theorem qi_r2 {tg:Expr}{p:Pos}(hm:X.mg "range"=none)(ha:QA X [a,b] fa)(hg:Gl X "range":=by rfl)(hs:starEach [a,b] X.env=[(false,eval a X.env),(false,eval b X.env)]:=by rfl)(hs2:starEach [b] X.env=[(false,eval b X.env)]:=by rfl):QI X tg (.Call (.Name "range" p) [a,b] [] pos) (fiR2 fa):=⟨PI.weak (a8R hg hm ha.to hs hs2) fun σ H R h0=>tIe h0 fun P O L ρ xs ρ' r e q=>by
 unfold fiR2 at e;obtain⟨⟨ws,ρ1⟩,e1,e⟩:=obs e;dsimp only at e;split at e
 ·rename_i m n;split at e
  ·rename_i hn;cases e;refine⟨P,O,L,ρ,_,_,r,e1,fun vs H1 r1 l1=>?_⟩;obtain⟨v,rs,rfl,h1,u,rs',rfl,h2,l1⟩:=l1;have l1:rs'=[]:=l1;have h1:Den X.K (AvO O ρ' σ) H1 (.int m) v:=h1;have h2:Den X.K (AvO O ρ' σ) H1 (.int n) u:=h2;subst l1;exact⟨m,n,by rw[W5.mp h1,W5.mp h2],⟨hn.1.1,hn.1.2,hn.2.1,hn.2.2⟩,q _ H1 P r1 (fun p hp=>hp) (a5b m _)⟩
  ·cases e
 ·cases e⟩
def loopF (b:D->FS):List D->Ev->Option R
 | [],ρ=>some (.nx ρ)
 | x::xs,ρ=>(b x ρ).bind fun r=>match r with
  | .nx ρ'=>loopF b xs ρ'
  | .ct ρ'=>loopF b xs ρ'
  | .bk ρ'=>some (.nx ρ')
  | .rt d ρ'=>some (.rt d ρ')
def turnF (gf:FG) (b:FS):D->FS:=fun x ρ=>(gf x ρ).bind b
def fFor (fi:FI) (gf:FG) (b:FS):FS:=fun ρ=>(fi ρ).bind fun p=>loopF (turnF gf b) p.1 p.2
theorem a0d {tg iter:Expr}{fi:FI}{gf:FG}(hp:PassesOwn (model X.prog X.w) X.A X.env X.xe)(hc:X.calm=true)(hi:QI X tg iter fi)(hg:QG X tg gf)(hb:QSs X body F)(hs:∀x,foldedSetIterable iter X.env x=pure x:=by intro _;rfl):
  QS X (.For tg iter body [] pos) (fFor fi gf F):=by
 obtain⟨g,pg,kg⟩:=hg.to;refine⟨PS.weak (b0D hp hc hi.to pg hb.to hs) fun E σ H h0=>tSe h0 fun P O L ρ r rp e q=>?_⟩;unfold fFor at e;obtain⟨⟨xs,ρ1⟩,e1,e⟩:=obs e;dsimp only at e;refine⟨P,O,L,ρ,xs,ρ1,rp,e1,fun J H1 P' r1 hh wk=>?_⟩;refine⟨fun i m σ H=>m=xs.length-i/\i<=xs.length/\∃ρ,Rep X P' O L ρ σ H/\loopF (turnF gf F) (xs.drop i) ρ=some r,⟨xs.length,by simp,qK _,ρ1,r1,by simpa using e⟩,?_⟩
 rintro i m σ H ⟨rfl,hi,ρ,rp,e⟩;obtain⟨wi,ws⟩:=wk X O L ρ σ H rfl rp
 by_cases hlt:i<xs.length
 ·obtain⟨go,yl⟩:=wi i xs[i] (by simp[hlt])
  refine .inr ⟨go,fun σ' H'=>∃ρ,Rep X P' O L ρ σ' H'/\loopF (turnF gf F) (xs.drop (i+1)) ρ=some r,fun σ' H' h=>⟨xs.length-(i+1),by omega,rfl,hlt,h⟩,fun v H' y=>?_⟩
  obtain⟨sm,dv⟩:=yl v H' y;rw[xE hlt,loopF] at e;cases e1:turnF gf F xs[i] ρ with
  | none=>rw[e1] at e;cases e
  | some r1=>
   rw[e1] at e;simp only[bind_some] at e;unfold turnF at e1;obtain⟨ρ1,e2,e1⟩:=obs e1;refine kg P' O L xs[i] v ρ ρ1 σ _ _ (rp.grow sm) dv e2 fun σ' H2 rp'=>⟨P',O,L,ρ1,r1,rp',e1,?_⟩;cases r1 with
   | nx ρ2=>exact fun σ2 H2 rp2=>⟨ρ2,rp2,e⟩
   | ct ρ2=>exact fun σ2 H2 rp2=>⟨ρ2,rp2,e⟩
   | bk ρ2=>cases e;exact fun σ2 H2 rp2=>q σ2 H2 (rp2.holds hh)
   | rt d ρ2=>cases e;exact q
 ·have ei:i=xs.length:=by omega
  subst ei;rw[drop_length,loopF] at e;cases e;exact .inl ⟨ws,q σ H (rp.holds hh)⟩
end
def spF (K:PySem.W.Frag) (g:List D->Option W):Sp:=fun vs H Q _=>∃(A:Av) (ds:List D) (w:W),(∀b,A b->∃o,H b=some o)/\DenL K A H ds vs/\g ds=some w/\∀v H',Same H H'->DenW K A [] H H' w v->Q v H'
structure FnS (P:Program) (w:World) (K:PySem.W.Frag) (mg:Str->Option Value) (base:Heap) (x:Str) (k:Nat) (sp:Sp):Prop where
 ex:∃(f:Addr) (fd:FuncData) (ps:List Str),FnOk P w K mg base CX0 k f fd ps sp/\Binds K fd ps []/\PySem.W.keepIn K (.ref f)=true/\mg x=some (.ref f)
abbrev Fn (P:Program) (w:World) (K:PySem.W.Frag) (mg:Str->Option Value) (base:Heap) (x:Str) (k:Nat) (g:List D->Option W):Prop:=FnS P w K mg base x k (spF K g)
section
variable {P:Program}{w:World}{K:PySem.W.Frag}{mg:Str->Option Value}{base:Heap}{x:Str}{j k:Nat}
theorem FnS.mono {sp:Sp}(F:FnS P w K mg base x j sp)(h:j<=k):FnS P w K mg base x k sp:=by
 obtain⟨f,fd,ps,a,b,c,d⟩:=F.ex;exact⟨f,fd,ps,a.mono h,b,c,d⟩
end
def lfC:D->Bool
 | .lst xs=>lfL xs
 | .dT _ xs=>lfL xs
 | .dK _ xs=>lfL xs
 | _=>false
def lfW:W->Bool
 | .v d=>lf d
 | .o d=>lfC d
 | _=>false
def frzL:List W->Ev->Option Ev
 | [],ρ=>some ρ
 | .r i::ws,ρ=>(frzAt ρ i).bind (frzL ws)
 | _::ws,ρ=>frzL ws ρ
def fDef (g:List D->Option W) (fa:FA):FX:=fun ρ=>(fa ρ).bind fun p=>(drs p.2 p.1).bind fun ds=>(g ds).bind fun w=>if lfW w=true then some (w,p.2) else(frzL p.1 p.2).map fun ρ2=>(w,ρ2)
def noR (i:Nat):List W->Bool
 | []=>true
 | .r j::ws=>i != j&&noR i ws
 | _::ws=>noR i ws
def fDefL (g:D->List D->Option (W×D)) (fa:FA):FX:=fun ρ=>(fa ρ).bind fun p=>match p.1 with
 | .r i::ws=>(ownAt p.2 i).bind fun c=>(drs p.2 ws).bind fun ds=>(g c ds).bind fun z=>if noR i ws=true/\lfC z.2=true then(if lfW z.1=true then some (z.1,setOwn p.2 i z.2) else(frzL ws (setOwn p.2 i z.2)).map fun ρ2=>(z.1,ρ2)) else none
 | _=>none
section
variable {K:PySem.W.Frag}{A A':Av}{H H':Hp}
theorem a5H (g:∀b o,H b=some o->¬Mu o->H' b=some o){a:Addr}{d:D}(f:lfC d=true)(hk:H' a=H a)(h:Obj K A H a d):Obj K A' H' a d:=by
 cases d with
 | lst xs=>obtain⟨vs,e,l⟩:=h;exact⟨vs,hk.trans e,a2d g _ _ f l⟩
 | dT ks xs=>obtain⟨vs,e,hl,l⟩:=h;exact⟨vs,hk.trans e,hl,a2d g _ _ f l⟩
 | dK ks xs=>obtain⟨vs,e,hl,l⟩:=h;exact⟨vs,hk.trans e,hl,a2d g _ _ f l⟩
 | _=>exact h.elim
end
section
variable {X:Cx}{P:List (D×V)}{O:Av}{L:List (Option Nat×Addr)}{ρ ρ':Ev}{σ:L2.St}{H:Hp}
theorem a1q:∀{ws:List W} {ρ ρ':Ev},Rep X P O L ρ σ H->frzL ws ρ=some ρ'->Rep X P O L ρ' σ H/\∀(j:Nat) (w:W) (d:D),ρ'[j]? =some (some w)->w.own=some d->ρ[j]? =some (some w)/\W.r j∉ws
 | [],ρ,ρ',r,e=>by cases e;exact⟨r,fun j w d e1 _=>⟨e1,by simp⟩⟩
 | .r i::ws,ρ,ρ',r,e=>by
  rw[frzL] at e;obtain⟨ρ1,e1,e⟩:=obs e;obtain⟨r1,k1⟩:=r.frz e1;obtain⟨r2,k2⟩:=a1q r1 e;refine⟨r2,fun j w d e1 e2=>?_⟩;obtain⟨a1,a2⟩:=k2 j w d e1 e2;obtain⟨b1,b2⟩:=k1 j w d a1 e2;exact⟨b1,fun z=>(zT.mp z).elim (fun z=>by cases z;exact b2 rfl) a2⟩
 | .v _::ws,ρ,ρ',r,e=>by
  obtain⟨r2,k2⟩:=a1q (ws:=ws) r e;exact⟨r2,fun j w d e1 e2=>⟨(k2 j w d e1 e2).1,fun z=>(zT.mp z).elim (fun z=>by cases z) (k2 j w d e1 e2).2⟩⟩
 | .o _::ws,ρ,ρ',r,e=>by
  obtain⟨r2,k2⟩:=a1q (ws:=ws) r e;exact⟨r2,fun j w d e1 e2=>⟨(k2 j w d e1 e2).1,fun z=>(zT.mp z).elim (fun z=>by cases z) (k2 j w d e1 e2).2⟩⟩
 | .l _::ws,ρ,ρ',r,e=>by
  obtain⟨r2,k2⟩:=a1q (ws:=ws) r e;exact⟨r2,fun j w d e1 e2=>⟨(k2 j w d e1 e2).1,fun z=>(zT.mp z).elim (fun z=>by cases z) (k2 j w d e1 e2).2⟩⟩
def Handed (ρ:Ev) (σ:L2.St) (ws:List W) (b:Addr):Prop:=∃(i:Nat) (w:W) (d:D),W.r i∈ws/\ρ[i]? =some (some w)/\w.own=some d/\σ[i]? =some (some (V.ref b))
theorem a1p {B:Av}(r:Rep X P O L ρ σ H)(hB:∀b,B b->AvO O ρ σ b):∀{ws:List W} {ds:List D} {vs:List V},(∀b,B b->¬Handed ρ σ ws b)->drs ρ ws=some ds->DenA X.K (AvO O ρ σ) σ H ws vs->DenL X.K B H ds vs
 | [],ds,vs,n,e,h=>by cases e;have h:vs=[]:=h;subst h;exact A8
 | w::ws,ds,vs,n,e,h=>by
  obtain⟨v,rs,rfl,h1,h2⟩:=h;rw[drs] at e;cases e1:dr ρ w with
  | none=>rw[e1] at e;cases e
  | some d=>
   cases e2:drs ρ ws with
   | none=>rw[e1,e2] at e;cases e
   | some dd=>
    rw[e1,e2] at e;cases e;refine z9 ?_ (a1p r hB (fun b z y=>n b z (let ⟨i,w,d,m,q⟩:=y;⟨i,w,d,zH _ m,q⟩)) e2 h2);cases w with
    | v c=>cases e1;exact C6 (L5 hB) _ _ h1
    | r i=>
     have h1:σ[i]? =some (some v):=h1;rw[dr] at e1;cases q:ρ[i]? with
     | none=>rw[q] at e1;cases e1
     | some o=>
      rw[q] at e1;cases o with
      | none=>cases e1
      | some w'=>
       cases w' with
       | v c=>
        cases e1;obtain⟨u,q1,q2⟩:=r.slot i _ q;rw[h1] at q1;cases q1;exact C6 (L5 hB) _ _ q2
       | _=>
        obtain⟨a,q1,q2⟩:=r.obj q e1;rw[h1] at q1;cases q1;exact a2k (M0 (L5 hB) rfl q2) fun z=>n a z ⟨i,_,d,zG,q,e1,h1⟩
    | _=>cases e1
theorem a4a {ws:List W}(r:Rep X P O L ρ σ H)(k:∀(j:Nat) (w:W) (d:D),ρ'[j]? =some (some w)->w.own=some d->ρ[j]? =some (some w)/\W.r j∉ws){b:Addr}(z:AvO O ρ' σ b):AvO O ρ σ b/\¬Handed ρ σ ws b:=by
 refine⟨z.imp id fun⟨j,w,d,e1,e2,e3⟩=>⟨j,w,d,(k j w d e1 e2).1,e2,e3⟩,fun⟨i,w,d,m,q1,q2,q3⟩=>?_⟩;rcases z with z|⟨j,w',d',e1,e2,e3⟩
 ·exact r.ambN z ⟨i,w,d,q1,q2,q3⟩
 ·obtain⟨a1,a2⟩:=k j w' d' e1 e2
  have:=r.inj i j w w' d d' b q1 q2 q3 a1 e2 e3
  subst this;exact a2 m
end
section
variable {X:Cx}{e:Expr}{es:List Expr}{pos p:Pos}{fa:FA}{x:Str}{k:Nat}
theorem a6p {g:List D->Option W}:∀σ H Q,tX X (fDef g fa) σ H Q->tCall (spF X.K g) [] E0 (tA X fa) σ H Q:=fun σ H Q h0=>tXe h0 fun P O L ρ w ρ' r e q=>by
 unfold fDef at e;obtain⟨⟨ws,ρ1⟩,e1,e⟩:=obs e;dsimp only at e;cases e2:drs ρ1 ws with
 | none=>rw[e2] at e;cases e
 | some ds=>
  rw[e2] at e;simp only[bind_some] at e;cases e3:g ds with
  | none=>rw[e3] at e;cases e
  | some w1=>
   rw[e3] at e;simp only[bind_some] at e;refine⟨P,O,L,ρ,ws,ρ1,r,e1,fun vs H1 r1 l1=>?_⟩;refine⟨fun b=>AvO O ρ1 σ b/\¬Handed ρ1 σ ws b,ds,w1,fun b z=>r1.there z.1,by rw[jT];exact a1p r1 (fun b z=>z.1) (fun b z=>z.2) e2 l1,e3,fun v H2 s2 d2=>?_⟩
   split at e
   ·rename_i hl;cases e;refine q v H1 H2 r1 s2 ?_;cases w with
    | v d=>exact a90 (fun _ _ e _=>e) _ _ hl d2
    | o d=>obtain⟨a,ev,hn,ob⟩:=d2;exact⟨a,ev,hn,a5H (fun _ _ e _=>e) hl rfl ob⟩
    | _=>cases hl
   ·obtain⟨ρ2,e4,e⟩:=oms e;cases e;obtain⟨r2,k2⟩:=a1q r1 e4;refine q v H1 H2 r2 s2 ?_;have sub:=fun b (z:AvO O ρ' σ b)=>a4a r1 k2 z;cases w with
    | v d=>exact C6 (L5 sub) _ _ d2
    | o d=>obtain⟨a,ev,hn,ob⟩:=d2;exact⟨a,ev,hn,M0 (L5 fun b z=>z.imp (sub b) id) rfl ob⟩
    | r i=>exact absurd d2 (by simp[DenW])
    | l d=>exact d2.elim
theorem g5 {g:List D->Option W}(F:Fn X.prog X.w X.K X.mg X.base x k g)(hr:Room k X.A)(ha:QA X (e::es) fa)(hg:Gl X x:=by rfl)(hdb:(x==("__debug__":Str))=false:=by decide)
  (he:starEach (e::es) X.env=(false,eval e X.env)::starEach es X.env:=by rfl) (hpl:(backTo pos (starEach es X.env)).any (·.1)=false:=by rfl):QX X (.Call (.Name x p) (e::es) [] pos) (fDef g fa):=by
 obtain⟨f,fd,ps,F,b,kp,hm⟩:=F.ex;exact⟨PE.weak (b1h F hr hg hm kp b .nil pass0 ha.to hdb he hpl) a6p⟩
theorem b2p {g:List D->Option W}(F:Fn X.prog X.w X.K X.mg X.base x k g)(hr:Room k X.A)(hg:Gl X x:=by rfl)(hdb:(x==("__debug__":Str))=false:=by decide):QX X (.Call (.Name x p) [] [] pos) (fun ρ=>(g []).map fun w=>(w,ρ)):=by
 obtain⟨f,fd,ps,F,b,kp,hm⟩:=F.ex;refine⟨PE.weak (a9D F hr hg hm kp b .nil pass0 hdb) fun σ H Q h0=>tXe h0 fun P O L ρ w ρ' r e q=>?_⟩;obtain⟨w1,e1,e⟩:=oms e;cases e;exact⟨AvO O ρ σ,[],w,fun b z=>r.there z,A8,e1,fun v H2 s2 d2=>q v H H2 r s2 d2.st⟩
end
def start0 (n:Nat) (ds:List D):Ev:=ds.map (fun d=>some (.v d))++List.replicate (n-ds.length) none
def runD (np n:Nat) (G:FS):List D->Option W:=fun ds=>if ds.length=np then match G (start0 n ds) with
 | some (.rt w _)=>some w
 | some (.nx _)=>some (.v .non)
 | _=>none else none
def runL (np n:Nat) (G:FS):D->List D->Option (W×D):=fun c ds=>if ds.length+1=np then match G (some (.l c)::start0 (n-1) ds) with
 | some (.rt w ρ)=>(ownAt ρ 0).map fun c'=>(w,c')
 | some (.nx ρ)=>(ownAt ρ 0).map fun c'=>(.v .non,c')
 | _=>none else none
section
variable {P:Program}{w:World}{K:PySem.W.Frag}{mg:Str->Option Value}{base:Heap}
theorem U9 {n i:Nat}{ds:List D}{w:W}(e:(start0 n ds)[i]? =some (some w)):∃d,ds[i]? =some d/\w= .v d:=by
 unfold start0 at e
 by_cases hi:i<ds.length
 ·rw[qC (by simpa using hi),qU] at e
  cases q:ds[i]? with
  | none=>rw[q] at e;cases e
  | some d0=>rw[q] at e;cases e;exact⟨d0,rfl,rfl⟩
 ·rw[qI (by simpa using hi),List.getElem?_replicate] at e
  split at e<;>cases e
theorem a2V {X:Cx}{ds:List D}{vs:List V}{n:Nat}{N:List Str}{H:Hp}{A:Av}(hH:X.H₀=H)(hN:N.length=n)(hA:∀b,A b->∃o,H b=some o)(l:DenL X.K A H ds vs):Rep X [] A [] (start0 n ds) (start N vs) H where
 same:=fun b o e _=>by rw[<-hH];exact e
 amb:=fun b z=>by rw[hH];exact⟨hA b z,fun i=>by simp⟩
 len:=by unfold start0 L2.start;simp[g8 l,hN]
 slot:=fun i w e=>by
  obtain⟨d,q,rfl⟩:=U9 e;obtain⟨v,h1,h2⟩:=L3 l q;refine⟨v,?_,C6 (L5 fun b z=>?_) _ _ h2⟩
  ·unfold L2.start;rw[qC (by have:=(zM.mp h1).1;simpa using this),qU,h1];rfl
  ·rcases z with z|⟨j,w,c,e1,e2,e3⟩
   ·exact z
   ·obtain⟨d',q',rfl⟩:=U9 e1;cases e2
 inj:=fun i j w w' d d' b e1 e2=>by obtain⟨_,_,rfl⟩:=U9 e1;cases e2
 new:=fun i d b e=>by obtain⟨_,_,z⟩:=U9 e;cases z
 lnt:=fun i d e=>by obtain⟨_,_,z⟩:=U9 e;cases z
 lnd:=fun i b e=>by simp at e
 prot:=fun p hp=>by cases hp
 gvl:=fun b e=>by simp at e
theorem z8 {x:Str}{st:Stmt}{f:Addr}{fd:FuncData}{N ps:List Str}{k np n:Nat}{G:FS}(F:Fun K x x st f fd)(S:FnScope N ps (defScope st))(B:Binds K fd ps [])(hm:mg x=some (.ref f))(hp:ps.length=np)(hn:N.length=n)
  (body:∀(cdv:Value) (A:Around) (outer:List Env) (s:Shared) (H:Hp) (E:XK),Room k (A.deeper (envOfC x (defScope st) s.heap.objs.size f cdv))->
   QSs (cxOf CX0 P w K mg base N x (defScope st) f cdv A outer s H E).nox (defBody st) G):Fn P w K mg base x (k+1) (runD np n G):=by
 refine⟨f,fd,ps,F.ok S (fun vs H Q E h0=>?_) (fun cdv A outer s H vs Q E hr h0=>⟨_,(body cdv A outer s H E hr).to,?_⟩),B,F.kp,hm⟩
 ·obtain⟨A,ds,d,hA,l,e,q⟩:=h0;unfold runD at e;split at e
  ·rename_i hl;rw[<-g8 l,hl,hp]
  ·cases e
 ·obtain⟨A',ds,d,hA,l,e,q⟩:=h0;unfold runD at e;split at e
  ·rename_i hl;cases e1:G (start0 n ds) with
   | none=>rw[e1] at e;cases e
   | some r=>
    rw[e1] at e;refine⟨[],A',[],_,r,a2V rfl hn hA l,e1,?_⟩;have hz:∀{w:W} {v:V} {H':Hp},DenW K (A0 A' []) [] H H' w v->DenW K A' [] H H' w v:=fun{w v H'} h=>by
     have e0:A0 A' []=A':=funext fun b=>propext ⟨fun z=>z.elim id fun⟨i,z⟩=>by simp at z,.inl⟩
     rw[e0] at h;exact h
    cases r with
    | rt w ρ'=>cases e;exact fun v H' s' _ d1=>q v H' (fun b o eb=>s' b o eb fun i=>by simp) (hz d1)
    | nx ρ'=>cases e;exact fun σ' H' rp'=>q .non H' (fun b o eb=>rp'.same b o eb fun i=>by simp) a6G
    | bk ρ'=>cases e
    | ct ρ'=>cases e
  ·cases e
end
@[elab_as_elim] theorem us1 {α:Type} {C:List α->Prop} {us:List α} (h:us.length=1) (k:∀a,C [a]):C us:=by
 match us,h with
 | [a],_=>exact k a
@[elab_as_elim] theorem us2 {α:Type} {C:List α->Prop} {us:List α} (h:us.length=2) (k:∀a b,C [a,b]):C us:=by
 match us,h with
 | [a,b],_=>exact k a b
section
variable {X:Cx}{a b e:Expr}{es:List Expr}{pos:Pos}{f g h:FX}{t u:FT}
theorem a3I {K:PySem.W.Frag}{A:Av}{H:Hp}{i:Bool}{v:V}(h:DenR K A H (.bl i) v):v= .bl i:=by
 have h:Den K A H (.bl i) v:=h;exact a2E.mp h
theorem B6 {K:PySem.W.Frag}{A:Av}{H:Hp}{i:Str}{v:V}(h:DenR K A H (.str i) v):v= .str i:=by
 have h:Den K A H (.str i) v:=h;exact V8.mp h
theorem a2g {K:PySem.W.Frag}{A:Av}{H:Hp}{v:V}(h:DenR K A H .non v):v= .non:=by
 have h:Den K A H .non v:=h;exact a7R.mp h
def tyD:D->String
 | .non=>"NoneType"
 | .bl _=>"bool"
 | .int _=>"int"
 | .str _=>"str"
 | .tup _=>"tuple"
 | .dT _ _=>"dict"
 | .dK _ _=>"dict"
 | _=>"list"
def isX:D->Bool
 | .exn _=>true
 | .fn _=>true
 | _=>false
def isiB (T:String) (d:D):Bool:=tyD d==T||(tyD d == "bool" && T == "int")
def Kit (K:PySem.W.Frag) (T:String):Prop:=∀d:D,PySem.W.kitOne K (.type (tyD d)) (.type T)=some (isiB T d)
theorem a24 {K:PySem.W.Frag}{T:String}(h:T="int"\/T="bool"\/T="str"\/T="tuple"\/T="list"):Kit K T:=by
 rcases h with h|h|h|h|h<;>subst h<;>intro d<;>cases d<;>rfl
theorem b0v {T:String}(hk:Kit X.K T):CallR X (.builtin "isinstance") (fun xs H Q=>∃x A d,xs=[x,.ty T]/\isX d=false/\DenR X.K A H d x/\Q (.bl (isiB T d)) H):=by
 intro pins s σ H xs us Q I r h;obtain⟨x,A,d,rfl,nx,hd,q⟩:=h;obtain⟨u,w,rfl,ru,rw'⟩:=vals2 r;cases(show w=Value.type T from rw');have e:=hk d;have fin:∀tk,EP X pins σ Q (.bool (isiB T d)) {s with toks:=tk}:=fun tk=>⟨.bl _,H,I.tok _,rfl,q⟩
 cases d with
 | non=>have hd:=a2g hd;subst hd;cases(show u=Value.none from ru);exact jG PySem.W.kitx_none I.kIn True.intro e (fun z=>nomatch z) fin
 | bl y=>have hd:=a3I hd;subst hd;cases(show u=Value.bool y from ru);exact jG PySem.W.kitx_bool I.kIn True.intro e (fun z=>nomatch z) fin
 | int i=>have hd:=u6 hd;subst hd;obtain⟨t,z⟩:=(show ∃t,u=Value.int i t from ru);cases z;exact jG PySem.W.kitx_int I.kIn True.intro e (fun z=>nomatch z) fin
 | str y=>have hd:=B6 hd;subst hd;obtain⟨t,z⟩:=(show ∃t,u=Value.str y t from ru);cases z;exact jG PySem.W.kitx_str I.kIn True.intro e (fun z=>nomatch z) fin
 | tup ys=>
  have hd:Den X.K A H (.tup ys) x:=hd;rw[Den] at hd;obtain⟨a,vs,rfl,hq,_⟩:=hd;cases(show u=Value.ref a from ru);obtain⟨its,_,p,_⟩:=I.tuple hq;obtain⟨o,h1,h2,_⟩:=p;exact jG PySem.W.kitx_tuple I.kIn ⟨o,h1,h2⟩ e (fun z=>nomatch z) fin
 | lst ys=>
  obtain⟨a,vs,rfl,hq,_⟩:=hd;cases(show u=Value.ref a from ru);obtain⟨its,_,p,_⟩:=I.list hq;obtain⟨o,n,h1,h2,_⟩:=p;exact jG PySem.W.kitx_list I.kIn ⟨o,h1,h2⟩ e (fun z=>nomatch z) fin
 | dK ks ys=>
  obtain⟨a,vs,rfl,hq,_⟩:=hd;cases(show u=Value.ref a from ru);obtain⟨_,_,vs,_,p⟩:=(show ObjOk X.prog X.w H s.heap a (.dK _) from I.hok a _ hq);obtain⟨o,es,h1,h2,_⟩:=p;exact jG PySem.W.kitx_dict I.kIn ⟨o,h1,h2.1⟩ e (fun z=>nomatch z) fin
 | dT ks ys=>
  obtain⟨a,vs,rfl,hq,_⟩:=hd;cases(show u=Value.ref a from ru);obtain⟨_,_,xs,_,o,es,h1,h2,_⟩:=(show ObjOk X.prog X.w H s.heap a (.dT _) from I.hok a _ hq);exact jG PySem.W.kitx_dict I.kIn ⟨o,h1,h2.1⟩ e (fun z=>nomatch z) fin
 | exn C=>cases nx
 | fn f=>cases nx
def oIsi (T:String) (d:D):Option W:=if isX d=true then none else some (.v (.bl (isiB T d)))
theorem a3c {T:String}{x:Str}{p p2:Pos}(hk:Kit X.K T)(hm:X.mg "isinstance"=none)(hmT:X.mg x=none)(ha:QX X e f)(hT:bootBuiltins x=some (.type T):=by rfl)(hb:bootBuiltins "isinstance"=some (.builtin "isinstance"):=by rfl)(hg:Gl X "isinstance":=by rfl)(hgT:Gl X x:=by rfl)(hn:x≠"__name__":=by decide)(hdb:(x==("__debug__":Str))=false:=by decide)
  (he:starEach [e,.Name x p2] X.env=(false,eval e X.env)::starEach [.Name x p2] X.env:=by rfl) (hpl:(backTo pos (starEach [.Name x p2] X.env)).any (·.1)=false:=by rfl) (hs:starEach [.Name x p2] X.env=(false,eval (.Name x p2) X.env)::starEach [] X.env:=by rfl):QX X (.Call (.Name "isinstance" p) [e,.Name x p2] [] pos) (fUn (oIsi T) f):=
 ⟨PE.weak (a1h (b0v hk) hg hm hb (Q8 ha.to (Q8 (a8f (v:=.ty T) hgT hmT hT rfl hn hdb) a2R hs) he) (by decide) (by decide) he hpl) fun σ H Q h=>
  a2s (r:=fun v H Q=>∃x A d,[v,V.ty T]=[x,.ty T]/\isX d=false/\DenR X.K A H d x/\Q (.bl (isiB T d)) H) (fun A x w v H Q _ e hx q=>by
   unfold oIsi at e;split at e
   ·cases e
   ·rename_i nx;cases e;exact⟨v,A,x,rfl,by simpa using nx,hx,q _ H (Same.refl H) C5⟩) σ H Q h⟩
def isD:D->D->Option Bool
 | .non,.non=>some true
 | d,.non=>some false
 | .bl a,.bl b=>some (a==b)
 | _,.bl _=>some false
 | _,_=>none
theorem is_of {M:Model}{A:Around}{E:Value->Shared->Prop}{s:Shared}{x y:Value}{k:Bool}{Q:Value->Shared->Prop}(h:isSame x y=pure k)(q:Q (.bool k) s):wpAny M A (compareOp .Is x y) Q E s:=by
 show wpAny M A (isSame x y >>=fun b=>pure (Value.bool b)) Q E s;rw[h];exact zK q
theorem b0B {M:Model}{A:Around}{E:Value->Shared->Prop}{s:Shared}{x y:Value}{k:Bool}{Q:Value->Shared->Prop}(h:isSame x y=pure k)(q:Q (.bool (!k)) s):wpAny M A (compareOp .IsNot x y) Q E s:=by
 show wpAny M A (isSame x y >>=fun b=>pure (Value.bool (!b))) Q E s;rw[h];exact zK q
theorem b0e {K:PySem.W.Frag}{A:Av}{H:Hp}{x:D}{v:V}{vv:Value}(hx:DenR K A H x v)(rx:RelV v vv):(x= .non/\vv= .none)\/(∃b,x= .bl b/\vv= .bool b)\/(∃i t,x= .int i/\vv= .int i t)\/(∃y t,x= .str y/\vv= .str y t)\/((∀b,x≠.bl b)/\x≠.non/\∃a,v= .ref a/\vv= .ref a):=by
 cases x with
 | non=>have h:=a2g hx;subst h;exact .inl ⟨rfl,rx⟩
 | bl b=>have h:=a3I hx;subst h;exact .inr (.inl ⟨b,rfl,rx⟩)
 | int i=>have h:=u6 hx;subst h;obtain⟨t,e⟩:=(show ∃t,vv=Value.int i t from rx);exact .inr (.inr (.inl ⟨i,t,rfl,e⟩))
 | str i=>have h:=B6 hx;subst h;obtain⟨t,e⟩:=(show ∃t,vv=Value.str i t from rx);exact .inr (.inr (.inr (.inl ⟨i,t,rfl,e⟩)))
 | tup xs=>
  have hx:Den K A H (.tup xs) v:=hx;rw[Den] at hx;obtain⟨a,vs,rfl,_⟩:=hx;exact .inr (.inr (.inr (.inr ⟨nofun,nofun,a,rfl,rx⟩)))
 | lst xs=>obtain⟨a,vs,rfl,_⟩:=hx;exact .inr (.inr (.inr (.inr ⟨nofun,nofun,a,rfl,rx⟩)))
 | dT ks xs=>obtain⟨a,vs,rfl,_⟩:=hx;exact .inr (.inr (.inr (.inr ⟨nofun,nofun,a,rfl,rx⟩)))
 | dK ks xs=>obtain⟨a,vs,rfl,_⟩:=hx;exact .inr (.inr (.inr (.inr ⟨nofun,nofun,a,rfl,rx⟩)))
 | exn C=>
  have hx:Den K A H (.exn C) v:=hx;rw[Den] at hx;obtain⟨a,rfl,_⟩:=hx;exact .inr (.inr (.inr (.inr ⟨nofun,nofun,a,rfl,rx⟩)))
 | fn f=>
  have hx:Den K A H (.fn f) v:=hx;rw[Den] at hx;subst hx;exact .inr (.inr (.inr (.inr ⟨nofun,nofun,f,rfl,rx⟩)))
theorem a7N {K:PySem.W.Frag}{A:Av}{H:Hp}{x y:D}{v u:V}{vv uu:Value}{k:Bool}(e:isD x y=some k)(hx:DenR K A H x v)(hy:DenR K A H y u)(rx:RelV v vv)(ry:RelV u uu):isSame vv uu=pure k:=by
 cases y with
 | non=>
  have hy:=a2g hy;subst hy;cases(show uu=Value.none from ry);rw[PySem.isSame_none];rcases b0e hx rx with ⟨rfl,rfl⟩|⟨b,rfl,rfl⟩|⟨i,t,rfl,rfl⟩|⟨i,t,rfl,rfl⟩|⟨n1,n2,a,rfl,rfl⟩
  ·cases e;rfl
  ·cases e;rfl
  ·cases e;rfl
  ·cases e;rfl
  ·cases x<;>simp only[isD] at e<;>first|(cases e;rfl)|exact absurd rfl n2
 | bl q=>
  have hy:=a3I hy;subst hy;cases(show uu=Value.bool q from ry);rcases b0e hx rx with ⟨rfl,rfl⟩|⟨b,rfl,rfl⟩|⟨i,t,rfl,rfl⟩|⟨i,t,rfl,rfl⟩|⟨n1,n2,a,rfl,rfl⟩
  ·cases e;rfl
  ·cases e;cases b<;>cases q<;>rfl
  ·cases e;rfl
  ·cases e;rfl
  ·cases x<;>simp only[isD] at e<;>first|(cases e;rfl)|exact absurd rfl (n1 _)
 | _=>cases x<;>simp only[isD] at e<;>cases e
def rD2 (K:PySem.W.Frag) (t:D->D->Option Bool) (neg:Bool):R2:=fun v u H Q=>∃A x y k,t x y=some k/\DenR K A H x v/\DenR K A H y u/\Q (.bl (if neg then !k else k)) H
def oD2 (t:D->D->Option Bool) (neg:Bool) (x y:D):Option W:=(t x y).map fun k=>.v (.bl (if neg then !k else k))
theorem kD2 {t:D->D->Option Bool}{neg:Bool}:Pr2 X (oD2 t neg) (rD2 X.K t neg):=by
 intro A x y w v u H Q _ e hx hy q;unfold oD2 at e;cases e1:t x y with
 | none=>rw[e1] at e;cases e
 | some k=>rw[e1] at e;cases e;exact⟨A,x,y,k,e1,hx,hy,q _ H (Same.refl H) C5⟩
theorem b2T:OpR X (compareOp .Is) (rD2 X.K isD false):=by
 intro pins s σ H x y v u Q I rx ry ⟨A,dx,dy,k,e,hx,hy,q⟩;exact is_of (a7N e hx hy rx ry) ⟨.bl k,H,I,rfl,q⟩
theorem a8I:OpR X (compareOp .IsNot) (rD2 X.K isD true):=by
 intro pins s σ H x y v u Q I rx ry ⟨A,dx,dy,k,e,hx,hy,q⟩;exact b0B (a7N e hx hy rx ry) ⟨.bl (!k),H,I,rfl,q⟩
theorem a1w (ha:QX X a f)(hb:QX X b g):QT X (.Compare a [.Is] [b] pos) (fTest (fBin (oD2 isD false) f g)):=X1 b2T kD2 ha hb
theorem a9t (ha:QX X a f)(hb:QX X b g):QT X (.Compare a [.IsNot] [b] pos) (fTest (fBin (oD2 isD true) f g)):=X1 a8I kD2 ha hb
def flatE:D->D->Option Bool
 | .non,.non=>some true
 | .non,.int _=>some false
 | .int _,.non=>some false
 | .bl a,.bl b=>some (a==b)
 | .bl a,.int b=>some ((if a then 1 else 0)==b)
 | .int a,.bl b=>some (a==(if b then 1 else 0))
 | .int a,.int b=>some (a==b)
 | .str a,.str b=>some (a==b)
 | _,_=>none
def deqL (eq:D->D->Option Bool):List D->List D->Option Bool
 | [],[]=>some true
 | [],_::_=>some false
 | _::_,[]=>some false
 | x::xs,y::ys=>(eq x y).bind fun p=>(deqL eq xs ys).map fun q=>p&&q
def deq:Nat->D->D->Option Bool
 | 0,x,y=>flatE x y
 | n+1,.tup xs,.tup ys=>deqL (deq n) xs ys
 | n+1,.lst xs,.lst ys=>deqL (deq n) xs ys
 | _+1,x,y=>flatE x y
theorem a7T {K:PySem.W.Frag}{A:Av}{H:Hp}{x y:D}{v u:V}{k:Bool}(e:flatE x y=some k)(hx:DenR K A H x v)(hy:DenR K A H y u):Den K A H x v/\Den K A H y u:=by
 cases x<;>cases y<;>simp only[flatE] at e<;>cases e<;>exact⟨hx,hy⟩
theorem a5c {K:PySem.W.Frag}{O:Av}{H:Hp}{A:Around}{s:Shared}{x y:D}{v u:V}{vv uu:Value}{k:Bool}(e:flatE x y=some k)(hx:DenR K O H x v)(hy:DenR K O H y u)(rx:RelV v vv)(ry:RelV u uu):SeqAt.EqAt A s vv uu k/\SeqAt.RcAt A s vv uu k/\SeqAt.RcNeAt A s vv uu (!k):=by
 obtain⟨hx,hy⟩:=a7T e hx hy;cases x<;>cases y<;>simp only[flatE] at e<;>cases e<;>rw[Den] at hx<;>rw[Den] at hy<;>subst hx<;>subst hy
 ·cases(show vv=Value.none from rx);cases(show uu=Value.none from ry);exact⟨.same _,.none_none,.none_none⟩
 ·cases(show vv=Value.none from rx);obtain⟨t,z⟩:=(show ∃t,uu=Value.int _ t from ry);cases z;exact⟨.none_int _ _,.none_int _ _,.none_int _ _⟩
 ·cases(show vv=Value.bool _ from rx);cases(show uu=Value.bool _ from ry);exact⟨.bool_bool _ _,.bool_bool _ _,.bool_bool _ _⟩
 ·cases(show vv=Value.bool _ from rx);obtain⟨t,z⟩:=(show ∃t,uu=Value.int _ t from ry);cases z;exact⟨.bool_int _ _ _,.bool_int _ _ _,.bool_int _ _ _⟩
 ·cases(show uu=Value.none from ry);obtain⟨t,z⟩:=(show ∃t,vv=Value.int _ t from rx);cases z;exact⟨.int_none _ _,.int_none _ _,.int_none _ _⟩
 ·cases(show uu=Value.bool _ from ry);obtain⟨t,z⟩:=(show ∃t,vv=Value.int _ t from rx);cases z;exact⟨.int_bool _ _ _,.int_bool _ _ _,.int_bool _ _ _⟩
 ·obtain⟨t,z⟩:=(show ∃t,vv=Value.int _ t from rx);cases z;obtain⟨t,z⟩:=(show ∃t,uu=Value.int _ t from ry);cases z;exact⟨.int_int _ _ _ _,.int_int _ _ _ _,.int_int _ _ _ _⟩
 ·obtain⟨t,z⟩:=(show ∃t,vv=Value.str _ t from rx);cases z;obtain⟨t,z⟩:=(show ∃t,uu=Value.str _ t from ry);cases z;exact⟨.str_str _ _ _ _,.str_str _ _ _ _,.str_str _ _ _ _⟩
theorem a45 {K:PySem.W.Frag}{O:Av}{H:Hp}{x y:D}{v:V}{k:Bool}(e:flatE x y=some k)(hx:DenR K O H x v)(hy:DenR K O H y v):k=true:=by
 obtain⟨hx,hy⟩:=a7T e hx hy;cases x<;>cases y<;>simp only[flatE] at e<;>cases e<;>rw[Den] at hx<;>rw[Den] at hy
 all_goals first
  | rfl
  | (rw[hx] at hy;cases hy;simp)
  | (rw[hx] at hy;cases hy)
theorem a57 {K:PySem.W.Frag}{O:Av}{H:Hp}{A:Around}{s:Shared}{eq:D->D->Option Bool}(hq:∀x y v u vv uu k,eq x y=some k->Den K O H x v->Den K O H y u->RelV v vv->RelV u uu->SeqAt.EqAt A s vv uu k):
  ∀{xs ys:List D} {vs us:List V} {its jts:List Value} {k:Bool},deqL eq xs ys=some k->DenL K O H xs vs->DenL K O H ys us->Vals vs its->Vals us jts->
   ∃e:Nat->Bool,(∀j (h1:j<its.toArray.size) (h2:j<jts.toArray.size),SeqAt.EqAt A s its.toArray[j] jts.toArray[j] (e j))/\k=((List.range (min its.toArray.size jts.toArray.size)).all e&&its.toArray.size==jts.toArray.size)
 | [],[],vs,us,its,jts,k,e,hx,hy,rx,ry=>by
  rw[DenL] at hx hy;subst hx;subst hy;cases rx;cases ry;cases e;exact⟨fun _=>true,fun j h1 h2=>absurd h1 (by simp),rfl⟩
 | [],y::ys,vs,us,its,jts,k,e,hx,hy,rx,ry=>by
  rw[DenL] at hx;rw[DenL] at hy;subst hx;obtain⟨u,r,rfl,_,_⟩:=hy;cases rx;cases ry;cases e;exact⟨fun _=>true,fun j h1 h2=>absurd h1 (by simp),by simp⟩
 | x::xs,[],vs,us,its,jts,k,e,hx,hy,rx,ry=>by
  rw[DenL] at hx;rw[DenL] at hy;subst hy;obtain⟨u,r,rfl,_,_⟩:=hx;cases rx;cases ry;cases e;exact⟨fun _=>true,fun j h1 h2=>absurd h2 (by simp),by simp⟩
 | x::xs,y::ys,vs,us,its,jts,k,e,hx,hy,rx,ry=>by
  rw[DenL] at hx hy;obtain⟨v,r,rfl,dx,lx⟩:=hx;obtain⟨u,q,rfl,dy,ly⟩:=hy;cases rx with
  | cons r1 rs1=>
   cases ry with
   | cons r2 rs2=>
    rw[deqL] at e;cases e1:eq x y with
    | none=>rw[e1] at e;cases e
    | some p=>
     cases e2:deqL eq xs ys with
     | none=>rw[e1,e2] at e;cases e
     | some q2=>
      rw[e1,e2] at e;cases e;obtain⟨w,h1,h2⟩:=a57 hq e2 lx ly rs1 rs2;refine⟨fun j=>if j=0 then p else w (j-1),fun j g1 g2=>?_,?_⟩
      ·cases j with
       | zero=>simpa using hq x y v u _ _ p e1 dx dy r1 r2
       | succ j=>
        have z:=h1 j (by simpa using g1) (by simpa using g2)
        simp only[List.getElem_toArray] at z ⊢;simpa using z
      ·rw[h2];simp only[zX,zU];rw[show min (_+1) (_+1)=min _ _+1 from Nat.succ_min_succ _ _,List.range_succ_eq_map,List.all_cons,all_map];simp[Function.comp_def,Bool.and_assoc]
theorem a2O {K:PySem.W.Frag}{O:Av}{H:Hp}{eq:D->D->Option Bool}(hq:∀x y v k,eq x y=some k->Den K O H x v->Den K O H y v->k=true):
  ∀{xs ys:List D} {vs:List V} {k:Bool},deqL eq xs ys=some k->DenL K O H xs vs->DenL K O H ys vs->k=true
 | [],[],vs,k,e,hx,hy=>by cases e;rfl
 | [],y::ys,vs,k,e,hx,hy=>by have:=g8 hx;have:=g8 hy;simp at *;walk_at "o"
 | x::xs,[],vs,k,e,hx,hy=>by have:=g8 hx;have:=g8 hy;simp at *;walk_at "o"
 | x::xs,y::ys,vs,k,e,hx,hy=>by
  rw[DenL] at hx hy;obtain⟨v,r,rfl,dx,lx⟩:=hx;obtain⟨u,q,e0,dy,ly⟩:=hy;cases e0;rw[deqL] at e;cases e1:eq x y with
  | none=>rw[e1] at e;cases e
  | some p=>
   cases e2:deqL eq xs ys with
   | none=>rw[e1,e2] at e;cases e
   | some q2=>
    rw[e1,e2] at e;cases e;rw[hq x y v p e1 dx dy,a2O hq e2 lx ly];rfl
theorem a47 {n:Nat}{x y:D}{k:Bool}(e:deq (n+1) x y=some k):flatE x y=some k\/(∃xs ys,x= .tup xs/\y= .tup ys/\deqL (deq n) xs ys=some k)\/∃xs ys,x= .lst xs/\y= .lst ys/\deqL (deq n) xs ys=some k:=by
 cases x<;>cases y<;>first
  | exact .inl e
  | exact .inr (.inl ⟨_,_,rfl,rfl,e⟩)
  | exact .inr (.inr ⟨_,_,rfl,rfl,e⟩)
theorem L6 {K:PySem.W.Frag}{O:Av}{H:Hp}{xs:List D}{v:V}(h:DenR K O H (.tup xs) v):∃a vs,v= .ref a/\SqT K H a vs/\DenL K O H xs vs:=by
 have h:Den K O H (.tup xs) v:=h;rw[Den] at h;exact h
theorem a66 {O:Av}{pins:List (Addr×PySem.Obj)}{σ:L2.St}{H:Hp}{s:Shared}(I:Inv X pins σ H s):∀(n:Nat) (x y:D) (v:V) (k:Bool),deq n x y=some k->DenR X.K O H x v->DenR X.K O H y v->k=true
 | 0,x,y,v,k,e,hx,hy=>a45 e hx hy
 | n+1,x,y,v,k,e,hx,hy=>by
  have hs:∀x y v k,deq n x y=some k->Den X.K O H x v->Den X.K O H y v->k=true:=fun x y v k e hx hy=>a66 I n x y v k e (Y8 hx) (Y8 hy);rcases a47 e with e|⟨xs,ys,rfl,rfl,e⟩|⟨xs,ys,rfl,rfl,e⟩
  ·exact a45 e hx hy
  ·obtain⟨a,vs,rfl,q1,l1⟩:=L6 hx;obtain⟨b,us,z,q2,l2⟩:=L6 hy;cases z;rw[I.tuple_inj q2 q1] at l2;exact a2O hs e l1 l2
  ·obtain⟨a,vs,rfl,q1,l1⟩:=hx;obtain⟨b,us,z,q2,l2⟩:=hy;cases z;rw[I.list_inj q2 q1] at l2;exact a2O hs e l1 l2
theorem a7i {O:Av}{pins:List (Addr×PySem.Obj)}{σ:L2.St}{H:Hp}{s:Shared}(I:Inv X pins σ H s):∀(n:Nat) (A:Around),A.units+n+1<cLine->∀(x y:D) (v u:V) (vv uu:Value) (k:Bool),deq n x y=some k->DenR X.K O H x v->DenR X.K O H y u->RelV v vv->RelV u uu->
  SeqAt.EqAt A s vv uu k/\SeqAt.RcAt A s vv uu k/\SeqAt.RcNeAt A s vv uu (!k)
 | 0,A,hA,x,y,v,u,vv,uu,k,e,hx,hy,rx,ry=>a5c e hx hy rx ry
 | n+1,A,hA,x,y,v,u,vv,uu,k,e,hx,hy,rx,ry=>by
  have hin:∀x y v u vv uu k,deq n x y=some k->Den X.K O H x v->Den X.K O H y u->RelV v vv->RelV u uu->SeqAt.EqAt A.in1 s vv uu k:=fun x y v u vv uu k e hx hy rx ry=>(a7i I n A.in1 (by show A.units+1+n+1<_;walk_at "o") x y v u vv uu k e (Y8 hx) (Y8 hy) rx ry).1
  have hu:A.units<cLine:=by walk_at "o"
  have done:∀(p q:Addr),v= .ref p->u= .ref q->SeqAt.RcAt A s (.ref p) (.ref q) k->SeqAt.RcNeAt A s (.ref p) (.ref q) (!k)->SeqAt.EqAt A s vv uu k/\SeqAt.RcAt A s vv uu k/\SeqAt.RcNeAt A s vv uu (!k):=fun p q ev eu rc rn=>by
   subst ev;subst eu;cases(show vv=Value.ref p from rx);cases(show uu=Value.ref q from ry);refine⟨?_,rc,rn⟩
   by_cases pq:p=q
   ·subst pq;rw[a66 I (n+1) x y _ k e hx hy];exact .same _
   ·exact .of_refs pq rc
  rcases a47 e with e|⟨xs,ys,rfl,rfl,e⟩|⟨xs,ys,rfl,rfl,e⟩
  ·exact a5c e hx hy rx ry
  ·obtain⟨p,vs,ev,q1,l1⟩:=L6 hx;obtain⟨q,us,eu,q2,l2⟩:=L6 hy;obtain⟨its,r1,t1,_⟩:=I.tuple q1;obtain⟨jts,r2,t2,_⟩:=I.tuple q2;obtain⟨w,h1,h2⟩:=a57 hin e l1 l2 r1 r2;refine done p q ev eu ?_ ?_
   ·rw[h2];exact SeqAt.RcAt.tuples t1 t2 hu h1
   ·rw[h2];exact SeqAt.RcNeAt.tuples t1 t2 hu h1
  ·obtain⟨p,vs,ev,q1,l1⟩:=id hx;obtain⟨q,us,eu,q2,l2⟩:=id hy;obtain⟨its,r1,t1,_⟩:=I.list q1;obtain⟨jts,r2,t2,_⟩:=I.list q2;obtain⟨w,h1,h2⟩:=a57 hin e l1 l2 r1 r2
   by_cases sz:its.toArray.size=jts.toArray.size
   ·have r1:=SeqAt.RcAt.lists t1.isList t2.isList sz hu h1;have r2:=SeqAt.RcNeAt.lists t1.isList t2.isList sz hu h1;rw[sz,Nat.min_self,show(jts.toArray.size==jts.toArray.size)=true by simp,Bool.and_true] at h2
    rw[sz,<-h2] at r1 r2;exact done p q ev eu r1 r2
   ·have r1:=SeqAt.RcAt.lists_lengths (A:=A) t1.isList t2.isList (by simpa using sz) hu
    have r2:=SeqAt.RcNeAt.lists_lengths (A:=A) t1.isList t2.isList (by simpa using sz) hu
    rw[show(its.toArray.size==jts.toArray.size)=false by simpa using sz,Bool.and_false] at h2
    subst h2;exact done p q ev eu r1 r2
theorem a9B {k:Nat}(hr:Room k X.A):OpR X (compareOp .Eq) (rD2 X.K (deq 20) false):=by
 intro pins s σ H x y v u Q I rx ry ⟨A,dx,dy,k,e,hx,hy,q⟩
 have:=(a7i I 20 X.A (by have:=hr.units;walk_at "o") dx dy x y v u k e hx hy rx ry).2.1
 exact this X.prog X.w X.xe _ ⟨.bl k,H,I,rfl,q⟩
theorem b2S {k:Nat}(hr:Room k X.A):OpR X (compareOp .NotEq) (rD2 X.K (deq 20) true):=by
 intro pins s σ H x y v u Q I rx ry ⟨A,dx,dy,k,e,hx,hy,q⟩
 have:=(a7i I 20 X.A (by have:=hr.units;walk_at "o") dx dy x y v u k e hx hy rx ry).2.2
 exact this X.prog X.w X.xe _ ⟨.bl (!k),H,I,rfl,q⟩
theorem a9y {k:Nat}(hr:Room k X.A)(ha:QX X a f)(hb:QX X b g):QX X (.Compare a [.Eq] [b] pos) (fBin (oD2 (deq 20) false) f g):=a2L (a9B hr) kD2 ha hb
theorem E2 {k:Nat}(hr:Room k X.A)(ha:QX X a f)(hb:QX X b g):QT X (.Compare a [.Eq] [b] pos) (fTest (fBin (oD2 (deq 20) false) f g)):=X1 (a9B hr) kD2 ha hb
theorem S0 {k:Nat}(hr:Room k X.A)(ha:QX X a f)(hb:QX X b g):QT X (.Compare a [.NotEq] [b] pos) (fTest (fBin (oD2 (deq 20) true) f g)):=X1 (b2S hr) kD2 ha hb
end
section
variable {prog:Program}{w:World}{A:Around}{R:Result->Shared->Prop}{s:Shared}
abbrev Fa:Value->Shared->Prop:=fun _ _=>False
theorem a8G {elt tg iter:Expr}{ifs:List Expr}{scope:Scope}{pos:Pos}{it acc:Value}{env:Env}(I:Nat->Shared->Prop)
  (turn:∀n s,I n s->wpAny (model prog w) A (pyNext it) (fun r s1=>match r with
   | none=>R (.ok .next) s1
   | some v=>wpAny (model prog w) A (letOwnedTupleGo tg it v) (fun _ s2=>wpAny (model prog w) A (assign tg env v) (fun _ s3=>
     wpAny (model prog w) A (forIn ifs true fun c r=>if r=true then do let ok <-isTrue c env (eval c env);pure (ForInStep.yield ok) else pure (ForInStep.yield r)) (fun ok s4=>
      if ok=true then wpAny (model prog w) A (eval elt env) (fun x s5=>wpAny (model prog w) A (call (.builtin "list.append") [acc,x]) (fun _ s6=>∃m,m<n/\I m s6) Fa s5) Fa s4
      else ∃m,m<n/\I m s4) Fa s3) Fa s2) Fa s1) Fa s)
  (n:Nat) (h:I n s):codeAny (model prog w) A (.compLoop (.ListComp elt [⟨tg,iter,ifs,0⟩] scope pos) 0 it acc env) R s:=by
 refine codeAny_loop rfl I (fun n s hI=>?_) n h;show wpAny _ A ((compTurn (.ListComp elt [⟨tg,iter,ifs,0⟩] scope pos) 0 it acc env).onRaise (fun x=>do noteFrame x env;theTreesLotGoes x)) _ _ s
 refine wpAny_noted ?_;rw[compTurn_list];refine zA (xA (zA (zJ (turn n s hI) (fun r s1 h1=>?_) fun _ _ z=>z.elim)));cases r with
 | none=>exact zK h1
 | some v=>
  refine zA (zJ h1 (fun _ s2 h2=>zA (zJ h2 (fun _ s3 h3=>zA (zJ h3 (fun ok s4 h4=>?_) fun _ _ z=>z.elim)) fun _ _ z=>z.elim)) fun _ _ z=>z.elim);cases ok with
  | true=>
   rw[if_pos rfl] at h4 ⊢;exact zA (zA (zJ h4 (fun x s5 h5=>zA (zJ h5 (fun _ s6 h6=>zK (zK ⟨rfl,h6⟩)) fun _ _ z=>z.elim)) fun _ _ z=>z.elim))
  | false=>
   rw[if_neg zW] at h4 ⊢;exact zA (zK (zK ⟨rfl,h4⟩))
end
def blk (X:Cx) (scope:Scope) (cl:List (Str×Addr)) (s2:Shared) (H2:Hp) (fp:List Addr) (C:Addr) (N:List Str):Cx where
 prog:=X.prog
 w:=X.w
 K:=X.K
 mg:=X.mg
 base:=X.base
 A:=X.A
 N:=N
 s₀:=s2
 H₀:=H2
 env:=compEnvC scope cl C X.env
 outer:=X.stack
 stack:=X.stack
 ex:=fp
 fn:=fun _=>false
 calm:=X.calm
 pn:=[]
 xe:=fun _ _=>False
abbrev accN:Str:=" acc"
inductive Cap (X:Cx) (sc:Scope) (cl:List (Str×Addr)):List Str->List (Option Nat)->Prop where
 | nil:Cap X sc cl [] []
 | own {n:Str} {N:List Str} {js:List (Option Nat)} (t:Cap X sc cl N js):Cap X sc cl (n::N) (none::js)
 | cap {n:Str} {N:List Str} {j:Nat} {js:List (Option Nat)} (hj:X.N[j]? =some n) (hk:X.env.scope.names.lookup n=some .cell) (hl:sc.names.lookup n=some .cell) (hc:cl.lookup n=X.env.cells.lookup n) (t:Cap X sc cl N js):Cap X sc cl (n::N) (some j::js)
theorem Cap.len {X:Cx}{sc:Scope}{cl:List (Str×Addr)}{N:List Str}{js:List (Option Nat)}(h:Cap X sc cl N js):js.length=N.length:=by
 induction h with
 | nil=>rfl
 | own t ih=>simp[ih]
 | cap _ _ _ _ t ih=>simp[ih]
theorem Cap.get {X:Cx}{sc:Scope}{cl:List (Str×Addr)}{N:List Str}{js:List (Option Nat)}(h:Cap X sc cl N js):∀{i j:Nat} {n:Str},N[i]? =some n->js[i]? =some (some j)->X.N[j]? =some n/\X.env.scope.names.lookup n=some .cell/\sc.names.lookup n=some .cell/\cl.lookup n=X.env.cells.lookup n:=by
 induction h with
 | nil=>intro i j n e1 _;simp at e1
 | own t ih=>
  intro i j n e1 e2;cases i with
  | zero=>simp at e2
  | succ i=>exact ih (by simpa using e1) (by simpa using e2)
 | cap hj hk hl hc t ih=>
  intro i j n e1 e2;cases i with
  | zero=>simp at e1 e2;subst e1;subst e2;exact⟨hj,hk,hl,hc⟩
  | succ i=>exact ih (by simpa using e1) (by simpa using e2)
def capS (js:List (Option Nat)) (σ:L2.St):L2.St:=js.map fun o=>o.bind fun j=>(σ[j]?).join
structure Blk (X:Cx) (scope:Scope) (cl:List (Str×Addr)) (N:List Str) (js:List (Option Nat)):Prop where
 clos:closureFor scope X.env=pure cl
 kind:scope.kind= .function
 cell:∀y∈scope.names,y.2≠.cell
 nms:∀y∈scope.names,y.2= .local->scope.names.lookup y.1=some .local
 cap:Cap X (relabel scope X.env) cl N js
 sub:∀y c,cl.lookup y=some c->X.env.cells.lookup y=some c
 has:∀y,((relabel scope X.env).names.lookup y=some .cell\/(relabel scope X.env).names.lookup y=some .free)->∃c,cl.lookup y=some c
 acc:∀k,(relabel scope X.env).names.lookup accN≠some k
section
variable {X:Cx}{pins:List (Addr×PySem.Obj)}{σ:L2.St}{H2:Hp}{s2 s4:Shared}{scope:Scope}{cl:List (Str×Addr)}{N:List Str}{js:List (Option Nat)}{fp:List Addr}{Dd C:Addr}{m:Str->Option Value}
theorem b39 (I:Inv X pins σ H2 s2)(b:Blk X scope cl N js)(f2:∀y∈fp,FpOk X pins H2 y)(fl:∀y∈fp,y<s2.heap.objs.size)(hC:s2.heap.objs.size<=C):(blk X scope cl s2 H2 fp C (N++[accN])).Ok where
 mod:=I.ok.mod
 kind:=b.kind
 glob:=I.ok.glob
 blt:=I.ok.blt
 above:=hC
 inj:=fun x y c e1 e2=>I.ok.inj x y c (b.sub x c e1) (b.sub y c e2)
 has:=fun x h=>b.has x h
 cab:=fun x c h=>nomatch h
 hd:=I.ok.hd
 frames:=I.ok.frames
 stk:=.inl rfl
 exf:=fun y hy=>⟨zS (zF (fl y hy) hC),fun x c e=>(f2 y hy).2.2.2.2.1 x c (b.sub x c e)⟩
 bs:=I.bs
 bsz:=zO I.ok.bsz I.sz
 noex:=fun y o e hy=>by
  rcases(f2 y hy).2.2.2.1 with z|z
  ·exact I.ok.noex y o e z
  ·exact absurd (zF (zV e) (zO I.ok.bsz z)) (jO _)
 exfs:=fun y hy z=>(zT.mp (I.stkSub y z)).elim (f2 y hy).2.1 (f2 y hy).2.2.1
 funs:=I.stack
 frf:=I.stkFree
theorem a8h {o0:HO}(I:Inv X pins σ H2 s2)(b:Blk X scope cl N js)(f2:∀y∈fp,FpOk X pins H2 y)(fl:∀y∈fp,y<s2.heap.objs.size)(hC:s2.heap.objs.size<=C)(hD:s2.heap.objs.size<=Dd)(ne:Dd≠C)
  (ho:s4.os=s2.os) (hg:AllBare s4.gens) (kp:∀y o,s2.heap.get? y=some o->s4.heap.get? y=some o) (hn:s4.heap.Ns C m) (hk:HOk X.prog X.w (upd H2 Dd o0) s4.heap):
  Inv (blk X scope cl s2 H2 fp C (N++[accN])) [] (capS js σ++[some (.ref Dd)]) (upd H2 Dd o0) s4:=by
 have nD:∀y o,s2.heap.get? y=some o->y≠Dd:=fun y o e=>zS (zF (zV e) hD);have nH:∀y u,H2 y=some u->y≠Dd:=fun y u e=>zS (zF (I.hok.lt e) hD);have cD:∀x c,X.env.cells.lookup x=some c->c≠Dd:=fun x c e=>by
  obtain⟨v,o,e1,_⟩:=I.cell x c e;exact nD c o e1
 refine⟨b39 I b f2 fl hC,ho,hg,⟨fun y o e _ _ _=>kp y o e,fun y o e _ _ _=>⟨o.slots,kp y o e⟩,fun y o e n _=>?_,fun y o e _=>⟨o,kp y o e⟩,fun y xs e=>?_,fun y o u e=>?_,fun y ps e=>?_⟩,⟨m,hn,fun i x v e1 e2 e3=>?_⟩,fun x c e=>?_,?_,fun x c e=>?_,fun p hp=>absurd (show p∈([]:List (Addr×PySem.Obj)) from hp) (by simp),hk,?_⟩
 ·rw[k8 (nD y o e)];exact n
 ·rw[k8 (nH _ _ e)];exact e
 ·rw[k8 (nH _ _ e)];exact e
 ·have e':H2 y=some (.tbl ps):=e;exact⟨#[],by rw[k8 (nH _ _ e'),e'];simp⟩
 ·have hl:js.length=N.length:=b.cap.len
  by_cases hi:i<N.length
  ·have e1':N[i]? =some x:=by
    have z:(N++[accN])[i]? =some x:=e1;rw[qC hi] at z;exact z
   rw[qC (by unfold capS;simp;walk_at "o")] at e2
   unfold capS at e2;rw[qU] at e2;cases ej:js[i]? with
   | none=>rw[ej] at e2;cases e2
   | some o=>
    rw[ej] at e2;cases o with
    | none=>cases e2
    | some j=>
     obtain⟨c1,c2,c3,c4⟩:=b.cap.get e1' ej;simp only[qH,bind_some] at e2;have e2':σ[j]? =some (some v):=by
      cases q:σ[j]? with
      | none=>rw[q] at e2;cases e2
      | some o=>rw[q] at e2;simp at e2;rw[e2]
     obtain⟨m2,_,hl2⟩:=I.loc;obtain⟨u,r,lk⟩:=hl2 j x v c1 e2' (.inr (.inl c2));refine⟨u,r,.inr ⟨.inl c3,?_⟩⟩;rcases lk with ⟨k,_⟩|⟨_,c,e,z⟩
     ·have k':X.env.scope.names.lookup x=some .local:=k;rw[c2] at k';cases k'
     ·exact⟨c,c4.trans e,z.keeps kp⟩
  ·have hx:x=accN:=by
    have z:(N++[accN])[i]? =some x:=e1;rw[qI (by walk_at "o")] at z
    cases q:i-N.length with
    | zero=>rw[q] at z;simp at z;exact z.symm
    | succ k=>rw[q] at z;simp at z
   subst hx;rcases e3 with z|z|z
   ·exact absurd z (b.acc _)
   ·exact absurd z (b.acc _)
   ·exact absurd z (b.acc _)
 ·obtain⟨v,z⟩:=I.cell x c (b.sub x c e);exact⟨v,z.keeps kp⟩
 ·show upd H2 Dd o0 C=none;rw[k8 (qA ne)];exact I.hok.fresh hC
 ·rw[k8 (cD x c (b.sub x c e))];exact I.freeC x c (b.sub x c e)
 ·show(capS js σ++[some (V.ref Dd)]).length=(N++[accN]).length;unfold capS;simp[b.cap.len]
end
def AllC (X:Cx):List (Str×Addr)->Prop
 | []=>True
 | p::r=>X.env.cells.lookup p.1=some p.2/\AllC X r
theorem AllC.sub {X:Cx}:∀{cl:List (Str×Addr)},AllC X cl->∀y c,cl.lookup y=some c->X.env.cells.lookup y=some c
 | [],_,y,c,e=>by simp at e
 | (n,c0)::r,h,y,c,e=>by
  rw[List.lookup_cons] at e;cases q:y==n with
  | true=>
   rw[q] at e;cases e
   have:y=n:=by simpa using q
   rw[this];exact h.1
  | false=>rw[q] at e;exact AllC.sub h.2 y c e
theorem a4b {α:Type}:∀{l:List (Str×α)} {y:Str} {k:α},l.lookup y=some k->(y,k)∈l
 | [],y,k,e=>by simp at e
 | (n,a)::r,y,k,e=>by
  rw[List.lookup_cons] at e;cases q:y==n with
  | true=>
   rw[q] at e;cases e
   have:y=n:=by simpa using q
   rw[this];exact zG
  | false=>rw[q] at e;exact zH _ (a4b e)
section
variable {X:Cx}{scope:Scope}{cl:List (Str×Addr)}{N:List Str}{js:List (Option Nat)}
theorem G4 (cap:Cap X (relabel scope X.env) cl N js)(clos:closureFor scope X.env=pure cl)(sub:AllC X cl)(has:(relabel scope X.env).names.all (fun p=>(p.2 != .cell&&p.2 != .free)||(cl.lookup p.1).isSome)=true)(kind:scope.kind= .function:=by rfl)(cell:scope.names.all (fun y=>y.2 != .cell)=true:=by decide +kernel)
  (nms:scope.names.all (fun y=>y.2 != .local||scope.names.lookup y.1==some .local)=true:=by decide +kernel) (acc:(relabel scope X.env).names.lookup accN=none:=by rfl):Blk X scope cl N js where
 clos:=clos
 kind:=kind
 cell:=fun y hy=>by have:=qX.mp cell y hy;simpa using this
 nms:=fun y hy hl=>by have:=qX.mp nms y hy;rw[hl] at this;simpa using this
 cap:=cap
 sub:=sub.sub
 has:=fun y h=>by
  have key:∀k,(relabel scope X.env).names.lookup y=some k->k= .cell\/k= .free->∃c,cl.lookup y=some c:=fun k e hk=>by
   have:=qX.mp has (y,k) (a4b e)
   rcases hk with rfl|rfl<;>simpa [yC] using this
  rcases h with h|h
  ·exact key _ h (.inl rfl)
  ·exact key _ h (.inr rfl)
 acc:=fun k e=>by rw[acc] at e;cases e
end
def capW (k:Bool):W->Option W
 | .v d=>some (.v d)
 | .o d=>some (if k then .l d else .v d)
 | .l d=>some (if k then .l d else .v d)
 | .r _=>none
def capE (lj:Option Nat) (js:List (Option Nat)) (ρ:Ev):Ev:=js.map fun o=>o.bind fun j=>((ρ[j]?).join).bind (capW (lj==some j))
def Capd (ρ:Ev) (σ:L2.St) (js:List (Option Nat)) (b:Addr):Prop:=∃(j:Nat) (w:W) (d:D),some j∈js/\ρ[j]? =some (some w)/\w.own=some d/\σ[j]? =some (some (V.ref b))
def lentL (li:Option (Nat×Nat)) (σ:L2.St):List (Option Nat×Addr):=match li with
 | some (i,j)=>match σ[j]? with
  | some (some (.ref a))=>[(some i,a)]
  | _=>[]
 | none=>[]
structure LiOk (li:Option (Nat×Nat)) (js:List (Option Nat)) (ρ:Ev):Prop where
 own:∀i j,li=some (i,j)->∃c,ownAt ρ j=some c
 at':∀i j,li=some (i,j)->js[i]? =some (some j)
 one:∀i j k,li=some (i,j)->js[k]? =some (some j)->k=i
section
variable {X:Cx}{P:List (D×V)}{O:Av}{L:List (Option Nat×Addr)}{ρ:Ev}{σ:L2.St}{H2:Hp}{s2:Shared}{scope:Scope}{cl:List (Str×Addr)}{N:List Str}{js:List (Option Nat)}{fp:List Addr}{Dd C:Addr}{li:Option (Nat×Nat)}
theorem a2b {lj:Option Nat}{i:Nat}{w:W}(e:(capE lj js ρ)[i]? =some (some w)):∃j w0,js[i]? =some (some j)/\ρ[j]? =some (some w0)/\capW (lj==some j) w0=some w:=by
 unfold capE at e;rw[qU] at e;cases ej:js[i]? with
 | none=>rw[ej] at e;cases e
 | some o=>
  rw[ej] at e;cases o with
  | none=>cases e
  | some j=>
   simp only[qH,bind_some] at e;cases q:ρ[j]? with
   | none=>rw[q] at e;cases e
   | some o=>
    rw[q] at e;cases o with
    | none=>cases e
    | some w0=>exact⟨j,w0,rfl,q,jC e⟩
theorem a14 {i j:Nat}{v:V}(ej:js[i]? =some (some j))(e:σ[j]? =some (some v)):(capS js σ)[i]? =some (some v):=by
 unfold capS;rw[qU,ej];simp only[qH,bind_some];rw[e];rfl
theorem a39 {b:Addr}:(none,b)∉lentL li σ:=by
 unfold lentL
 split
 ·split
  ·simp
  ·simp
 ·simp
theorem Y9 {i:Nat}{b:Addr}:(some i,b)∈lentL li σ↔∃j,li=some (i,j)/\σ[j]? =some (some (.ref b)):=by
 unfold lentL;cases li with
 | none=>simp
 | some p=>
  obtain⟨i',j'⟩:=p;dsimp only;constructor
  ·intro h;split at h
   ·rename_i a q;rw[qR] at h;cases h;exact⟨j',rfl,q⟩
   ·cases h
  ·rintro⟨j,e,q⟩;cases e;rw[q];exact qR.mpr rfl
theorem Z7 {d0:D}(r:Rep X P O L ρ σ H2)(hl:LiOk li js ρ){i:Nat}{w:W}{d:D}{v:V}(e1:(capE (li.map (·.2)) js ρ++[some (.l d0)])[i]? =some (some w))(e2:w.own=some d)(e3:(capS js σ++[some (.ref Dd)])[i]? =some (some v)):
  (i=js.length/\w= .l d0/\v= .ref Dd)\/∃j a w0,li=some (i,j)/\i<js.length/\w= .l d/\js[i]? =some (some j)/\ρ[j]? =some (some w0)/\w0.own=some d/\σ[j]? =some (some (.ref a))/\v= .ref a:=by
 have hcl:(capE (li.map (·.2)) js ρ).length=js.length:=by unfold capE;simp
 have hsl:(capS js σ).length=js.length:=by unfold capS;simp
 by_cases hi:i<js.length
 ·rw[qC (by walk_at "o")] at e1 e3
  obtain⟨j,w0,ej,q,ew⟩:=a2b e1;have own0:w0.own≠none/\li.map (·.2)=some j/\w= .l d/\w0.own=some d:=by
   cases w0 with
   | v c=>cases ew;cases e2
   | r c=>cases ew
   | o c=>
    simp only[capW] at ew;split at ew
    ·rename_i hk;cases ew;cases e2;exact⟨nofun,by simpa using hk,rfl,rfl⟩
    ·cases ew;cases e2
   | l c=>
    simp only[capW] at ew;split at ew
    ·rename_i hk;cases ew;cases e2;exact⟨nofun,by simpa using hk,rfl,rfl⟩
    ·cases ew;cases e2
  obtain⟨_,hlj,rfl,ow⟩:=own0;obtain⟨a,h1,h2⟩:=r.obj q ow;rw[a14 ej h1] at e3;cases e3;cases li with
  | none=>cases hlj
  | some p=>
   obtain⟨i',j'⟩:=p;cases hlj
   have:=hl.one i' _ i rfl ej
   subst this;exact .inr ⟨_,a,w0,rfl,hi,rfl,ej,q,ow,h1,rfl⟩
 ·have hi':i=js.length:=by
   have:=(zM.mp e1).1
   rw[zP,hcl] at this;simp at this;walk_at "o"
  subst hi';rw[qI (by walk_at "o"),hcl,jV] at e1
  rw[qI (by walk_at "o"),hsl,jV] at e3
  simp only[List.getElem?_cons_zero,Option.some.injEq] at e1 e3;exact .inl ⟨rfl,e1.symm,e3.symm⟩
theorem a7Y {d0:D}{o0:HO}(hob:∀A H,H Dd=some o0->Obj X.K A H Dd d0)(r:Rep X P O L ρ σ H2)(hl:LiOk li js ρ)(hn:H2 Dd=none):
  Rep (blk X scope cl s2 H2 fp C (N++[accN])) P (fun b=>AvO O ρ σ b/\¬Capd ρ σ js b) ((some js.length,Dd)::lentL li σ) (capE (li.map (·.2)) js ρ++[some (.l d0)]) (capS js σ++[some (.ref Dd)]) (upd H2 Dd o0):=by
 have hcl:(capE (li.map (·.2)) js ρ).length=js.length:=by unfold capE;simp
 have hsl:(capS js σ).length=js.length:=by unfold capS;simp
 have acc1:(capE (li.map (·.2)) js ρ++[some (.l d0)])[js.length]? =some (some (.l d0)):=by rw[qI (by walk_at "o"),hcl,jV];rfl
 have acc2:(capS js σ++[some (V.ref Dd)])[js.length]? =some (some (.ref Dd)):=by rw[qI (by walk_at "o"),hsl,jV];rfl
 have lnt2:∀{i j:Nat} {a:Addr},li=some (i,j)->σ[j]? =some (some (.ref a))->∃w0 d,ρ[j]? =some (some w0)/\w0.own=some d/\(capE (li.map (·.2)) js ρ++[some (.l d0)])[i]? =some (some (.l d))/\(capS js σ++[some (V.ref Dd)])[i]? =some (some (.ref a)):=fun{i j a} e1 e2=>by
  obtain⟨c,ec⟩:=hl.own i j e1;obtain⟨w0,q,ow⟩:=J7 ec;have ej:=hl.at' i j e1;have hi:i<js.length:=(zM.mp ej).1;refine⟨w0,c,q,ow,?_,by rw[qC (by walk_at "o")];exact a14 ej e2⟩
  rw[qC (by walk_at "o")]
  unfold capE;rw[qU,ej];simp only[qH,bind_some,q,Option.join_some,e1,beq_self_eq_true];cases w0 with
  | o x=>cases ow;rfl
  | l x=>cases ow;rfl
  | _=>cases ow
 have av:∀b,AvO (fun b=>AvO O ρ σ b/\¬Capd ρ σ js b) (capE (li.map (·.2)) js ρ++[some (.l d0)]) (capS js σ++[some (V.ref Dd)]) b->AvO O ρ σ b\/H2 b=none:=fun b z=>by
  rcases z with z|⟨i,w,d,e1,e2,e3⟩
  ·exact .inl z.1
  ·rcases Z7 r hl e1 e2 e3 with ⟨_,_,e⟩|⟨j,a,w0,_,_,_,_,q,ow,qs,e⟩
   ·cases e;exact .inr hn
   ·cases e;exact .inl (.inr ⟨j,w0,d,q,ow,qs⟩)
 have g:Go (AvO O ρ σ) (AvO (fun b=>AvO O ρ σ b/\¬Capd ρ σ js b) (capE (li.map (·.2)) js ρ++[some (.l d0)]) (capS js σ++[some (V.ref Dd)])) (fun _=>False) H2 (upd H2 Dd o0):=⟨fun b o e _=>A4 hn _ b o e,fun _ z=>z.elim,av⟩;refine⟨fun b o e _=>A4 hn _ b o e,fun b z=>⟨r.there z.1,fun i m=>?_⟩,by simp[hcl,hsl],fun i w e=>?_,fun i i' w w' d d' b e1 e2 e3 e4 e5 e6=>?_,fun i d b e=>?_,fun i d e=>?_,fun i b e=>?_,fun p hp=>C6 g _ _ (r.prot p hp),fun b m=>⟨js.length,Dd,zG⟩⟩
 ·rcases zT.mp m with m|m
  ·cases m;exact r.fresh hn z.1
  ·cases i with
   | none=>exact a39 m
   | some i=>
    obtain⟨j,e1,e2⟩:=Y9.mp m;obtain⟨w0,d,q,ow,_⟩:=lnt2 e1 e2;exact z.2 ⟨j,w0,d,qS (hl.at' i j e1),q,ow,e2⟩
 ·by_cases hi:i<js.length
  ·have e':=e;rw[qC (by walk_at "o")] at e'
   obtain⟨j,w0,ej,q,ew⟩:=a2b e';obtain⟨v,h1,h2⟩:=r.slot j w0 q;refine⟨v,by rw[qC (by walk_at "o")];exact a14 ej h1,?_⟩
   cases w0 with
   | v c=>cases ew;exact C6 g _ _ h2
   | r c=>cases ew
   | o c=>
    simp only[capW] at ew;obtain⟨a,rfl,ob⟩:=h2;have hk:upd H2 Dd o0 a=H2 a:=k8 fun z=>by obtain⟨u,eu,_⟩:=Z5 ob;rw[z,hn] at eu;cases eu
    split at ew
    ·cases ew;exact⟨a,rfl,M0 g hk ob⟩
    ·rename_i nk;cases ew;refine a2k (M0 g hk ob) fun z=>?_;rcases z with z|⟨i2,w2,d2,e1,e2,e3⟩
     ·exact z.2 ⟨j,_,c,qS ej,q,rfl,h1⟩
     ·rcases Z7 r hl e1 e2 e3 with ⟨_,_,e⟩|⟨j2,a2,w0,l2,_,_,ej2,q2,ow2,qs2,e⟩
      ·cases e;obtain⟨u,eu,_⟩:=Z5 ob;rw[hn] at eu;cases eu
      ·cases e
       have:=r.inj j j2 _ w0 c d2 a q rfl h1 q2 ow2 qs2
       subst this;rw[l2] at nk;simp at nk
   | l c=>
    simp only[capW] at ew;obtain⟨a,rfl,ob⟩:=h2;have hk:upd H2 Dd o0 a=H2 a:=k8 fun z=>by obtain⟨u,eu,_⟩:=Z5 ob;rw[z,hn] at eu;cases eu
    split at ew
    ·cases ew;exact⟨a,rfl,M0 g hk ob⟩
    ·rename_i nk;cases ew;refine a2k (M0 g hk ob) fun z=>?_;rcases z with z|⟨i2,w2,d2,e1,e2,e3⟩
     ·exact z.2 ⟨j,_,c,qS ej,q,rfl,h1⟩
     ·rcases Z7 r hl e1 e2 e3 with ⟨_,_,e⟩|⟨j2,a2,w0,l2,_,_,ej2,q2,ow2,qs2,e⟩
      ·cases e;obtain⟨u,eu,_⟩:=Z5 ob;rw[hn] at eu;cases eu
      ·cases e
       have:=r.inj j j2 _ w0 c d2 a q rfl h1 q2 ow2 qs2
       subst this;rw[l2] at nk;simp at nk
  ·have hi':i=js.length:=by
    have:=(zM.mp e).1
    rw[zP,hcl] at this;simp at this;walk_at "o"
   subst hi';rw[acc1] at e;cases e;exact⟨.ref Dd,acc2,Dd,rfl,hob _ _ C3⟩
 ·rcases Z7 r hl e1 e2 e3 with ⟨rfl,_,e⟩|⟨j,a,w0,l1,_,_,_,q,ow,qs,e⟩
  ·cases e;rcases Z7 r hl e4 e5 e6 with ⟨rfl,_,_⟩|⟨j,a,w0,l1,_,_,_,q,ow,qs,e⟩
   ·rfl
   ·cases e;obtain⟨u,eu,_⟩:=r.owMu ⟨j,w0,d',q,ow,qs⟩;rw[hn] at eu;cases eu
  ·cases e;rcases Z7 r hl e4 e5 e6 with ⟨rfl,_,e⟩|⟨j',a',w0',l1',_,_,_,q',ow',qs',e⟩
   ·cases e;obtain⟨u,eu,_⟩:=r.owMu ⟨j,w0,d,q,ow,qs⟩;rw[hn] at eu;cases eu
   ·rw[l1] at l1';cases l1';rfl
 ·by_cases hi:i<js.length
  ·rw[qC (by walk_at "o")] at e
   obtain⟨j,w0,ej,q,ew⟩:=a2b e;cases w0<;>simp only[capW] at ew<;>first|cases ew|(split at ew<;>cases ew)
  ·rw[qI (by walk_at "o")] at e
   cases q:i-(capE (li.map (·.2)) js ρ).length with
   | zero=>rw[q] at e;cases e
   | succ n=>rw[q] at e;simp at e
 ·by_cases hi:i<js.length
  ·have e':=e;rw[qC (by walk_at "o")] at e'
   obtain⟨j,w0,ej,q,ew⟩:=a2b e';obtain⟨v,h1,h2⟩:=r.slot j w0 q;have e3:(capS js σ++[some (V.ref Dd)])[i]? =some (some v):=by rw[qC (by walk_at "o")];exact a14 ej h1
   rcases Z7 r hl e rfl e3 with ⟨rfl,_⟩|⟨j,a,w0,l1,_,_,_,q,ow,qs,rfl⟩
   ·walk_at "o"
   ·exact⟨a,e3,zH _ (Y9.mpr ⟨j,l1,qs⟩)⟩
  ·have hi':i=js.length:=by
    have:=(zM.mp e).1
    rw[zP,hcl] at this;simp at this;walk_at "o"
   subst hi';exact⟨Dd,acc2,zG⟩
 ·rcases zT.mp e with e|e
  ·cases e;exact⟨_,acc1,acc2⟩
  ·obtain⟨j,e1,e2⟩:=Y9.mp e;obtain⟨w0,d,_,_,q1,q2⟩:=lnt2 e1 e2;exact⟨d,q1,q2⟩
end
structure Tst (Y:Cx) (ifs:List Expr) (t:FT):Prop where
 to:∀(pins:List (Addr×PySem.Obj)) (s:Shared) (σ:L2.St) (H:Hp) (P:List (D×V)) (O:Av) (L:List (Option Nat×Addr)) (ρ ρ':Ev) (k:Bool) (Q:Bool->Hp->Prop),Inv Y pins σ H s->Rep Y P O L ρ σ H->t ρ=some (k,ρ')->(∀H',Rep Y P O L ρ' σ H'->Q k H')->
  wpAny (model Y.prog Y.w) Y.A (forIn ifs true fun c r=>if r=true then do let ok <-isTrue c Y.env (eval c Y.env);pure (ForInStep.yield ok) else pure (ForInStep.yield r)) (TP Y pins σ Q) Fa s
theorem D0 {Y:Cx}:Tst Y [] (fun ρ=>some (true,ρ)):=⟨fun pins s σ H P O L ρ ρ' k Q I r e q=>by cases e;exact wpAny_tests_nil ⟨H,I,q H r⟩⟩
def WksB (li:Option (Nat×Nat)) (K:PySem.W.Frag) (P:List (D×V)) (O:Av) (ρ:Ev) (σ:L2.St) (H:Hp) (xs:List D) (J:It):Prop:=∀(Y:Cx) (O':Av) (L:List (Option Nat×Addr)) (ρ':Ev) (σ':L2.St) (H':Hp),Y.K=K->Y.H₀=H->Rep Y P O' L ρ' σ' H'->(∀b,O' b->AvO O ρ σ b)->(li=none->∀i b,(i,b)∈L->H b=none)->
 (∀(i:Nat) (x:D),xs[i]? =some x->J.go i H'/\∀v H'',J.yld i H' v H''->Same H' H''/\Den K (AvO O' ρ' σ') H'' x v)/\J.stop xs.length H'
def tIB (X:Cx) (li:Option (Nat×Nat)) (fi:FI):TI:=fun σ H R=>∃P O L ρ xs ρ',Rep X P O L ρ σ H/\fi ρ=some (xs,ρ')/\∀J H1 P',Rep X P' O L ρ' σ H1->Holds P' P->WksB li X.K P' O ρ' σ H1 xs J->R J H1
theorem tIBe {X:Cx}{li:Option (Nat×Nat)}{fi:FI}{σ:L2.St}{H:Hp}{R:It->Hp->Prop}{C:Prop}(h:tIB X li fi σ H R)(k:∀P O L ρ xs ρ',Rep X P O L ρ σ H->fi ρ=some (xs,ρ')->(∀J H1 P',Rep X P' O L ρ' σ H1->Holds P' P->WksB li X.K P' O ρ' σ H1 xs J->R J H1)->C):C:=by
 obtain⟨P,O,L,ρ,w,ρ',r,e,q⟩:=h;exact k P O L ρ w ρ' r e q
structure QIB (X:Cx) (li:Option (Nat×Nat)) (tg iter:Expr) (fi:FI):Prop where
 to:PI X tg iter (tIB X li fi)
theorem Wks.b {li:Option (Nat×Nat)}{K:PySem.W.Frag}{P:List (D×V)}{O:Av}{ρ:Ev}{σ:L2.St}{H:Hp}{xs:List D}{J:It}(w:Wks K P xs J):WksB li K P O ρ σ H xs J:=fun Y O' L ρ' σ' H' hY _ r _ _=>w Y O' L ρ' σ' H' hY r
theorem a0h {X:Cx}{li:Option (Nat×Nat)}{tg iter:Expr}{fi:FI}(h:QI X tg iter fi):QIB X li tg iter fi:=⟨PI.weak h.to fun σ H R h0=>tIBe h0 fun P O L ρ xs ρ' r e q=>⟨P,O,L,ρ,xs,ρ',r,e,fun J H1 P' r1 hh w=>q J H1 P' r1 hh w.b⟩⟩
def fiName (i:Nat):FI:=fun ρ=>match ρ[i]? with
 | some (some (.v d))=>(items d).map fun xs=>(xs,ρ)
 | some (some (.r _))=>none
 | some (some w)=>match w.own with
  | some (.lst xs)=>some (xs,ρ)
  | _=>none
 | _=>none
theorem b4j {Y:Cx}{P:List (D×V)}{O O':Av}{L:List (Option Nat×Addr)}{ρ ρ':Ev}{σ σ':L2.St}{H H':Hp}(hH:Y.H₀=H)(r:Rep Y P O' L ρ' σ' H')(ho:∀b,O' b->AvO O ρ σ b)(hn:∀i b,(i,b)∈L->H b=none):Go (AvO O ρ σ) (AvO O' ρ' σ') (fun _=>False) H H' where
 k:=fun b o e _=>r.same b o (by rw[hH];exact e) fun i m=>by rw[hn i b m] at e;cases e
 m:=fun _ z=>z.elim
 n:=fun b z=>by
  rcases z with z|⟨i,w,d,e1,e2,e3⟩
  ·exact .inl (ho b z)
  ·cases w with
   | o c=>
    have z:=r.new i c b e1 e3;unfold hz at z;split at z
    ·rename_i m;exact .inr (hn none b m)
    ·exact .inr (by rw[<-hH];exact z)
   | l c=>obtain⟨b',q1,q2⟩:=r.lnt i c e1;rw[e3] at q1;cases q1;exact .inr (hn (some i) b q2)
   | _=>cases e2
theorem O1 {X:Cx}{tg:Expr}{pos:Pos}(i:Nat){x:Str}(hN:X.N[i]? =some x:=by rfl)(hv:Vis X.env.scope x:=by first|exact Or.inl rfl|exact Or.inr (Or.inl rfl)|exact Or.inr (Or.inr rfl))(hd:(x==("__debug__":Str))=false:=by decide)(hcd:(x==("__classdict__":Str))=false:=by decide):QIB X none tg (.Name x pos) (fiName i):=⟨PI.weak (b0E (a91 hN hv hd hcd)) fun σ H R h0=>tIBe h0 fun P O L ρ xs ρ' r e q=>by
 unfold fiName at e;split at e
 ·rename_i d0 e0;obtain⟨v,h1,h2⟩:=r.slot i _ e0;have h2:Den X.K (AvO O ρ σ) H d0 v:=h2;obtain⟨ys,e3,e⟩:=oms e;cases e;have r3:=r.more (p:=(d0,v)) h2;have hh:Holds ((d0,v)::P) P:=fun p hp=>zH _ hp;refine⟨v,h1,?_⟩;cases d0 with
  | tup zs=>
   cases e3;have z:=h2;rw[Den] at z;obtain⟨a,vs,rfl,hq,l⟩:=z;refine .inr ⟨a,rfl,⟨vs,hq⟩,q _ H _ r3 hh (Wks.b fun Y O' L' ρ' σ' Hh hY rr=>?_)⟩;have z:=rr.head;rw[hY] at z;rw[Den] at z;obtain⟨a',vs,ea,hq,l⟩:=z;cases ea;refine⟨fun i x ex=>?_,vs,hq,by rw[<-g8 l];exact zI _⟩
   obtain⟨v0,hv,dv⟩:=L3 l ex;exact⟨⟨vs,v0,hq,hv⟩,fun w H' ⟨y1,y2⟩=>by subst y1;have:=y2 vs hq;rw[hv] at this;cases this;exact⟨Same.refl _,dv⟩⟩
  | lst zs=>
   cases e3;obtain⟨a,vs,rfl,hq,l⟩:=Y8 h2;refine .inl ⟨a,rfl,⟨vs,hq⟩,q _ H _ r3 hh (Wks.b fun Y O' L' ρ' σ' Hh hY rr=>?_)⟩;have z:=rr.head;rw[hY] at z;obtain⟨a',vs,ea,hq,l⟩:=Y8 z;cases ea;refine⟨fun i x ex=>?_,vs,hq,by rw[<-g8 l];exact zI _⟩
   obtain⟨v0,hv,dv⟩:=L3 l ex;exact⟨⟨vs,v0,hq,hv⟩,fun w H' ⟨y1,y2⟩=>by subst y1;have:=y2 vs hq;rw[hv] at this;cases this;exact⟨Same.refl _,dv⟩⟩
  | _=>cases e3
 ·cases e
 ·rename_i w0 _ _ e0;cases ew:w0.own with
  | none=>rw[ew] at e;cases e
  | some c=>
   rw[ew] at e;cases c with
   | lst zs=>
    cases e;obtain⟨a,h1,h2⟩:=r.obj e0 ew;refine⟨.ref a,h1,?_⟩;obtain⟨vs,h4,lz⟩:=h2;refine .inl ⟨a,rfl,⟨vs,.inl (.inl h4)⟩,q _ H P r (fun p hp=>hp) fun Y O' L' ρ2 σ2 Hh hY hH rr ho hn=>?_⟩;have g:=b4j hH rr ho (hn rfl);have l2:=F2 g _ _ lz;have h5:Hh a=some (.lst vs):=g.k a _ h4 id;have hq:SqL X.K Hh a vs:=.inl (.inl h5);refine⟨fun i x ex=>?_,vs,hq,by rw[<-g8 lz];exact zI _⟩
    obtain⟨v0,hv,dv⟩:=L3 l2 ex;exact⟨⟨vs,v0,hq,hv⟩,fun w H' ⟨y1,y2⟩=>by subst y1;have:=y2 vs hq;rw[hv] at this;cases this;exact⟨Same.refl _,dv⟩⟩
   | _=>cases e
 ·cases e⟩
def appTo (k:Nat) (p:W×Ev):Option Ev:=(takeAll p.2 [p.1.fz]).bind fun q=>match q.1,ownAt q.2 k with
 | [d],some (.lst zs)=>if zs.length<lim then some (setOwn q.2 k (.lst (zs++[d]))) else none
 | _,_=>none
def turnC (k:Nat) (gf:FG) (t:FT) (fe:FX):D->Ev->Option Ev:=fun x ρ=>(gf x ρ).bind fun ρ1=>(t ρ1).bind fun p=>if p.1=true then(fe p.2).bind (appTo k) else some p.2
def loopC (st:D->Ev->Option Ev):List D->Ev->Option Ev
 | [],ρ=>some ρ
 | x::xs,ρ=>(st x ρ).bind (loopC st xs)
section
variable {X:Cx}{pins:List (Addr×PySem.Obj)}{σ:L2.St}{H2:Hp}{s2:Shared}{scope:Scope}{cl:List (Str×Addr)}{N:List Str}{js:List (Option Nat)}{fp:List Addr}{it:Addr}{tn:Nat->Heap->Prop}{J:It}{elt tg iter:Expr}{ifs:List Expr}{pos:Pos}{P:List (D×V)}{O:Av}{L:List (Option Nat×Addr)}{ρ ρe:Ev}{xs:List D}{gf:FG}{t:FT}{fe:FX}{Qq:Value->Shared->Prop}{use:Option (Value->Sem Unit)}{li:Option (Nat×Nat)}
def turnG (gf:FG) (t:FT) (stp:Ev->Option Ev):D->Ev->Option Ev:=fun x ρ=>(gf x ρ).bind fun ρ1=>(t ρ1).bind fun p=>if p.1=true then stp p.2 else some p.2
theorem a8i {new:Sem Value}{ce:Expr}{ob0:PySem.Obj}{o0:HO}{d0:D}{stp:Ev->Option Ev}{el:Env->Addr->Shared->(Shared->Prop)->Prop}
  (hnew:∀{Q:Value->Shared->Prop},Q (.ref s2.heap.objs.size) {s2 with heap:=s2.heap.push ob0}->wpAny (model X.prog X.w) X.A new Q X.xe s2) (hob:∀A H a,H a=some o0->Obj X.K A H a d0) (hok:HOk X.prog X.w (upd H2 s2.heap.objs.size o0) (s2.heap.push ob0))
  (hloop:∀{Dd:Addr} {env:Env} {R:Result->Shared->Prop} {s:Shared} (I:Nat->Shared->Prop),(∀n s,I n s->wpAny (model X.prog X.w) X.A (pyNext (.ref it)) (fun r s1=>match r with
   | none=>R (.ok .next) s1
   | some v=>wpAny (model X.prog X.w) X.A (letOwnedTupleGo tg (.ref it) v) (fun _ s2=>wpAny (model X.prog X.w) X.A (assign tg env v) (fun _ s3=>
     wpAny (model X.prog X.w) X.A (forIn ifs true fun c r=>if r=true then do let ok <-isTrue c env (eval c env);pure (ForInStep.yield ok) else pure (ForInStep.yield r)) (fun ok s4=>
      if ok=true then el env Dd s4 (fun s6=>∃m,m<n/\I m s6) else ∃m,m<n/\I m s4) Fa s3) Fa s2) Fa s1) Fa s)->∀n,I n s->codeAny (model X.prog X.w) X.A (.compLoop ce 0 (.ref it) (.ref Dd) env) R s)
  (hstart:∀{acc:Value} {env:Env} {R:Result->Shared->Prop} {s:Shared},codeAny (model X.prog X.w) X.A (.compLoop ce 0 (.ref it) acc env) R s->wpAny (model X.prog X.w) X.A (pyIter (.ref it)) (fun it' s'=>codeAny (model X.prog X.w) X.A (.compLoop ce 0 it' acc env) R s') (notedBy (model X.prog X.w) X.A env fun x s'=>R (.error x) s') s->codeAny (model X.prog X.w) X.A (.compStart ce 0 (.ref it) acc env) R s)
  (hE:∀{C Dd:Addr} {qs:List (Addr×PySem.Obj)} {σ6:L2.St} {H7:Hp} {s7:Shared} {O':Av} {L':List (Option Nat×Addr)} {ρ2 ρt:Ev} {K:Shared->Prop},(some js.length,Dd)∈L'->Inv (blk X scope cl s2 H2 fp C (N++[accN])) qs σ6 H7 s7->Rep (blk X scope cl s2 H2 fp C (N++[accN])) P O' L' ρ2 σ6 H7->stp ρ2=some ρt->(∀{s8 H8},Inv (blk X scope cl s2 H2 fp C (N++[accN])) qs σ6 H8 s8->Rep (blk X scope cl s2 H2 fp C (N++[accN])) P O' L' ρt σ6 H8->K s8)->el (compEnvC scope cl C X.env) Dd s7 K)
  (hcalm:X.calm=true) (I2:Inv X pins σ H2 s2) (T:Turn X.prog X.w X.K tg J fp it tn) (st2:tn 0 s2.heap) (f2:∀y∈fp,FpOk X pins H2 y) (b:Blk X scope cl N js) (r:Rep X P O L ρ σ H2) (hl:LiOk li js ρ) (wk:WksB li X.K P O ρ σ H2 xs J)
  (hg:∀C,QG (blk X scope cl s2 H2 fp C (N++[accN])) tg gf) (ht:∀C,Tst (blk X scope cl s2 H2 fp C (N++[accN])) ifs t)
  (e:loopC (turnG gf t stp) xs (capE (li.map (·.2)) js ρ++[some (.l d0)])=some ρe)
  (fin:∀(Dd C:Addr) (σe:L2.St) (He:Hp) (s1:Shared),H2 Dd=none->s2.heap.objs.size<=C->Inv (blk X scope cl s2 H2 fp C (N++[accN])) [] σe He s1->Rep (blk X scope cl s2 H2 fp C (N++[accN])) P (fun b=>AvO O ρ σ b/\¬Capd ρ σ js b) ((some js.length,Dd)::lentL li σ) ρe σe He->
   compPost (model X.prog X.w) X.A X.xe use Qq (.ref Dd) C (.ok .next) s1):
  wpAny (model X.prog X.w) X.A new (fun acc s3=>wpAny (model X.prog X.w) X.A (newFunctionEnv scope X.env.globals cl [] X.env.qual none .none (some X.env)) (fun cenv s4=>
   codeAny (model X.prog X.w) X.A (.compStart ce 0 (.ref it) acc {cenv with scope:=relabel scope X.env}) (compPost (model X.prog X.w) X.A X.xe use Qq acc cenv.locals) s4) X.xe s3) X.xe s2:=by
 have fl:∀y∈fp,y<s2.heap.objs.size:=fun y hy=>by obtain⟨o,eo,_⟩:=T.obj _ _ st2 y hy;exact zV eo
 refine hnew (wpAny_newFunctionEnv b.cell (by intro y hy;simp at hy) (fun h' hns hsb=>?_) b.kind)
 dsimp only at hns hsb ⊢;generalize hH:s2.heap.push ob0=H3 at hok hns hsb ⊢;have hC:H3.objs.size=s2.heap.objs.size+1:=by rw[<-hH,size_push]
 have ne:s2.heap.objs.size≠H3.objs.size:=by rw[hC];exact zS (Nat.lt_succ_self _)
 have leC:s2.heap.objs.size<=H3.objs.size:=by rw[hC];exact Nat.le_succ _
 have kp3:∀y o,s2.heap.get? y=some o->H3.get? y=some o:=fun y o e=>hH▸zN _ e;have kp4:∀y o,H3.get? y=some o->h'.get? y=some o:=fun y o e=>hsb.extBut y o (zS (zV e)) (zN _ e);have hDn:H2 s2.heap.objs.size=none:=I2.hok.fresh (zI _);have I4:=a8h (s4:={s2 with heap:=h',toks:=s2.toks+([]:List (Str×Value)).length}) (Dd:=s2.heap.objs.size) (C:=H3.objs.size) I2 b f2 fl leC (zI _) ne rfl I2.bare (fun y o e=>kp4 y o (kp3 y o e)) hns (hok.kept kp4)
 have R4:=a7Y (d0:=d0) (o0:=o0) (fun A H=>hob A H _) (scope:=scope) (cl:=cl) (N:=N) (s2:=s2) (fp:=fp) (C:=H3.objs.size) (Dd:=s2.heap.objs.size) r hl hDn;have hfree:∀{H':Hp},(∀y∈fp,H' y=none)->∀y∈fp,FpOk (blk X scope cl s2 H2 fp H3.objs.size (N++[accN])) [] H' y:=fun hn y hy=>
  ⟨hn y hy,zS (zF (fl y hy) leC),fun z=>(zT.mp (I2.stkSub y z)).elim (f2 y hy).2.1 (f2 y hy).2.2.1,.inl hy,fun x c ec=>(f2 y hy).2.2.2.2.1 x c (b.sub x c ec),fun p hp=>absurd (show p∈([]:List (Addr×PySem.Obj)) from hp) (by simp)⟩
 obtain⟨gg,pg,kg⟩:=(hg H3.objs.size).to;have loop:∀s5:Shared,s5={s2 with heap:=h',toks:=s2.toks+([]:List (Str×Value)).length}->
   codeAny (model X.prog X.w) X.A (.compLoop ce 0 (.ref it) (.ref s2.heap.objs.size) (compEnvC scope cl H3.objs.size X.env))
    (compPost (model X.prog X.w) X.A X.xe use Qq (.ref s2.heap.objs.size) H3.objs.size) s5:=by
  rintro s5 rfl
  let Y:=blk X scope cl s2 H2 fp H3.objs.size (N++[accN])
  let O':Av:=fun b=>AvO O ρ σ b/\¬Capd ρ σ js b
  let L':=(some js.length,s2.heap.objs.size)::lentL li σ
  refine hloop (fun n s=>∃i σ' H' ρ',n=xs.length-i/\i<=xs.length/\Inv Y [] σ' H' s/\tn i s.heap/\(∀y∈fp,H' y=none)/\Rep Y P O' L' ρ' σ' H'/\loopC (turnG gf t stp) (xs.drop i) ρ'=some ρe) ?_ xs.length
   ⟨0,_,_,_,by simp,qK _,I4,T.keep 0 _ _ st2 fun y hy o eo=>kp4 y o (kp3 y o eo),fun y hy=>by rw[k8 (zS (fl y hy))];exact(f2 y hy).1,R4,by simpa using e⟩
  rintro n s ⟨i,σ',H',ρ',rfl,hi,I,st,fr,rp,el⟩;obtain⟨wi,ws⟩:=wk Y O' L' ρ' σ' H' rfl rfl rp (fun b z=>z.1) (fun z i b m=>by subst z;exact(zT.mp m).elim (fun m=>by cases m;exact hDn) (fun m=>by cases m))
  by_cases hlt:i<xs.length
  ·obtain⟨go,yl⟩:=wi i xs[i] (by simp[hlt])
   refine zJ (T.item Y rfl rfl rfl hcalm i [] s σ' H' Fa I (hfree fr) st go) (fun r s1 ⟨u,hr,h1⟩=>?_) fun _ _ z=>z;subst hr;refine zJ h1 (fun _ s3 ⟨x,H5,I5,r5,y5,st5,fr5⟩=>?_) fun _ _ z=>z;obtain⟨sm5,dx⟩:=yl x H5 y5
   replace rp:=rp.grow sm5
   rw[xE hlt,loopC] at el;cases e1:turnG gf t stp xs[i] ρ' with
   | none=>rw[e1] at el;cases el
   | some ρt=>
    rw[e1] at el;simp only[bind_some] at el;unfold turnG at e1;cases e2:gf xs[i] ρ' with
    | none=>rw[e2] at e1;cases e1
    | some ρ1=>
     rw[e2] at e1;simp only[bind_some] at e1;obtain⟨⟨k,ρ2⟩,e3,e1⟩:=obs e1;dsimp only at e1;have I5':=I5.pinned (hfree fr5) (T.obj _ _ st5);have gq:=kg P O' L' xs[i] x ρ' ρ1 σ' H5 (fun σ2 Hh=>Rep Y P O' L' ρ1 σ2 Hh) rp dx e2 (fun σ2 H2' rp2=>rp2);refine zJ (pg _ s3 σ' H5 x u _ I5' r5 gq) (fun _ s6 ⟨σ6,H6,I6,rp6⟩=>?_) fun _ _ z=>z;have back:∀{s7:Shared} {H7:Hp} {ρ7:Ev},Inv Y ([]++pinsAt fp s3.heap) σ6 H7 s7->Rep Y P O' L' ρ7 σ6 H7->loopC (turnG gf t stp) (xs.drop (i+1)) ρ7=some ρe->
       ∃m,m<xs.length-i/\∃i σ' H' ρ',m=xs.length-i/\i<=xs.length/\Inv Y [] σ' H' s7/\tn i s7.heap/\(∀y∈fp,H' y=none)/\Rep Y P O' L' ρ' σ' H'/\loopC (turnG gf t stp) (xs.drop i) ρ'=some ρe:=fun{s7 H7 ρ7} I7 rp7 e7=>by
      refine⟨xs.length-(i+1),by walk_at "o",i+1,σ6,H7,ρ7,rfl,hlt,I7.unpinned,T.keep _ _ _ st5 fun y hy o eo=>(I7.pin (y,o) (qD _ (qD _ (Q2 hy eo)))).1,fun y hy=>?_,rp7,e7⟩
      obtain⟨o,eo,_⟩:=T.obj _ _ st5 y hy;exact(I7.pin (y,o) (qD _ (qD _ (Q2 hy eo)))).2.1
     refine zJ ((ht H3.objs.size).to _ s6 σ6 H6 P O' L' ρ1 ρ2 k (fun k' Hh=>k'=k/\Rep Y P O' L' ρ2 σ6 Hh) I6 rp6 e3 (fun H' rr=>⟨rfl,rr⟩)) (fun ok s7 ⟨H7,I7,hk,rp7⟩=>?_) fun _ _ z=>z;subst hk;cases ok with
     | false=>
      rw[if_neg zW] at e1 ⊢;cases e1;exact back I7 rp7 el
     | true=>
      rw[if_pos rfl] at e1 ⊢;exact hE zG I7 rp7 e1 fun I8 rp8=>back I8 rp8 el
  ·have hie:i=xs.length:=by walk_at "o"
   subst hie;refine zJ (T.done Y rfl rfl rfl hcalm _ [] s σ' H' Fa I (hfree fr) st ws) (fun r s1 ⟨hr,I1⟩=>?_) fun _ _ z=>z;subst hr;rw[xZ (zI _),loopC] at el;cases el;exact fin _ _ σ' H' s1 hDn leC I1 rp
 exact hstart (loop _ rfl) (T.self _ 0 _ _ _ (T.keep 0 _ _ st2 fun y hy o eo=>kp4 y o (kp3 y o eo)) (loop _ rfl))
theorem a9W (hcalm:X.calm=true)(I2:Inv X pins σ H2 s2)(T:Turn X.prog X.w X.K tg J fp it tn)(st2:tn 0 s2.heap)(f2:∀y∈fp,FpOk X pins H2 y)(b:Blk X scope cl N js)(r:Rep X P O L ρ σ H2)(hl:LiOk li js ρ)(wk:WksB li X.K P O ρ σ H2 xs J)
  (hg:∀C,QG (blk X scope cl s2 H2 fp C (N++[accN])) tg gf) (ht:∀C,Tst (blk X scope cl s2 H2 fp C (N++[accN])) ifs t) (he:∀C,QX (blk X scope cl s2 H2 fp C (N++[accN])) elt fe)
  (e:loopC (turnC js.length gf t fe) xs (capE (li.map (·.2)) js ρ++[some (.l (.lst []))])=some ρe)
  (fin:∀(Dd C:Addr) (σe:L2.St) (He:Hp) (s1:Shared),H2 Dd=none->s2.heap.objs.size<=C->Inv (blk X scope cl s2 H2 fp C (N++[accN])) [] σe He s1->Rep (blk X scope cl s2 H2 fp C (N++[accN])) P (fun b=>AvO O ρ σ b/\¬Capd ρ σ js b) ((some js.length,Dd)::lentL li σ) ρe σe He->
   compPost (model X.prog X.w) X.A X.xe use Qq (.ref Dd) C (.ok .next) s1):
  wpAny (model X.prog X.w) X.A (newList []) (fun acc s3=>wpAny (model X.prog X.w) X.A (newFunctionEnv scope X.env.globals cl [] X.env.qual none .none (some X.env)) (fun cenv s4=>
   codeAny (model X.prog X.w) X.A (.compStart (.ListComp elt [⟨tg,iter,ifs,0⟩] scope pos) 0 (.ref it) acc {cenv with scope:=relabel scope X.env}) (compPost (model X.prog X.w) X.A X.xe use Qq acc cenv.locals) s4) X.xe s3) X.xe s2:=
 a8i (new:=newList []) (ob0:={cls:=.type "list",dict:=none,data:=.seq ([]:List Value).toArray}) (o0:=.lst []) (d0:=.lst []) (stp:=fun ρ=>(fe ρ).bind (appTo js.length)) (el:=fun env a s K=>wpAny (model X.prog X.w) X.A (eval elt env) (fun x s5=>wpAny (model X.prog X.w) X.A (call (.builtin "list.append") [.ref a,x]) (fun _ s6=>K s6) Fa s5) Fa s)
  (fun h=>qZ h) (fun _ _ _ e=>⟨[],e,A8⟩) (I2.hok.laid (fun y o e=>zN _ e) (zI _) ⟨qK _,[],0,.nil,qB _ rfl⟩) (fun I t n h=>a8G I t n h) codeAny_compStart_list
  (fun{C Dd qs σ6 H7 s7 O' L' ρ2 ρt K} hL I7 rp7 e1 back=>by
   obtain⟨⟨w,ρ3⟩,e4,e1⟩:=obs e1;simp only[appTo] at e1;obtain⟨⟨ds,ρ4⟩,e5,e1⟩:=obs e1;dsimp only at e1;split at e1
   ·rename_i d zs e6;split at e1
    ·rename_i hl;cases e1;refine zJ ((he C).to _ s7 σ6 H7 (fun v H8=>Rep (blk X scope cl s2 H2 fp C (N++[accN])) P O' L' ρ4 σ6 H8/\Den X.K (AvO O' ρ4 σ6) H8 d v) I7 ⟨P,O',L',ρ2,w,ρ3,rp7,e4,fun v H8 H8' r8 s8 d8=>?_⟩) (fun u8 s8 ⟨v8,H8,I8,r8,rp8,d8⟩=>?_) fun _ _ z=>z
     ·obtain⟨r9,l9,_⟩:=D7 (vs:=[v]) (r8.grow s8) e5 ⟨v,[],rfl,d8.fz r8 s8,rfl⟩;obtain⟨v',ev,h'⟩:=denL1 l9;cases ev;exact⟨r9,h'⟩
     ·obtain⟨d0,q1,q2⟩:=rp8.lnd js.length Dd hL;have e6':=e6;unfold ownAt at e6';rw[q1] at e6';cases e6';obtain⟨a,h1,vs,h4,lz⟩:=rp8.obj q1 rfl;rw[q2] at h1;cases h1;have h9:=a2I _ s8 σ6 H8 (.ref Dd) [v8] (.ref Dd) [u8] (fun v H9=>H9=upd H8 Dd (.lst (vs++[v8]))) I8 rfl (.cons r8 .nil) ⟨_,vs,v8,rfl,rfl,h4,by rw[<-g8 lz];exact zF hl B5,rfl⟩
      refine zJ h9 (fun _ s9 ⟨v9,H9,I9,_,e9⟩=>?_) fun _ _ z=>z;subst e9;have g0:Go (AvO O' ρ4 σ6) (AvO O' ρ4 σ6) (fun b=>b=Dd) H8 (upd H8 Dd (.lst (vs++[v8]))):=⟨fun b o eb nb=>by rw[k8 nb];exact eb,fun b z=>by rw[z];exact⟨.inr ⟨js.length,_,_,q1,rfl,q2⟩,_,h4,trivial⟩,fun b z=>.inl z⟩
      exact back I9 (rp8.mut (d:=.lst (zs++[d])) e6 q2 (fun b o eb nb=>by rw[k8 nb];exact eb) ⟨_,C3,F2 g0 _ _ (M7 lz (z9 d8 A8))⟩)
    ·cases e1
   ·cases e1) hcalm I2 T st2 f2 b r hl wk hg ht e fin
theorem a6o {C:Addr}{σe:L2.St}{He:Hp}{s1:Shared}{h9:Heap}(I2:Inv X pins σ H2 s2)(f2:∀y∈fp,FpOk X pins H2 y)(leC:s2.heap.objs.size<=C)(I1:Inv (blk X scope cl s2 H2 fp C (N++[accN])) [] σe He s1)(hs9:∀y,y≠C->h9.get? y=s1.heap.get? y):
  Inv X pins σ He {s1 with heap:=h9}:=by
 have neC:∀y,He y≠none->y≠C:=fun y z w=>z (by rw[w];exact I1.free)
 have inS:∀y o,s2.heap.get? y=some o->y≠C:=fun y o e0=>zS (zF (zV e0) leC);have B:=I1.base
 have un:Un (frs X.stack) fp H2 He s2.heap h9:=⟨fun y o e0 n hb hx=>(hs9 y (inS y o e0)).trans (B.keep y o e0 n hb hx),fun y o e0 n hb hx=>by
   obtain⟨sl',z⟩:=B.slot y o e0 n hb hx;exact⟨sl',(hs9 y (inS y o e0)).trans z⟩,B.free,fun y o e0 hx=>by
   obtain⟨o',z⟩:=B.there y o e0 hx
   exact⟨o',(hs9 y (inS y o e0)).trans z⟩,B.tups,B.frzs,B.tbls⟩
 have hok:HOk X.prog X.w He h9:=fun y u0 q0=>(I1.hok y u0 q0).stay (fun c v hc z=>(hs9 c (neC c (by
   rcases hc with w|w
   ·rw[w,q0];exact fun z=>nomatch z
   ·rw[w];exact fun z=>nomatch z))).trans z) (fun _ z=>z) fun _ _ z=>z
 exact I2.call' (s':={s1 with heap:=h9}) (ch:=fp) I1.os un hok I1.bare (fun y hy=>⟨(f2 y hy).2.2.2.1,(f2 y hy).2.1,(f2 y hy).2.2.2.2.1,(f2 y hy).2.2.2.2.2⟩)
end
def capR (js:List (Option Nat)):List W:=js.filterMap fun o=>o.map W.r
def backG (li:Option (Nat×Nat)) (js:List (Option Nat)) (ρe ρ1:Ev) (d:D):Option (W×Ev):=match li with
 | none=>if lfC d=true then some (.o d,ρ1) else(frzL (capR js) ρ1).map fun ρ2=>(.o d,ρ2)
 | some (i,j)=>if lfC d=true then(ownAt ρe i).bind fun c=>if lfC c=true then some (.o d,setOwn ρ1 j c) else none else none
def liJ (li:Option (Nat×Nat)) (js:List (Option Nat)):Bool:=match li with
 | none=>true
 | some (i,j)=>js[i]? == some (some j)&&(List.range js.length).all fun k=>js[k]? != some (some j)||k==i
def liB (li:Option (Nat×Nat)) (ρ:Ev):Bool:=match li with
 | none=>true
 | some (_,j)=>(ownAt ρ j).isSome
def fComp (fi:FI) (li:Option (Nat×Nat)) (js:List (Option Nat)) (gf:FG) (t:FT) (fe:FX):FX:=fun ρ=>(fi ρ).bind fun p=>if liB li p.2=true then
  (loopC (turnC js.length gf t fe) p.1 (capE (li.map (·.2)) js p.2++[some (.l (.lst []))])).bind fun ρe=>match ownAt ρe js.length with
   | some (.lst ys)=>backG li js ρe p.2 (.lst ys)
   | _=>none
 else none
section
variable {X:Cx}{pins:List (Addr×PySem.Obj)}{σ σe:L2.St}{H2 He:Hp}{s2:Shared}{scope:Scope}{cl:List (Str×Addr)}{N:List Str}{js:List (Option Nat)}{fp:List Addr}{Dd C:Addr}{elt tg iter:Expr}{ifs:List Expr}{pos:Pos}{P:List (D×V)}{O:Av}{L:List (Option Nat×Addr)}{ρ ρ2 ρe:Ev}{w:W}{ys:List D}{fi:FI}{gf:FG}{t:FT}{fe:FX}{li:Option (Nat×Nat)}
theorem li_ok (h:liJ li js=true)(hb:liB li ρ=true):LiOk li js ρ:=by
 cases li with
 | none=>exact⟨nofun,nofun,nofun⟩
 | some p=>
  obtain⟨i,j⟩:=p;simp only[liJ,qF,beq_iff_eq,qX,mem_range,Bool.or_eq_true,bne_iff_ne] at h;simp only[liB,yC] at hb;refine⟨fun i' j' e=>by cases e;exact hb,fun i' j' e=>by cases e;exact h.1,fun i' j' k e ek=>?_⟩
  cases e;rcases h.2 k (zM.mp ek).1 with z|z
  ·exact absurd ek z
  ·exact z
theorem b0N {j:Nat}:W.r j∈capR js↔some j∈js:=by
 unfold capR;rw[mem_filterMap];constructor
 ·rintro⟨o,h1,h2⟩;cases o with
  | none=>cases h2
  | some k=>cases h2;exact h1
 ·exact fun h=>⟨some j,h,rfl⟩
theorem b1P (r:Rep X P O L ρ σ H2)(hl:LiOk li js ρ)(hn:H2 Dd=none)(rp:Rep (blk X scope cl s2 H2 fp C (N++[accN])) P (fun b=>AvO O ρ σ b/\¬Capd ρ σ js b) ((some js.length,Dd)::lentL li σ) ρe σe He)
  {d0:D} (ey:ownAt ρe js.length=some d0) (e:backG li js ρe ρ d0=some (w,ρ2)):∃Hx,Rep X P O L ρ2 σ Hx/\Same Hx He/\DenW X.K (AvO O ρ2 σ) σ Hx He w (.ref Dd):=by
 obtain⟨c0,q0,ob⟩:=rp.lents js.length Dd zG;rw[ey] at q0;cases q0;cases li with
 | none=>
  have sm:Same H2 He:=fun b o eb=>rp.same b o eb fun i m=>by
   rcases zT.mp m with m|m
   ·cases m;rw[hn] at eb;cases eb
   ·cases m
  unfold backG at e;simp only at e;split at e
  ·rename_i hf;cases e;exact⟨H2,r,sm,Dd,rfl,hn,a5H (d:=d0) (fun _ _ e _=>e) hf rfl ob⟩
  ·obtain⟨ρ3,e4,e⟩:=oms e;cases e;obtain⟨r2,k2⟩:=a1q r e4;refine⟨H2,r2,sm,Dd,rfl,hn,M0 (L5 fun b z=>?_) rfl ob⟩;rcases z with z|z
   ·obtain⟨z1,z2⟩:=a4a r k2 z;exact .inl ⟨z1,fun⟨j,w,d,m,q⟩=>z2 ⟨j,w,d,b0N.mpr m,q⟩⟩
   ·exact .inr ⟨js.length,by rw[z];exact zG⟩
 | some p=>
  obtain⟨i,j⟩:=p;unfold backG at e;simp only at e;split at e
  ·rename_i hf;cases e5:ownAt ρe i with
   | none=>rw[e5] at e;cases e
   | some c=>
    rw[e5] at e;simp only[bind_some] at e;split at e
    ·rename_i hc;cases e;obtain⟨c1,ec1⟩:=hl.own i j rfl;obtain⟨w0,q1,ow⟩:=J7 ec1;obtain⟨a,h1,oba⟩:=r.obj q1 ow;obtain⟨u0,eu0,_⟩:=Z5 oba;have na:a≠Dd:=fun z=>by rw[z,hn] at eu0;cases eu0
     have mem:(some i,a)∈lentL (some (i,j)) σ:=Y9.mpr ⟨j,rfl,h1⟩;obtain⟨c2,ec2,ob2⟩:=rp.lents i a (zH _ mem);rw[e5] at ec2;cases ec2;obtain⟨ur,eur,mur⟩:=Z5 ob;have keep:∀b o,H2 b=some o->b≠a->He b=some o:=fun b o eb nb=>rp.same b o eb fun k m=>by
      rcases zT.mp m with m|m
      ·cases m;rw[hn] at eb;cases eb
      ·cases k with
       | none=>exact a39 m
       | some k=>
        obtain⟨j',e1,e2⟩:=Y9.mp m;cases e1;rw[h1] at e2;cases e2;exact nb rfl
     refine⟨fun b=>if b=Dd then none else He b,r.mut ec1 h1 (fun b o eb nb=>?_) (a5H (fun b o eb nm=>?_) hc (if_neg na) ob2),fun b o eb=>?_,Dd,rfl,if_pos rfl,a5H (d:=d0) (fun _ _ e _=>e) hf rfl ob⟩
     ·have:b≠Dd:=fun z=>by rw[z,hn] at eb;cases eb
      show(if b=Dd then none else He b)=some o;rw[if_neg this];exact keep b o eb nb
     ·have:b≠Dd:=fun z=>by rw[z,eur] at eb;cases eb;exact nm mur
      show(if b=Dd then none else He b)=some o;rw[if_neg this];exact eb
     ·dsimp only at eb;split at eb
      ·cases eb
      ·exact eb
    ·cases e
  ·cases e
theorem a64 {Q:VK}{Qq:Value->Shared->Prop}{use:Option (Value->Sem Unit)}{H:Hp}{s:Shared}{newPos:Pos}(hc:X.calm=true)(b:Blk X scope cl N js)(hj:liJ li js=true)(hi:QIB X li tg iter fi)
  (hg:∀s2 H2 fp C,QG (blk X scope cl s2 H2 fp C (N++[accN])) tg gf) (ht:∀s2 H2 fp C,Tst (blk X scope cl s2 H2 fp C (N++[accN])) ifs t) (he:∀s2 H2 fp C,QX (blk X scope cl s2 H2 fp C (N++[accN])) elt fe) (hs:∀x,foldedSetIterable iter X.env x=pure x)
  (I:Inv X pins σ H s) (h:tX X (fComp fi li js gf t fe) σ H Q)
  (fin:∀(C:Addr) (v:V) (He:Hp) (s1:Shared),Q v He->(∀h9:Heap,(∀y,y≠C->h9.get? y=s1.heap.get? y)->Inv X pins σ He {s1 with heap:=h9})->FpOk X pins He C->(∃m,s1.heap.Ns C m)->∀vv,RelV v vv->compPost (model X.prog X.w) X.A X.xe use Qq vv C (.ok .next) s1):
  wpAny (model X.prog X.w) X.A (comprehension (.ListComp elt [⟨tg,iter,ifs,0⟩] scope pos) scope X.env newPos (newList []) false (eval iter X.env) use) Qq X.xe s:=by
 obtain⟨P,O,L,ρ,w,ρ',r,e,q⟩:=h;unfold fComp at e;obtain⟨⟨xs,ρ1⟩,e1,e⟩:=obs e;dsimp only at e;split at e
 ·rename_i hb;cases e2:loopC (turnC js.length gf t fe) xs (capE (li.map (·.2)) js ρ1++[some (.l (.lst []))]) with
  | none=>rw[e2] at e;cases e
  | some ρe=>
   rw[e2] at e;simp only[bind_some] at e;split at e
   ·rename_i ys ey;have hl:=li_ok hj hb;refine wpAny_comprehension_free rfl hs b.clos b.kind b.nms ?_;refine zJ (hi.to pins s σ H _ I ⟨P,O,L,ρ,xs,ρ1,r,e1,fun J H1 P' r1 hh wk=>(⟨P',r1,hh,wk⟩:∃P',Rep X P' O L ρ1 σ H1/\Holds P' P/\WksB li X.K P' O ρ1 σ H1 xs J)⟩) (fun v s1 h1=>zJ h1 (fun itv s2 h2=>?_) fun _ _ z=>z) fun _ _ z=>z;obtain⟨it,fp,tn,J,H2,rfl,I2,T,st2,f2,P',r1,hh,wk⟩:=h2;refine a9W hc I2 T st2 f2 b r1 hl wk (hg s2 H2 fp) (ht s2 H2 fp) (he s2 H2 fp) e2 fun Dd C σe He s3 hn leC I1 rp=>?_;obtain⟨Hx,rx,sx,dx⟩:=b1P r1 hl hn rp ey e;obtain⟨m,hm,_⟩:=id I1.loc;refine fin C (.ref Dd) He s3 (q _ Hx He (rx.holds hh) sx dx) (fun h9 k9=>a6o I2 f2 leC I1 k9) ?_ ⟨m,hm⟩ (.ref Dd) rfl;exact I2.fpOk leC I1.free
   ·cases e
 ·cases e
theorem S6 (hc:X.calm=true)(b:Blk X scope cl N js)(hi:QIB X li tg iter fi)(hg:∀s2 H2 fp C,QG (blk X scope cl s2 H2 fp C (N++[accN])) tg gf)(ht:∀s2 H2 fp C,Tst (blk X scope cl s2 H2 fp C (N++[accN])) ifs t)(he:∀s2 H2 fp C,QX (blk X scope cl s2 H2 fp C (N++[accN])) elt fe)
  (hj:liJ li js=true:=by rfl) (hs:∀x,foldedSetIterable iter X.env x=pure x:=by intro _;rfl):QX X (.ListComp elt [⟨tg,iter,ifs,0⟩] scope pos) (fComp fi li js gf t fe):=⟨fun pins s σ H Q I h=>by
 rw[eval_ListComp];refine a64 (use:=none) hc b hj hi hg ht he hs I h fun C v He s1 hq back fp ⟨m,hm⟩ vv rv=>?_
 exact⟨m,hm,fun h9 k9=>⟨v,He,back h9 fun y ny=>k9.2 y ny,rv,hq⟩⟩⟩
def UseOk (X:Cx) (pins:List (Addr×PySem.Obj)) (σ:L2.St) (Q:VK) (u:Value->Sem Unit) (Rr:Shared->Prop):Prop:=
 ∀(C:Addr) (m:Str->Option Value) (s':Shared) (H':Hp) (v:V) (vv:Value),FpOk X pins H' C->s'.heap.Ns C m->Inv X pins σ H' s'->RelV v vv->Q v H'->
  wpAny (model X.prog X.w) X.A (u vv) (fun _ s2=>∃m,s2.heap.Ns C m/\∀h',Heap.SameBut C s2.heap h'->Rr {s2 with heap:=h'}) X.xe s'
structure QXU (X:Cx) (e:Expr) (f:FX):Prop where
 to:∀(pins:List (Addr×PySem.Obj)) (s:Shared) (σ:L2.St) (H:Hp) (Q:VK) (u:Value->Sem Unit) (Rr:Shared->Prop),Inv X pins σ H s->tX X f σ H Q->UseOk X pins σ Q u Rr->
  wpAny (model X.prog X.w) X.A (evalThenUse e X.env u) (fun _ s'=>Rr s') X.xe s
theorem a9x {M:Model}{A:Around}{E:Value->Shared->Prop}{s:Shared}{env:Env}{elt:Expr}{g:Comprehension}{gs:List Comprehension}{scope:Scope}{pos:Pos}{u:Value->Sem Unit}{Rr:Shared->Prop}
  (h:wpAny M A (comprehension (.ListComp elt (g::gs) scope pos) scope env (firstIterPos (g::gs) pos) (newList []) (firstAsync (g::gs)) (firstIter (g::gs) env) (some u)) (fun _ s'=>Rr s') E s):
  wpAny M A (evalThenUse (.ListComp elt (g::gs) scope pos) env u) (fun _ s'=>Rr s') E s:=by
 show wpAny M A (do let _ <-comprehension (.ListComp elt (g::gs) scope pos) scope env (firstIterPos (g::gs) pos) (newList []) (firstAsync (g::gs)) (firstIter (g::gs) env) (some u)) _ _ s
 exact zA (zJ h (fun _ s' hq=>zK hq) fun _ _ e=>e)
theorem R5 (hc:X.calm=true)(b:Blk X scope cl N js)(hi:QIB X li tg iter fi)(hg:∀s2 H2 fp C,QG (blk X scope cl s2 H2 fp C (N++[accN])) tg gf)(ht:∀s2 H2 fp C,Tst (blk X scope cl s2 H2 fp C (N++[accN])) ifs t)(he:∀s2 H2 fp C,QX (blk X scope cl s2 H2 fp C (N++[accN])) elt fe)
  (hj:liJ li js=true:=by rfl) (hs:∀x,foldedSetIterable iter X.env x=pure x:=by intro _;rfl):QXU X (.ListComp elt [⟨tg,iter,ifs,0⟩] scope pos) (fComp fi li js gf t fe):=⟨fun pins s σ H Q u Rr I h hU=>by
 refine a9x (a64 (use:=some u) hc b hj hi hg ht he hs I h fun C v He s1 hq back fp ⟨m,hm⟩ vv rv=>?_)
 exact hU C m s1 He v vv fp hm (back s1.heap fun y _=>rfl) rv hq⟩
end
theorem a5g {prog:Program}{w:World}{A:Around}(hh:A.handled=none){l I:Addr}{its:Array Value}(ne:l≠I):
  Walks prog w A I [I,l] [I] its.size (fun i v=>its[i]? =some v) (fun i h=>h.IsListIter I l i/\h.IsList l its) where
 sub:=fun b hb=>by rw[qR.mp hb];exact zG
 frame:=fun i h h' ⟨⟨o,e,r⟩,⟨o2,e2,r2⟩⟩ k=>⟨⟨o,k I zG o e,r⟩,⟨o2,k l (zH _ zG) o2 e2,r2⟩⟩
 item:=fun i s Q E hi ⟨h1,h2⟩ q=>wpAny_pyNext_list_item h1 h2 (x:=its[i]) (by simp[hi]) fun h' hit hs=>q its[i] h' s.toks (by simp[hi]) ⟨hit,h2.extBut hs.extBut ne⟩ fun b o hb e=>hs.extBut b o (fun z=>hb (by rw[z];exact qR.mpr rfl)) e
 done:=fun s Q E ⟨h1,h2⟩ q=>wpAny_pyNext_list_end hh h1 h2 (by simp) fun h' hx=>q h' s.toks fun b o hb e=>hx b o (fun z=>hb (by rw[z];exact qR.mpr rfl)) e
 self:=fun i s Q E ⟨h1,_⟩ q=>wpAny_pyIter_listiter h1 q
theorem a65 {bs:List Bool}{its:List Value}(r:Vals (bs.map V.bl) its){i:Nat}{v:Value}(e:its.toArray[i]? =some v):v= .bool (bs.getD i false):=by
 rw[List.getElem?_toArray] at e
 induction bs generalizing its i with
 | nil=>cases r;simp at e
 | cons b bs ih=>
  cases r with
  | cons r1 r2=>
   cases i with
   | zero=>simp at e;subst e;exact r1
   | succ i=>exact ih r2 (by simpa using e)
theorem a8z (bs:List Bool)(n:Nat)(hn:n=bs.length):(List.range n).all (fun i=>bs.getD i false)=bs.all id:=by
 subst hn;apply jN.mpr;simp only[qX,mem_range,id];constructor
 ·intro h x hx;obtain⟨i,hi,e⟩:=List.mem_iff_getElem.mp hx
  have:=h i hi
  rw[xB,jH hi] at this;simpa [e] using this
 ·intro h i hi;rw[xB,jH hi];exact h _ (getElem_mem hi)
theorem a8v (bs:List Bool)(n:Nat)(hn:n=bs.length):(List.range n).any (fun i=>bs.getD i false)=bs.any id:=by
 subst hn;apply jN.mpr;simp only[List.any_eq_true,mem_range,id];constructor
 ·rintro⟨i,hi,h⟩;rw[xB,jH hi] at h;exact⟨_,getElem_mem hi,by simpa using h⟩
 ·rintro⟨x,hx,h⟩;obtain⟨i,hi,e⟩:=List.mem_iff_getElem.mp hx;refine⟨i,hi,?_⟩;rw[xB,jH hi];simpa [e] using h
section
variable {X:Cx}
theorem Y4 (hc:X.calm=true):CallR X (.builtin "all") (fun xs H Q=>∃(p:Addr) (bs:List Bool),xs=[.ref p]/\SqL X.K H p (bs.map V.bl)/\Q (.bl (bs.all id)) H):=by
 intro pins s σ H xs us Q I r h;obtain⟨p,bs,rfl,hq,q⟩:=h;obtain⟨u,rfl,ru⟩:=vals1 r;cases ru;obtain⟨its,rv,⟨o,m,h1,h2,_,h4⟩,hz⟩:=I.list hq;have hl:s.heap.IsList p its.toArray:=⟨o,h1,h2,m,h4⟩;have ne:p≠s.heap.objs.size:=zS (zV h1);refine call_all_walk (wpAny_pyIter_list hl ⟨s.heap.objs.size,_,_,_,_,_,fun i=>bs.getD i false,rfl,a5g (show X.A.in1.handled=none from I.ok.hd hc) ne,⟨⟨_,qB _ rfl,rfl,rfl⟩,hl.push _⟩,fun i v s' Q' E' hv hq'=>?_,fun h' tk hk=>?_⟩)
 ·rw[a65 rv hv];exact qY hq'
 ·have I1:Inv X pins σ H {s with heap:=h',toks:=tk}:=I.kept (t':=tk) fun b ob e=>hk b ob (fun z=>absurd (zV e) (by rw[qR.mp z];exact jO _)) (zN _ e)
  refine⟨.bl _,H,I1,?_,q⟩;show Value.bool _=Value.bool _;rw[a8z bs _ (by rw[zX,<-rv.length,zD])]
theorem a49 (hc:X.calm=true):CallR X (.builtin "any") (fun xs H Q=>∃(p:Addr) (bs:List Bool),xs=[.ref p]/\SqL X.K H p (bs.map V.bl)/\Q (.bl (bs.any id)) H):=by
 intro pins s σ H xs us Q I r h;obtain⟨p,bs,rfl,hq,q⟩:=h;obtain⟨u,rfl,ru⟩:=vals1 r;cases ru;obtain⟨its,rv,⟨o,m,h1,h2,_,h4⟩,hz⟩:=I.list hq;have hl:s.heap.IsList p its.toArray:=⟨o,h1,h2,m,h4⟩;have ne:p≠s.heap.objs.size:=zS (zV h1);refine call_any_walk (wpAny_pyIter_list hl ⟨s.heap.objs.size,_,_,_,_,_,fun i=>bs.getD i false,rfl,a5g (show X.A.in1.handled=none from I.ok.hd hc) ne,⟨⟨_,qB _ rfl,rfl,rfl⟩,hl.push _⟩,fun i v s' Q' E' hv hq'=>?_,fun h' tk hk=>?_⟩)
 ·rw[a65 rv hv];exact qY hq'
 ·have I1:Inv X pins σ H {s with heap:=h',toks:=tk}:=I.kept (t':=tk) fun b ob e=>hk b ob (fun z=>absurd (zV e) (by rw[qR.mp z];exact jO _)) (zN _ e)
  refine⟨.bl _,H,I1,?_,q⟩;show Value.bool _=Value.bool _;rw[a8v bs _ (by rw[zX,<-rv.length,zD])]
end
section
variable {X:Cx}{b:Expr}{h:FX}{u:FT}
theorem a8B:CallR X (.type "int") (fun xs H Q=>∃b,xs=[.bl b]/\Q (.int (if b then 1 else 0)) H):=by
 intro pins s σ H xs us Q I r h;obtain⟨b,rfl,q⟩:=h;obtain⟨u,rfl,rx⟩:=vals1 r;cases(show u=Value.bool b from rx);exact call_int_bool ⟨.int _,H,I.tok _,⟨_,rfl⟩,q⟩
end
section
variable {prog:Program}{w:World}{A:Around}{E:Value->Shared->Prop}{s:Shared}
theorem a67 {t sl:Addr}{items:Array Value}{vl vu:Value}{lo hi:Option Int}{Q:Value->Shared->Prop}(ht:IsTup s.heap t items)(hs:s.heap.IsSliceOf sl vl vu .none)(pl:IsPart vl lo)(pu:IsPart vu hi)
  (hw:HT.sIx items.size 0 lo=0/\HT.sIx items.size items.size hi=items.size) (h:Q (.ref t) s):wpAny (model prog w) A (getItem (.ref t) (.ref sl)) Q E s:=by
 obtain⟨os,hos,hcs,hds⟩:=id hs;have hTs:s.TypeIs (.ref sl) "slice":=⟨os,hos,hcs⟩;unfold getItem
 try with_reducible refine jP ?_
 first|refine zA (zK ?_)|skip
 refine zA (wpAny_sequenceKey ht.typeIs (by decide) ?_)
 refine zA (jE (name:=Str.ofString "__getitem__") ht.typeIs qQ
  (xQ qQ ht.typeIs entry_tuple_getitem ?_ (args_tuple_getitem _ _)))
 show wpAny _ _ (Builtin.Tuple.tupleItemsOf (.ref t) >>=_) _ _ s;refine zA (tupleItemsOf_ ht ?_);refine zA (wpAny_typeOf hTs ?_);rw[if_pos (by decide)]
 refine zA (HT.sliceApplied_gen hs pl pu ?_);show wpAny _ _ (if(((HT.sIx items.size 0 lo:Nat):Int)==0&&(1:Int)==1&&(HT.sIx items.size items.size hi-HT.sIx items.size 0 lo)==items.size)=true then _ else _) _ _ s;rw[if_pos (by rw[hw.1,hw.2];simp)]
 unfold Builtin.Tuple.tupleIsExact;refine zA (zA (wpAny_typeOf ht.typeIs (zK ?_)));rw[if_pos (by decide)]
 first
  | exact zA (wpAny_rule (zK ⟨_,rfl,zK h⟩))
  | exact zA (wpAny_rule (zA (zK (zK ⟨_,rfl,zK h⟩))))
end
section
variable {X:Cx}{a b c e:Expr}{es:List Expr}{pos p:Pos}{f g h:FX}{t u:FT}{fa:FA}{x:Str}
def rSlF (K:PySem.W.Frag):V->Option Int->Option Int->Hp->VK->Prop:=fun x lo hi H Q=>∃a xs,x= .ref a/\SqT K H a xs/\(HT.sIx xs.length 0 lo=0/\HT.sIx xs.length xs.length hi=xs.length)/\Q (.ref a) H
theorem b15:SlR X (rSlF X.K):=by
 intro pins s σ H x v vl vu lo hi sl Q I rx hs pl pu h;obtain⟨a,xs,rfl,hx,hw,q⟩:=h;cases rx;obtain⟨its,r,ht,hz⟩:=I.tuple hx;have hlen:its.toArray.size=xs.length:=by rw[zX];exact r.length.symm
 refine⟨"tuple",_,PyProof.Rows.slot_tuple_getitem.lookup,ht.typeIs,?_⟩;exact a67 ht hs pl pu (by rw[hlen];exact hw) ⟨.ref a,H,I,rfl,q⟩
theorem qx_b {id:String}{r:List V->Hp->VK->Prop}{k:List D->Option W}(hc:CallR X (.builtin id) r)(hk:PrA X k r)(hm:X.mg x=none)(ha:QA X (e::es) fa)(hv:bootBuiltins x=some (.builtin id):=by rfl)(hg:Gl X x:=by rfl)(hn:x≠"__name__":=by decide)(hdb:(x==("__debug__":Str))=false:=by decide)
  (he:starEach (e::es) X.env=(false,eval e X.env)::starEach es X.env:=by rfl) (hpl:(backTo pos (starEach es X.env)).any (·.1)=false:=by rfl):QX X (.Call (.Name x p) (e::es) [] pos) (fCall k fa):=a6y hc hk hv hm ha hg hn hdb he hpl
theorem qx_t {T:String}{r:List V->Hp->VK->Prop}{k:List D->Option W}(hc:CallR X (.type T) r)(hk:PrA X k r)(hm:X.mg x=none)(ha:QA X (e::es) fa)(hv:bootBuiltins x=some (.type T):=by rfl)(hg:Gl X x:=by rfl)(hn:x≠"__name__":=by decide)(hdb:(x==("__debug__":Str))=false:=by decide)
  (he:starEach (e::es) X.env=(false,eval e X.env)::starEach es X.env:=by rfl) (hpl:(backTo pos (starEach es X.env)).any (·.1)=false:=by rfl):QX X (.Call (.Name x p) (e::es) [] pos) (fCall k fa):=b0J hc hk hv hm ha hg hn hdb he hpl
def k1 (g:D->Option W):List D->Option W
 | [d]=>g d
 | _=>none
theorem pr1 {g:D->Option W}{r:List V->Hp->VK->Prop}(h:∀(A:Av) (d:D) (w:W) (v:V) (H:Hp) (Q:VK),g d=some w->DenR X.K A H d v->(∀z H',Same H H'->DenW X.K A [] H H' w z->Q z H')->r [v] H Q):PrA X (k1 g) r:=fun A ds w vs H Q _ e l q=>by
 unfold k1 at e;split at e
 ·obtain⟨v,rfl,h1⟩:=denRL1 l;exact h A _ w v H Q e h1 q
 ·cases e
def k2 (g:Int->Int->D):List D->Option W
 | [.int i,.int j]=>some (.v (g i j))
 | _=>none
def gLen (d:D):Option W:=(items d).map fun xs=>.v (.int xs.length)
theorem b3i:PrA X (k1 gLen) (fun xs H Q=>∃p ys,xs=[.ref p]/\(SqL X.K H p ys\/SqT X.K H p ys)/\Q (.int ys.length) H):=pr1 fun A d w v H Q e h q=>by
 unfold gLen at e;obtain⟨xs,e1,e⟩:=oms e;cases e;obtain⟨a,ws,rfl,hq,lw⟩:=a2X e1 h;exact⟨a,ws,rfl,hq,by rw[<-g8 lw];exact q _ H (Same.refl H) K9⟩
def gAbs:D->Option W
 | .int i=>some (.v (.int (if i<0 then -i else i)))
 | _=>none
theorem a7K:PrA X (k1 gAbs) (fun xs H Q=>∃i,xs=[.int i]/\Q (.int (if i<0 then -i else i)) H):=pr1 fun A d w v H Q e h q=>by
 cases d<;>simp only[gAbs] at e<;>cases e
 exact⟨_,by rw[u6 h],q _ H (Same.refl H) K9⟩
def gStr:D->Option W
 | .int i=>if i.natAbs<2^1900 then some (.v (.str (toString i))) else none
 | _=>none
def gInt:D->Option W
 | .bl b=>some (.v (.int (if b then 1 else 0)))
 | _=>none
theorem b2H:PrA X (k1 gInt) (fun xs H Q=>∃b,xs=[.bl b]/\Q (.int (if b then 1 else 0)) H):=pr1 fun A d w v H Q e h q=>by
 cases d<;>simp only[gInt] at e<;>cases e
 exact⟨_,by rw[a3I h],q _ H (Same.refl H) K9⟩
def gTuple (d:D):Option W:=(items d).map fun xs=>.v (.tup xs)
theorem T6:PrA X (k1 gTuple) (fun xs H Q=>∃p ys,xs=[.ref p]/\((SqL X.K H p ys/\∀l,H l=none->Q (.ref l) (upd H l (.tup ys)))\/(SqT X.K H p ys/\Q (.ref p) H))):=pr1 fun A d w v H Q e h q=>by
 cases d<;>simp only[gTuple,items,qN] at e<;>first|cases e|skip
 ·rename_i xs;obtain⟨a,vs,rfl,hq,l⟩:=L6 h;exact⟨a,vs,rfl,.inr ⟨hq,q _ H (Same.refl H) h⟩⟩
 ·rename_i xs;obtain⟨a,vs,rfl,hq,l⟩:=h;exact⟨a,vs,rfl,.inl ⟨hq,fun l' hl=>q _ _ (A4 hl _) (Y7 hl l)⟩⟩
def gList (d:D):Option W:=(items d).map fun xs=>.o (.lst xs)
def intsOf:List D->Option (List Int)
 | []=>some []
 | .int i::ds=>(intsOf ds).map fun is=>i::is
 | _=>none
theorem T5:∀{ds:List D} {is:List Int},intsOf ds=some is->ds=is.map D.int
 | [],is,e=>by cases e;rfl
 | .int i::ds,is,e=>by
  rw[intsOf] at e;cases e1:intsOf ds with
  | none=>rw[e1] at e;cases e
  | some js=>rw[e1] at e;cases e;rw[zR,<-T5 e1]
 | .non::ds,is,e=>by cases e
 | .bl _::ds,is,e=>by cases e
 | .str _::ds,is,e=>by cases e
 | .tup _::ds,is,e=>by cases e
 | .lst _::ds,is,e=>by cases e
 | .dT _ _::ds,is,e=>by cases e
 | .dK _ _::ds,is,e=>by cases e
 | .exn _::ds,is,e=>by cases e
 | .fn _::ds,is,e=>by cases e
theorem K6 {K:PySem.W.Frag}{A:Av}{H:Hp}:∀{is:List Int} {vs:List V},DenL K A H (is.map D.int) vs->vs=is.map V.int
 | [],vs,l=>by rw[jZ,DenL] at l;exact l
 | i::is,vs,l=>by
  rw[zR,DenL] at l;obtain⟨v,r,rfl,h,l⟩:=l;rw[W5.mp h,K6 l];rfl
theorem a1n {K:PySem.W.Frag}{A:Av}{H:Hp}:∀ns:List Int,DenL K A H (ns.map D.int) (ns.map V.int)
 | []=>by rw[jZ,jZ];exact A8
 | n::ns=>by rw[zR,zR];exact z9 (by rw[Den]) (a1n ns)
def boolsOf:List D->Option (List Bool)
 | []=>some []
 | .bl i::ds=>(boolsOf ds).map fun is=>i::is
 | _=>none
theorem a4r:∀{ds:List D} {is:List Bool},boolsOf ds=some is->ds=is.map D.bl
 | [],is,e=>by cases e;rfl
 | .bl i::ds,is,e=>by
  rw[boolsOf] at e;cases e1:boolsOf ds with
  | none=>rw[e1] at e;cases e
  | some js=>rw[e1] at e;cases e;rw[zR,<-a4r e1]
 | .non::ds,is,e=>by cases e
 | .int _::ds,is,e=>by cases e
 | .str _::ds,is,e=>by cases e
 | .tup _::ds,is,e=>by cases e
 | .lst _::ds,is,e=>by cases e
 | .dT _ _::ds,is,e=>by cases e
 | .dK _ _::ds,is,e=>by cases e
 | .exn _::ds,is,e=>by cases e
 | .fn _::ds,is,e=>by cases e
theorem a3k:∀is:List Bool,boolsOf (is.map D.bl)=some is
 | []=>rfl
 | i::is=>by rw[zR,boolsOf,a3k is];rfl
theorem a1y {K:PySem.W.Frag}{A:Av}{H:Hp}:∀{is:List Bool} {vs:List V},DenL K A H (is.map D.bl) vs->vs=is.map V.bl
 | [],vs,l=>by rw[jZ,DenL] at l;exact l
 | i::is,vs,l=>by
  rw[zR,DenL] at l;obtain⟨v,r,rfl,h,l⟩:=l;rw[a2E.mp h,a1y l];rfl
def gBools (r:List Bool->Bool):D->Option W
 | .lst xs=>(boolsOf xs).map fun bs=>.v (.bl (r bs))
 | _=>none
theorem V4 {r:List Bool->Bool}:PrA X (k1 (gBools r)) (fun xs H Q=>∃(p:Addr) (bs:List Bool),xs=[.ref p]/\SqL X.K H p (bs.map V.bl)/\Q (.bl (r bs)) H):=pr1 fun A d w v H Q e h q=>by
 cases d with
 | lst xs=>
  simp only[gBools] at e;obtain⟨bs,e1,e⟩:=oms e;cases e;obtain⟨a,vs,rfl,hq,l⟩:=h;rw[a4r e1] at l;rw[a1y l] at hq;exact⟨a,bs,rfl,hq,q _ H (Same.refl H) C5⟩
 | _=>cases e
def GlI (mg:Str->Option Value) (x:Str) (i:Int):Prop:=∃t,mg x=some (.int i t)
theorem Y5 {i:Int}(hm:GlI X.mg x i)(hg:Gl X x:=by rfl)(hd:(x==("__debug__":Str))=false:=by decide):QX X (.Name x pos) (fC (.int i)):=by
 obtain⟨t,hm⟩:=hm;exact⟨PE.weak (a2D (v:=.int i) hg hm ⟨t,rfl⟩ hd) (a3l fun A H=>by rw[Den])⟩
def oLtT:D->D->Option W
 | .int i,.int j=>some (.v (.bl (decide (i<j))))
 | .tup xs,.tup ys=>(intsOf xs).bind fun ns=>(intsOf ys).map fun ms=>.v (.bl (HT.lexLt ns ms))
 | _,_=>none
theorem kLtT:Pr2 X oLtT (fun v u H Q=>rI0 (fun i j=>.bl (decide (i<j))) v u H Q\/rLtT X.K v u H Q):=by
 intro A x y w v u H Q _ e hx hy q;unfold oLtT at e;split at e
 ·cases e;exact .inl ⟨_,_,u6 hx,u6 hy,q _ H (Same.refl H) C5⟩
 ·rename_i xs ys;cases e1:intsOf xs with
  | none=>rw[e1] at e;cases e
  | some ns=>
   cases e2:intsOf ys with
   | none=>rw[e1,e2] at e;cases e
   | some ms=>
    rw[e1,e2] at e;cases e;obtain⟨a,vs,rfl,h1,l1⟩:=L6 hx;obtain⟨b,us,rfl,h2,l2⟩:=L6 hy;rw[T5 e1] at l1;rw[T5 e2] at l2;rw[K6 l1] at h1;rw[K6 l2] at h2;exact .inr ⟨a,b,ns,ms,rfl,rfl,h1,h2,q _ H (Same.refl H) C5⟩
 ·cases e
theorem a7I {k:Nat}(hr:Room k X.A)(ha:QX X a f)(hb:QX X b g):QX X (.Compare a [.Lt] [b] pos) (fBin oLtT f g):=a2L (b0k.or (b0m (by have:=hr.units;walk_at "o"))) kLtT ha hb
theorem a5A {k:Nat}(hr:Room k X.A)(ha:QX X a f)(hb:QX X b g):QT X (.Compare a [.Lt] [b] pos) (fTest (fBin oLtT f g)):=X1 (b0k.or (b0m (by have:=hr.units;walk_at "o"))) kLtT ha hb
def fChain (o o':D->D->Option W) (f g h:FX):FX:=fun ρ=>(f ρ).bind fun p=>(g p.2).bind fun q=>(dr q.2 p.1.fz).bind fun x=>(dr q.2 q.1.fz).bind fun y=>(o x y).bind fun d=>match d with
 | .v (.bl k)=>if k=true then(h q.2).bind fun z=>(dr z.2 q.1.fz).bind fun y=>(dr z.2 z.1.fz).bind fun z'=>(o' y z').map fun w=>(w,z.2) else some (.v (.bl false),q.2)
 | _=>none
theorem a1J {r r':R2}{o o':D->D->Option W}(k:Pr2 X o r)(k':Pr2 X o' r'):∀σ H Q,tX X (fChain o o' f g h) σ H Q->tChain r r' (tX X f) (tX X g) (tX X h) σ H Q:=fun σ H Q h0=>tXe h0 fun P O L ρ w ρ' r e q=>by
 unfold fChain at e;obtain⟨⟨w1,ρ1⟩,e1,e⟩:=obs e;dsimp only at e;refine⟨P,O,L,ρ,w1,ρ1,r,e1,fun v H1 H1' r1 s1 d1=>?_⟩;obtain⟨P',r1',k1⟩:=hold (r1.grow s1) (d1.fz r1 s1);obtain⟨⟨w2,ρ2⟩,e2,e⟩:=obs e;dsimp only at e;refine⟨P',O,L,ρ1,w2,ρ2,r1',e2,fun u H2 H2' r2 s2 d2=>?_⟩;have d2':=d2.fz r2 s2;obtain⟨r3,d1'⟩:=k1 ρ2 H2' (r2.grow s2);cases e3:dr ρ2 w1.fz with
 | none=>rw[e3] at e;cases e
 | some x=>
  cases e4:dr ρ2 w2.fz with
  | none=>rw[e3,e4] at e;cases e
  | some y=>
   rw[e3,e4] at e;simp only[bind_some] at e;cases e5:o x y with
   | none=>rw[e5] at e;cases e
   | some d0=>
    rw[e5] at e;simp only[bind_some] at e;refine k _ x y d0 v u H2' _ (fun b z=>r3.there z) e5 (P7 r3 e3 d1') (P7 r3 e4 d2') fun z H3 s3 d3=>?_;split at e
    ·rename_i b;refine⟨b,Z8 d3,?_⟩;have r4:=r3.grow s3;cases b with
     | true=>
      rw[if_pos rfl] at e ⊢;obtain⟨P'',r4',k4⟩:=hold r4 (d2'.same s3);obtain⟨⟨w3,ρ3⟩,e6,e⟩:=obs e;dsimp only at e;refine⟨P'',O,L,ρ2,w3,ρ3,r4',e6,fun u3 H5 H5' r5 s5 d5=>?_⟩;obtain⟨r6,d6⟩:=k4 ρ3 H5' (r5.grow s5);cases e7:dr ρ3 w2.fz with
      | none=>rw[e7] at e;cases e
      | some y'=>
       cases e8:dr ρ3 w3.fz with
       | none=>rw[e7,e8] at e;cases e
       | some z'=>
        rw[e7,e8] at e;simp only[bind_some] at e;cases e9:o' y' z' with
        | none=>rw[e9] at e;cases e
        | some w'=>
         rw[e9] at e;cases e;exact k' _ y' z' w u u3 H5' Q (fun b z=>r6.there z) e9 (P7 r6 e7 d6) (P7 r6 e8 (d5.fz r5 s5)) fun z H' s d=>q z H5' H' r6 s d.st
     | false=>
      rw[if_neg zW] at e ⊢;cases e;exact q _ H3 H3 r4 (Same.refl _) C5
    ·cases e
theorem b1r (ha:QX X a f)(hb:QX X b g)(hc:QX X c h)(hm:lastMarks [.LtE,.Lt] [b,c]=false:=by with_unfolding_all rfl):QX X (.Compare a [.LtE,.Lt] [b,c] pos) (fChain oLe oLt f g h):=⟨PE.weak (a6s a5a b0k ha.to hb.to hc.to hm) (a1J kB0 kB0)⟩
theorem a72 (ha:QX X a f)(hb:QX X b g)(hc:QX X c h)(hm:lastMarks [.LtE,.LtE] [b,c]=false:=by with_unfolding_all rfl):QX X (.Compare a [.LtE,.LtE] [b,c] pos) (fChain oLe oLe f g h):=⟨PE.weak (a6s a5a a5a ha.to hb.to hc.to hm) (a1J kB0 kB0)⟩
abbrev FO:=Ev->Option (Option Int×Ev)
def tO (X:Cx) (f:FO):TO:=fun σ H Q=>∃P O L ρ o ρ',Rep X P O L ρ σ H/\f ρ=some (o,ρ')/\∀H',Rep X P O L ρ' σ H'->Q o H'
theorem tOe {X:Cx}{f:FO}{σ:L2.St}{H:Hp}{Q:Option Int->Hp->Prop}{C:Prop}(h:tO X f σ H Q)(k:∀P O L ρ o ρ',Rep X P O L ρ σ H->f ρ=some (o,ρ')->(∀H',Rep X P O L ρ' σ H'->Q o H')->C):C:=by
 obtain⟨P,O,L,ρ,w,ρ',r,e,q⟩:=h;exact k P O L ρ w ρ' r e q
structure QO (X:Cx) (e:Option Expr) (f:FO):Prop where
 to:PO X e (tO X f)
theorem PO.weak {X:Cx}{e:Option Expr}{t u:TO}(h:PO X e t)(w:∀σ H Q,u σ H Q->t σ H Q):PO X e u:=fun pins s σ H Q I q=>h pins s σ H Q I (w σ H Q q)
def fO0:FO:=fun ρ=>some (none,ρ)
def fO1 (f:FX):FO:=fun ρ=>(f ρ).bind fun p=>match p.1 with|.v (.int i)=>some (some i,p.2)|_=>none
theorem C4:QO X none fO0:=⟨PO.weak b1t fun σ H Q h0=>tOe h0 fun P O L ρ o ρ' r e q=>by cases e;exact q H r⟩
theorem A3 (ha:QX X e f):QO X (some e) (fO1 f):=⟨PO.weak (b2o ha.to) fun σ H Q h0=>tOe h0 fun P O L ρ o ρ' r e q=>by
 unfold fO1 at e;obtain⟨⟨w,ρ1⟩,e1,e⟩:=obs e;dsimp only at e;split at e
 ·rename_i i;cases e;refine⟨P,O,L,ρ,_,_,r,e1,fun v H1 H' r1 s1 d1=>⟨i,?_,q H' (r1.grow s1)⟩⟩;have d1:Den X.K (AvO O ρ' σ) H' (.int i) v:=d1;exact W5.mp d1
 ·cases e⟩
def cutD (xs:List D) (lo hi:Option Int):List D:=(xs.drop (HT.sIx xs.length 0 lo)).take (HT.sIx xs.length xs.length hi-HT.sIx xs.length 0 lo)
theorem a6j {K:PySem.W.Frag}{A:Av}{H:Hp}{xs:List D}{vs:List V}(lo hi:Option Int)(l:DenL K A H xs vs):DenL K A H (cutD xs lo hi) (cutV vs lo hi):=by
 unfold cutD cutV;rw[g8 l];exact a4X _ (a5s _ l)
def slD (x:D) (lo hi:Option Int):Option W:=match x with
 | .tup xs=>some (.v (.tup (cutD xs lo hi)))
 | .lst xs=>some (.o (.lst (cutD xs lo hi)))
 | _=>none
def fSl (f:FX) (lo hi:FO):FX:=fun ρ=>(f ρ).bind fun p=>(lo p.2).bind fun l=>(hi l.2).bind fun u=>(dr u.2 p.1.fz).bind fun x=>(slD x l.1 u.1).map fun w=>(w,u.2)
theorem R1 {lo hi:Option Expr}{fl fu:FO}{p2:Pos}(ha:QX X a f)(hl:QO X lo fl)(hu:QO X hi fu):QX X (.Subscript a (.Slice lo hi none p2) pos) (fSl f fl fu):=⟨PE.weak (a6U ((b1J.or b3D).or b15) ha.to hl.to hu.to) fun σ H Q h0=>tXe h0 fun P O L ρ w ρ' r e q=>by
 unfold fSl at e;obtain⟨⟨w1,ρ1⟩,e1,e⟩:=obs e;dsimp only at e;obtain⟨⟨l,ρ2⟩,e2,e⟩:=obs e;dsimp only at e;obtain⟨⟨u,ρ3⟩,e3,e⟩:=obs e;dsimp only at e;refine⟨P,O,L,ρ,w1,ρ1,r,e1,fun v H1 H1' r1 s1 d1=>?_⟩;obtain⟨P',r1',k1⟩:=hold (r1.grow s1) (d1.fz r1 s1);refine⟨P',O,L,ρ1,l,ρ2,r1',e2,fun H2 r2=>⟨P',O,L,ρ2,u,ρ3,r2,e3,fun H3 r3=>?_⟩⟩;obtain⟨r4,d4⟩:=k1 ρ3 H3 r3;cases e4:dr ρ3 w1.fz with
 | none=>rw[e4] at e;cases e
 | some x=>
  rw[e4] at e;simp only[bind_some] at e;have dx:=P7 r4 e4 d4;cases x with
  | tup xs=>
   cases e;obtain⟨a,vs,ev,hq,la⟩:=L6 dx
   by_cases hn:HT.sIx xs.length 0 l=0/\HT.sIx xs.length xs.length u=xs.length
   ·refine .inr ⟨a,vs,ev,hq,by rw[<-g8 la];exact hn,q _ H3 H3 r4 (Same.refl _) ?_⟩
    have ec:cutD xs l u=xs:=by
     unfold cutD;rw[hn.1,hn.2,drop_zero,Nat.sub_zero,List.take_length]
    rw[ec,<-ev];exact dx
   ·exact .inl (.inr ⟨a,vs,ev,hq,by rw[<-g8 la];exact hn,fun p hp=>q _ H3 _ r4 (A4 hp _) (Y7 hp (a6j l u la))⟩)
  | lst xs=>
   cases e;obtain⟨a,vs,ev,hq,la⟩:=dx;exact .inl (.inl ⟨a,vs,ev,hq,fun p hp=>q _ H3 _ r4 (A4 hp _) (a2h hp (a6j l u la))⟩)
  | _=>cases e⟩
end
section
variable {X:Cx}{a b e o:Expr}{es:List Expr}{pos p apos:Pos}{f h:FX}{fa:FA}{x:Str}
theorem W7 (i:Nat){pos':Pos}(hN:X.N.Nodup)(ha:QXU X e f)(hi:X.N[i]? =some x:=by rfl)(hx:Loc X.env.scope x:=by first|exact Or.inl rfl|exact Or.inr rfl)(hs:swapsWith e (some (.Name x pos')) pos.line X.env=pure true:=by rfl)(hf:X.fn x=true\/X.env.scope.names.lookup x=some .local:=by first|exact .inl rfl|exact .inr rfl):
  QS X (.Assign [.Name x pos'] e pos) (fAsg i f):=⟨fun pins s σ H E I h0=>tSe h0 fun P O L ρ r rp e0 q=>by
 unfold fAsg at e0;obtain⟨⟨w,ρ1⟩,e1,e0⟩:=obs e0;dsimp only at e0;obtain⟨ρ2,e2,e0⟩:=oms e0;cases e0;rw[exec_Assign_Name_used _ _ _ _ hs];refine zA (xA (zA (zJ (ha.to pins s σ H (fun v H'=>∃H1,Rep X P O L ρ1 σ H1/\Same H1 H'/\DenW X.K (AvO O ρ1 σ) σ H1 H' w v) (assign (.Name x pos') X.env) (fun s'=>SP X pins E .next s') I ⟨P,O,L,ρ,w,ρ1,rp,e1,fun v H1 H' r1 s1 d1=>⟨H1,r1,s1,d1⟩⟩ ?_) (fun _ s' h=>zK h) fun _ _ z=>z)));intro C m s' H' v vv fp hn I' rv ⟨H1,r1,sm,dv⟩;obtain⟨o,es,ep,ho,hd,hk⟩:=hn;obtain⟨f0,f1,f2,f3,f4,f5⟩:=fp;have I2:Inv X (pins++[(C,o)]) σ H' s':=I'.pins_of fun p hp=>(xD.mp hp).elim (fun z=>I'.pin p (qD _ z)) fun z=>by
  rw[qR.mp z];exact⟨ho,f0,f1,f2,fun w z=>by rw[hd] at z;cases z⟩
 refine zJ (a71 hN hi hx hf (pins++[(C,o)]) s' σ H' v vv (fun σ2 H2=>σ2=σ.set i (some v)/\H2=H') I2 rv ⟨rfl,rfl⟩) (fun _ s2 ⟨σ2,H2,I3,e2',e3⟩=>?_) fun _ _ z=>z;subst e2' e3;have pc:=I3.pin (C,o) (qD _ (qD _ (qR.mpr rfl)));refine⟨m,⟨o,es,ep,pc.1,hd,hk⟩,fun h' hs'=>?_⟩
 exact⟨_,_,(I3.unpinned).turned (t':=s2.toks) (it:=C) (fun b o' hb eb=>(hs'.2 b hb).trans eb) f0 f1 f3 f4 f5,q _ _ (a7M r1 sm dv e2)⟩⟩
def isLst:Option D->Bool
 | some (.lst _)=>true
 | _=>false
def fMut (op:List D->List D->Option (W×List D)) (f:FX) (fa:FA):FX:=fun ρ=>(f ρ).bind fun p=>match p.1 with
 | .r i=>if isLst (ownAt p.2 i)=true then(fa p.2).bind fun q=>(takeAll q.2 q.1).bind fun z=>match ownAt z.2 i with
  | some (.lst xs)=>(op xs z.1).map fun y=>(y.1,setOwn z.2 i (.lst y.2))
  | _=>none
  else none
 | _=>none
def PrM (X:Cx) (op:List D->List D->Option (W×List D)) (r:V->List V->Hp->VK->Prop):Prop:=∀(A:Av) (a:Addr) (xs ds:List D) (w:W) (ys:List D) (us vs:List V) (H:Hp) (Q:VK),H a=some (.lst us)->DenL X.K A H xs us->DenL X.K A H ds vs->op xs ds=some (w,ys)->
 (∀z ws,DenL X.K A H ys ws->DenW X.K A [] H H w z->Q z (upd H a (.lst ws)))->(w= .v .non\/∃d,w= .v d)->r (.ref a) vs H Q
theorem a9M {op:List D->List D->Option (W×List D)}{r:V->List V->Hp->VK->Prop}(hk:PrM X op r)(hw:∀xs ds w ys,op xs ds=some (w,ys)->∃d,w= .v d):∀σ H Q,tX X (fMut op f fa) σ H Q->tBM X.K "list" r (tX X f) (tA X fa) σ H Q:=fun σ H Q h0=>tXe h0 fun P O L ρ w ρ' rp e q=>by
 unfold fMut at e;obtain⟨⟨w1,ρ1⟩,e1,e⟩:=obs e;dsimp only at e;split at e
 ·rename_i i;split at e
  ·rename_i hl;refine⟨P,O,L,ρ,_,ρ1,rp,e1,fun v H1 H1' r1 s1 d1=>?_⟩;have d1:σ[i]? =some (some v):=d1;have r1':=r1.grow s1;refine⟨?_,?_⟩
   ·unfold isLst at hl;split at hl
    ·rename_i xs e2;obtain⟨w0,q0,ow⟩:=J7 e2;obtain⟨a,h1,vs,h2,_⟩:=r1'.obj q0 ow;rw[d1] at h1;cases h1;exact .inl ⟨rfl,vs,.inl (.inl h2)⟩
    ·cases hl
   ·obtain⟨⟨ws,ρ2⟩,e3,e⟩:=obs e;dsimp only at e;obtain⟨⟨ds,ρ3⟩,e4,e⟩:=obs e;dsimp only at e;split at e
    ·rename_i xs e5;obtain⟨⟨wy,ys⟩,e6,e⟩:=oms e;cases e;refine⟨P,O,L,ρ1,ws,ρ2,r1',e3,fun vs H2 r2 l2=>?_⟩;obtain⟨r3,l3,_⟩:=D7 r2 e4 l2;obtain⟨w0,q0,ow⟩:=J7 e5;obtain⟨a,h1,us,h2,l⟩:=r3.obj q0 ow;rw[d1] at h1;cases h1;refine hk _ a xs ds _ ys us vs H2 Q h2 l l3 e6 (fun z wz lz dz=>?_) (.inr (hw _ _ _ _ e6));have g0:Go (AvO O ρ3 σ) (AvO O ρ3 σ) (fun b=>b=a) H2 (upd H2 a (.lst wz)):=⟨fun b o eb nb=>by rw[k8 nb];exact eb,fun b z=>by rw[z];exact⟨.inr ⟨i,w0,_,q0,ow,d1⟩,_,h2,trivial⟩,fun b z=>.inl z⟩
     have r4:Rep X P O L (setOwn ρ3 i (.lst ys)) σ (upd H2 a (.lst wz)):=r3.mut (d:=.lst ys) e5 d1 (fun b o eb nb=>by rw[k8 nb];exact eb) ⟨wz,C3,F2 g0 _ _ lz⟩
     refine q z _ _ r4 (Same.refl _) ?_;obtain⟨d,rfl⟩:=hw _ _ _ _ e6;have av:∀b,AvO O (setOwn ρ3 i (.lst ys)) σ b->AvO O ρ3 σ b:=fun b z=>z.imp id fun z=>(a2H e5 b).mp z;exact C6 (L5 av) _ _ (C6 g0 _ _ dz)
    ·cases e
  ·cases e
 ·cases e
def mApp (xs ds:List D):Option (W×List D):=match ds with
 | [d]=>if xs.length<lim then some (.v .non,xs++[d]) else none
 | _=>none
theorem a9a:PrM X mApp rAppend:=fun A a xs ds w ys us vs H Q h l l' e q _=>by
 unfold mApp at e;split at e
 ·split at e
  ·rename_i d hl;cases e;obtain⟨v,rfl,hv⟩:=denL1 l';exact⟨a,us,v,rfl,rfl,h,by rw[<-g8 l];exact zF hl B5,q _ _ (M7 l (z9 hv A8)) a6G⟩
  ·cases e
 ·cases e
theorem b3H:∀xs ds w ys,mApp xs ds=some (w,ys)->∃d,w= .v d:=fun xs ds w ys e=>by
 unfold mApp at e;split at e
 ·split at e
  ·cases e;exact⟨_,rfl⟩
  ·cases e
 ·cases e
theorem a1j (ho:QX X o f)(ha:QA X (e::es) fa)(hbase:attributeBase o "append" X.env (eval o X.env)=eval o X.env:=by rfl)
  (hfew:((backTo pos (starEach (e::es) X.env)).all (fun x=>!x.1)&&(backToKw pos (keywordEach [] X.env)).all (fun x=>x.1.isSome)&&decide ((e::es).length+([]:List Keyword).length+(if([]:List Keyword).isEmpty then 0 else 1)<30))=true:=by rfl)
  (hline:(apos.endLine==pos.line)=true:=by rfl) (hs:starEach (e::es) X.env=(false,eval e X.env)::starEach es X.env:=by rfl) (hpl:(backTo pos (starEach es X.env)).any (·.1)=false:=by rfl):QX X (.Call (.Attribute o "append" apos) (e::es) [] pos) (fMut mApp f fa):=
 ⟨PE.weak (b2A PySem.F.plainAttrs_list PySem.F.slot_list_append PySem.F.type_list_append a2I ho.to ha.to hbase hfew hline hs hpl) (a9M a9a b3H)⟩
end
section
variable {P:Program}{w:World}{K:PySem.W.Frag}{mg:Str->Option Value}{base:Heap}
def spLaw (K:PySem.W.Frag):Sp:=fun vs H Q _=>∃(a:Addr) (ns:List Int),vs=[.ref a]/\((∃o,H a=some (.frz o (.lst (ns.map V.int))))\/SqL K (fun _=>none) a (ns.map V.int))/\ns.length<=63/\∀H',Q (.bl true) H'
theorem b4H {st:Stmt}{f:Addr}{fd:FuncData}{N ps:List Str}{k np n:Nat}{G:FS}(F:Fun K "law" "law" st f fd)(S:FnScope N ps (defScope st))(hp:ps.length=np)(hn:N.length=n)
  (body:∀(cdv:Value) (A:Around) (outer:List Env) (s:Shared) (H:Hp) (E:XK),Room k (A.deeper (envOfC "law" (defScope st) s.heap.objs.size f cdv))->
   QSs (cxOf CX0 P w K mg base N "law" (defScope st) f cdv A outer s H E).nox (defBody st) G)
  (h:∀ns:List Int,ns.length<=63->runD np n G [.lst (ns.map D.int)]=some (.v (.bl true))):FnOk P w K mg base CX0 (k+1) f fd ps (spLaw K):=by
 have den:∀(H:Hp) (a:Addr) (ns:List Int),((∃o,H a=some (.frz o (.lst (ns.map V.int))))\/SqL K (fun _=>none) a (ns.map V.int))->DenL K (fun _=>False) H [.lst (ns.map D.int)] [.ref a]:=fun H a ns hq=>by
  refine z9 ?_ A8;rw[Den];exact⟨a,_,rfl,.inr hq,a1n ns⟩
 refine F.ok S (fun vs H Q E ⟨a,ns,ev,hq,hl,q⟩=>?_) (fun cdv A outer s H vs Q E hr ⟨a,ns,ev,hq,hl,q⟩=>⟨_,(body cdv A outer s H E hr).to,?_⟩)
 ·have e:=h ns hl;unfold runD at e;split at e
  ·rename_i hl';rw[ev,hp,<-hl'];rfl
  ·cases e
 ·have e:=h ns hl;unfold runD at e;split at e
  ·rename_i hl';cases e1:G (start0 n [.lst (ns.map D.int)]) with
   | none=>rw[e1] at e;cases e
   | some r=>
    rw[e1] at e;refine⟨[],fun _=>False,[],_,r,a2V rfl hn (fun b z=>z.elim) (by rw[ev];exact den H a ns hq),e1,?_⟩
    cases r with
    | rt d' ρ'=>cases e;exact fun v H' s' _ d1=>by rw[Z8 d1];exact q H'
    | nx ρ'=>cases e
    | bk ρ'=>cases e
    | ct ρ'=>cases e
  ·cases e
theorem walk {l:PySem.W.OpenLaw}{q:Program}{loose:List Str}{XP:(Str->Option Value)->Heap->Prop}{YP:World->Heap->Prop}{d:DefRec}{K:Params->PySem.W.Frag}(hn:l.most=some 63)(hdf:d.params.defaults=[])
  (hY:∀(w:World) (h:Heap),YP w h->(K w.params).In h)
  (F:∀(w:World) (mg:Str->Option Value) (fa:Addr) (h:Heap),(K w.params).In h->h.Ns mainGlobals mg->mg d.name=some (.ref fa)->
   ∃fd:FuncData,(∀(s:Shared) (u:Value),BindsTo s fd ⟨[u],[]⟩ [("script",u)])/\∀base:Heap,(K w.params).In base->base.Ns mainGlobals mg->FnOk l.prog w (K w.params) mg base CX0 60 fa fd ["script"] (spLaw (K w.params))):
  PySem.W.WalkO q loose XP YP l.row.toRowW d [] (fun f vs=>PySem.call f vs):=
 L2.b0Y (n:=63) (k:=60) (x:="script") (CX:=fun _=>CX0) (sp:=fun w=>spLaw (K w.params)) hn (by decide) hdf ⟨rfl,by decide,by decide,rfl⟩ hY F (fun _ H a ns hl hO hS=>⟨a,ns,rfl,(by
  rcases hS with (hS|⟨o,hS⟩)|hS
  ·rcases hO a with z|⟨o,ys,z⟩
   ·rw[z] at hS;cases hS
   ·rw[z] at hS;cases hS
  ·exact .inl ⟨o,hS⟩
  ·exact .inr (.inr hS)),hl,fun _=>rfl⟩) fun _ _ _ _ _ z=>z
end
end Z
set_option maxHeartbeats 1000000
set_option exponentiation.threshold 100000
namespace Z
open PySem L2
theorem lfW_v {d:D}:lfW (.v d)=lf d:=rfl
theorem lfW_o {d:D}:lfW (.o d)=lfC d:=rfl
theorem b1b {xs:List D}:lfC (.lst xs)=lfL xs:=rfl
theorem lfC_dT {ks:List (List Key)}{xs:List D}:lfC (.dT ks xs)=lfL xs:=rfl
theorem lfC_dK {ks:List Key}{xs:List D}:lfC (.dK ks xs)=lfL xs:=rfl
def freeO:Option W->Bool
 | some (.l _)=>false
 | _=>true
theorem a7n:freeO none=true:=rfl
theorem b2f {d:D}:freeO (some (.v d))=true:=rfl
theorem freeO_o {d:D}:freeO (some (.o d))=true:=rfl
theorem freeO_l {d:D}:freeO (some (.l d))=false:=rfl
theorem free_nil {n:Nat}:freeSlot [] n=true:=rfl
theorem b3O {x:Option W}{ρ:Ev}:freeSlot (x::ρ) 0=freeO x:=by
 unfold freeSlot freeO;rw[List.getElem?_cons_zero];cases x with
 | none=>rfl
 | some w=>cases w<;>rfl
theorem b4k {x:Option W}{ρ:Ev}{n:Nat}:freeSlot (x::ρ) (n+1)=freeSlot ρ n:=by
 unfold freeSlot;rw[xY]
theorem a83 {xs:List D}:isLst (some (.lst xs))=true:=rfl
theorem liB_none {ρ:Ev}:liB none ρ=true:=rfl
theorem liB_some {i j:Nat}{ρ:Ev}:liB (some (i,j)) ρ=(ownAt ρ j).isSome:=rfl
theorem own_nil {n:Nat}:ownAt [] n=none:=rfl
theorem own_0 {w:W}{ρ:Ev}:ownAt (some w::ρ) 0=w.own:=rfl
theorem own_n {ρ:Ev}:ownAt (none::ρ) 0=none:=rfl
theorem own_s {x:Option W}{ρ:Ev}{n:Nat}:ownAt (x::ρ) (n+1)=ownAt ρ n:=by
 unfold ownAt;rw[xY]
theorem setO_l {c d:D}{ρ:Ev}:setOwn (some (.l c)::ρ) 0 d=some (.l d)::ρ:=rfl
theorem b3u {c d:D}{ρ:Ev}:setOwn (some (.o c)::ρ) 0 d=some (.o d)::ρ:=rfl
theorem b4P {x:Option W}{ρ:Ev}{n:Nat}{d:D}:setOwn (x::ρ) (n+1) d=x::setOwn ρ n d:=by
 unfold setOwn;rw[xY]
 split<;>rename_i h<;>simp[h]
theorem frz_nil {n:Nat}:frzAt [] n=none:=rfl
theorem frz_o {d:D}{ρ:Ev}:frzAt (some (.o d)::ρ) 0=some (some (.v d)::ρ):=rfl
theorem frz_v {d:D}{ρ:Ev}:frzAt (some (.v d)::ρ) 0=some (some (.v d)::ρ):=rfl
theorem frz_s {x:Option W}{ρ:Ev}{n:Nat}:frzAt (x::ρ) (n+1)=(frzAt ρ n).map fun ρ'=>x::ρ':=by
 unfold frzAt;rw[xY]
 split<;>rename_i h<;>simp[h]
abbrev acc (zs:List D):Ev:=[some (.l (.lst zs))]
theorem a92 {B:Ev}{zs:List D}{k:Nat}(h:B.length=k):ownAt (B++acc zs) k=some (.lst zs):=by
 unfold ownAt;rw[qI (by walk_at "o"),h,jV];rfl
theorem b1c {B:Ev}{zs ys:List D}{k:Nat}(h:B.length=k):setOwn (B++acc zs) k (.lst ys)=B++acc ys:=by
 unfold setOwn;have e:(B++acc zs)[k]? =some (some (.l (.lst zs))):=by rw[qI (by walk_at "o"),h,jV];rfl
 rw[e];simp only;rw[List.set_append_right _ _ (by walk_at "o"),h,jV];rfl
theorem b2y {B:Ev}{zs:List D}{k:Nat}{w:W}{d:D}(h:B.length=k)(hw:w= .v d\/w= .o d)(hl:zs.length<lim):appTo k (w,B++acc zs)=some (B++acc (zs++[d])):=by
 unfold appTo;have e:w.fz= .v d:=by rcases hw with rfl|rfl<;>rfl
 simp only[e,takeAll,qH,bind_some];rw[a92 h];simp only[if_pos hl,b1c h]
theorem a26 {k:Nat}{gf:FG}{t:FT}{fe:FX}(I:Ev->Prop)(p:D->Bool)(h:D->D)(hI:∀B,I B->B.length=k):∀(xs:List D),(∀x∈xs,∀B zs,I B->∃B' w,I B'/\gf x (B++acc zs)=some (B'++acc zs)/\t (B'++acc zs)=some (p x,B'++acc zs)/\(p x=true->fe (B'++acc zs)=some (w,B'++acc zs)/\(w= .v (h x)\/w= .o (h x))))->
  ∀(B:Ev) (zs:List D),zs.length+xs.length<=lim->I B->∃B',I B'/\loopC (turnC k gf t fe) xs (B++acc zs)=some (B'++acc (zs++(xs.filter p).map h))
 | [],st,B,zs,hl,i=>⟨B,i,by simp[loopC]⟩
 | x::xs,st,B,zs,hl,i=>by
  obtain⟨B1,w,i1,e1,e2,e3⟩:=st x zG B zs i;rw[zU] at hl;cases hp:p x with
  | true=>
   obtain⟨e4,hw⟩:=e3 hp;obtain⟨B2,i2,e5⟩:=a26 I p h hI xs (fun y hy=>st y (zH _ hy)) B1 (zs++[h x]) (by rw[zP,jR];walk_at "o") i1
   refine⟨B2,i2,?_⟩;rw[loopC,turnC,e1];have ea:=b2y (zs:=zs) (hI B1 i1) hw (by walk_at "o")
   simp only[bind_some,e2,hp,qT,e4,ea];rw[e5,List.filter_cons_of_pos hp,zR,List.append_assoc];rfl
  | false=>
   obtain⟨B2,i2,e5⟩:=a26 I p h hI xs (fun y hy=>st y (zH _ hy)) B1 zs (by walk_at "o") i1
   refine⟨B2,i2,?_⟩;rw[loopC,turnC,e1];simp only[bind_some,e2,hp,jW,if_false];rw[e5,List.filter_cons_of_neg (by rw[hp];exact zW)]
theorem w4 {fi:FI}{js:List (Option Nat)}{gf:FG}{t:FT}{fe:FX}{ρ ρ1:Ev}{xs:List D}(I:Ev->Prop)(p:D->Bool)(h:D->D)(ei:fi ρ=some (xs,ρ1))(hI:∀B,I B->B.length=js.length)(h0:I (capE none js ρ1))(hl:xs.length<=lim)(hf:lfL ((xs.filter p).map h)=true)
  (st:∀x∈xs,∀B zs,I B->∃B' w,I B'/\gf x (B++acc zs)=some (B'++acc zs)/\t (B'++acc zs)=some (p x,B'++acc zs)/\(p x=true->fe (B'++acc zs)=some (w,B'++acc zs)/\(w= .v (h x)\/w= .o (h x)))):
  fComp fi none js gf t fe ρ=some (.o (.lst ((xs.filter p).map h)),ρ1):=by
 obtain⟨B',i',e⟩:=a26 I p h hI xs st (capE none js ρ1) [] (by rw[xW];walk_at "o") h0
 unfold fComp;rw[ei];simp only[bind_some,liB,qT,qN];rw[show capE none js ρ1++[some (.l (.lst []))]=capE none js ρ1++acc [] from rfl,e];simp only[bind_some,nil_append,a92 (hI B' i'),backG,lfC,hf,qT]
theorem j9 {α:Type}(xs:List α):xs.filter (fun _=>true)=xs:=by induction xs with
 | nil=>rfl
 | cons x xs ih=>rw[List.filter_cons_of_pos rfl,ih]
theorem b0R (m n:Nat)(h:0<n):Nat.gcd m n=Nat.gcd n (m%n):=by
 rw[Nat.gcd_comm m n,Nat.gcd_rec n m,Nat.gcd_comm]
abbrev gcC (j:Nat):FT:=fTest (fBin oGt (fVar j) (fC (.int 0)))
abbrev gcB (i j:Nat):FS:=fPar i j (fCons (fVar j) (fCons (fMod (fVar i) (fVar j)) fNil))
theorem set2 {ρ:Ev}{i j:Nat}(hij:i≠j)(a b c d:Option W):(((ρ.set i a).set j b).set i c).set j d=(ρ.set i c).set j d:=by
 apply List.ext_getElem?;intro l;simp only[getElem?_set,jM]
 by_cases h1:j=l<;>by_cases h2:i=l<;>simp[h1,h2]
theorem a5i {i j:Nat}(hij:i≠j):∀(k m n:Nat) (ρ:Ev),n<=k->ρ[i]? =some (some (.v (.int (m:Nat))))->ρ[j]? =some (some (.v (.int (n:Nat))))->whileF (gcC j) (gcB i j) (k+1) ρ=some (.nx ((ρ.set i (some (.v (.int (Nat.gcd m n:Nat))))).set j (some (.v (.int 0)))))
 | k,m,n,ρ,hk,h1,h2=>by
  have tst:gcC j ρ=some (decide ((0:Int)<(n:Int)),ρ):=by
   simp only[gcC,fTest,fBin,fVar,h2,fC,bind_some,W.fz,dr,oI0,qH]
  rw[whileF,tst]
  by_cases hn:0<n
  ·have bd:gcB i j ρ=some (.nx ((ρ.set i (some (.v (.int (n:Nat))))).set j (some (.v (.int ((m%n:Nat):Int)))))):=by
    have f1:freeSlot ρ i=true:=by simp only[freeSlot,h1]
    have f2:freeSlot (ρ.set i (some (.v (.int (n:Nat))))) j=true:=by simp only[freeSlot,zL hij,h2]
    have p:(0:Int)<(n:Nat):=by walk_at "o"
    simp only[gcB,fPar,fCons,fNil,fVar,h1,h2,fBin,bind_some,W.fz,dr,oI,p,qT,qH,takeAll,f1,f2,and_self];rfl
   have d:decide ((0:Int)<(n:Int))=true:=by simp;walk_at "o"
   simp only[bind_some,d,qT,bd];cases k with
   | zero=>walk_at "o"
   | succ k=>
    have hlt:m%n<n:=Nat.mod_lt m hn;have li:i<ρ.length:=(zM.mp h1).1;have lj:j<ρ.length:=(zM.mp h2).1;rw[a5i hij k n (m%n) _ (by walk_at "o") (by rw[zL (qA hij)];exact E7 li) (E7 (by simpa using lj)),set2 hij,<-b0R m n hn]
  ·have hn0:n=0:=by walk_at "o"
   subst hn0;have d:decide ((0:Int)<((0:Nat):Int))=false:=by decide
   simp only[bind_some,d,jW,if_false,Nat.gcd_zero_right];congr 2;apply List.ext_getElem?;intro l
   by_cases lj:l=j
   ·subst lj;rw[E7 (by have:=(zM.mp h2).1;simpa using this)];exact h2
   ·rw[zL (qA lj)]
    by_cases li:l=i
    ·subst li;rw[E7 (zM.mp h1).1];exact h1
    ·rw[zL (qA li)]
theorem a62 {i j:Nat}(hij:i≠j){a b:Int}{ρ:Ev}(ha:0<=a)(hb:0<=b)(h1:ρ[i]? =some (some (.v (.int a))))(h2:ρ[j]? =some (some (.v (.int b)))):whileV (gcC j) (gcB i j) ρ=some (.nx ((ρ.set i (some (.v (.int (Int.gcd a b:Nat))))).set j (some (.v (.int 0))))):=by
 obtain⟨m,rfl⟩:=Int.eq_ofNat_of_zero_le ha;obtain⟨n,rfl⟩:=Int.eq_ofNat_of_zero_le hb;exact a8m (a5i hij n m n ρ (zI _) h1 h2)
def Sz (n:Nat) (q:Rat):Prop:=q.num.natAbs<2^n/\q.den<2^n
theorem Sz.mono {m n:Nat}{q:Rat}(h:Sz m q)(hm:m<=n):Sz n q:=⟨zF h.1 (qL (by decide) hm),zF h.2 (qL (by decide) hm)⟩
section
variable {ρ ρ1 ρ2:Ev}{op:D->D->Option W}{o:D->Option W}{f g h:FX}{t u:FT}{fa:FA}{F G:FS}{i j:Nat}{d e x y:D}{w z:W}{ws:List W}{ds xs ys:List D}{r:R}{k b:Bool}
def varO (i:Nat) (ρ:Ev):Option (Option W)->Option (W×Ev)
 | some (some (.v d))=>some (.v d,ρ)
 | some (some (.r _))=>none
 | some (some _)=>some (.r i,ρ)
 | _=>none
theorem r_var:fVar i ρ=varO i ρ ρ[i]?:=by unfold fVar varO;split<;>simp_all
theorem b2k:varO i ρ (some (some (.v d)))=some (.v d,ρ):=rfl
theorem b1D:varO i ρ (some (some (.o d)))=some (.r i,ρ):=rfl
theorem r_var_l:varO i ρ (some (some (.l d)))=some (.r i,ρ):=rfl
theorem r_c:fC d ρ=some (.v d,ρ):=rfl
def drO:Option (Option W)->Option D
 | some (some (.v d))=>some d
 | some (some w)=>w.own
 | _=>none
theorem b3k:dr ρ (.v d)=some d:=rfl
theorem b3d:dr ρ (.r i)=drO ρ[i]?:=by unfold dr drO;rfl
theorem r_drO_v:drO (some (some (.v d)))=some d:=rfl
theorem b02:drO (some (some (.o d)))=some d:=rfl
theorem r_drO_l:drO (some (some (.l d)))=some d:=rfl
theorem b3x:(W.v d).fz= .v d:=rfl
theorem b2Q:(W.o d).fz= .v d:=rfl
theorem b4z:(W.r i).fz= .r i:=rfl
def drsC (ρ:Ev) (ws:List W):Option D->Option (List D)
 | some d=>(drs ρ ws).map fun ds=>d::ds
 | none=>none
theorem b1m:drs ρ []=some []:=rfl
theorem b1d:drs ρ (w::ws)=drsC ρ ws (dr ρ w):=by rw[drs];unfold drsC;cases dr ρ w<;>rfl
theorem b38:drsC ρ ws (some d)=(drs ρ ws).map fun ds=>d::ds:=rfl
def bin2 (op:D->D->Option W) (g:FX):Option (W×Ev)->Option (W×Ev)
 | some p=>(g p.2).bind fun q=>(dr q.2 p.1.fz).bind fun x=>(dr q.2 q.1.fz).bind fun y=>(op x y).map fun w=>(w,q.2)
 | none=>none
def bin3 (op:D->D->Option W) (w:W):Option (W×Ev)->Option (W×Ev)
 | some q=>(dr q.2 w.fz).bind fun x=>(dr q.2 q.1.fz).bind fun y=>(op x y).map fun w=>(w,q.2)
 | none=>none
def bin4 (op:D->D->Option W) (ρ:Ev):Option D->Option D->Option (W×Ev)
 | some x,some y=>(op x y).map fun w=>(w,ρ)
 | _,_=>none
def withE (ρ:Ev):Option W->Option (W×Ev)
 | some w=>some (w,ρ)
 | none=>none
theorem r_bin:fBin op f g ρ=bin2 op g (f ρ):=by unfold fBin bin2;cases f ρ<;>rfl
theorem b2G:bin2 op g (some (w,ρ))=bin3 op w (g ρ):=by unfold bin2 bin3;dsimp only;cases g ρ<;>rfl
theorem b3r:bin3 op w (some (z,ρ))=bin4 op ρ (dr ρ w.fz) (dr ρ z.fz):=by unfold bin3 bin4;dsimp only;cases dr ρ w.fz<;>cases dr ρ z.fz<;>rfl
theorem b2P:bin4 op ρ (some x) (some y)=withE ρ (op x y):=by unfold bin4 withE;dsimp only;cases op x y<;>rfl
theorem b3y:withE ρ (some w)=some (w,ρ):=rfl
def un2 (o:D->Option W):Option (W×Ev)->Option (W×Ev)
 | some p=>(dr p.2 p.1.fz).bind fun x=>(o x).map fun w=>(w,p.2)
 | none=>none
def un3 (o:D->Option W) (ρ:Ev):Option D->Option (W×Ev)
 | some x=>withE ρ (o x)
 | none=>none
theorem r_un:fUn o f ρ=un2 o (f ρ):=by unfold fUn un2;cases f ρ<;>rfl
theorem r_un2:un2 o (some (w,ρ))=un3 o ρ (dr ρ w.fz):=by unfold un2 un3 withE;dsimp only;cases dr ρ w.fz with
 | none=>rfl
 | some x=>simp only[bind_some];cases o x<;>rfl
theorem r_un3:un3 o ρ (some x)=withE ρ (o x):=rfl
def tstO:Option (W×Ev)->Option (Bool×Ev)
 | some (.v (.bl k),ρ)=>some (k,ρ)
 | _=>none
theorem a5I:fTest f ρ=tstO (f ρ):=by
 unfold fTest tstO;cases f ρ with
 | none=>rfl
 | some p=>
  obtain⟨w,ρ⟩:=p;cases w with
  | v d=>cases d<;>rfl
  | _=>rfl
theorem b4w:tstO (some (.v (.bl k),ρ))=some (k,ρ):=rfl
def tru2:Option (W×Ev)->Option (Bool×Ev)
 | some p=>(dr p.2 p.1.fz).bind fun d=>(truth d).map fun k=>(k,p.2)
 | none=>none
def tru3 (ρ:Ev):Option D->Option (Bool×Ev)
 | some d=>(truth d).map fun k=>(k,ρ)
 | none=>none
theorem b2B:fTru f ρ=tru2 (f ρ):=by unfold fTru tru2;cases f ρ<;>rfl
theorem b4r:tru2 (some (w,ρ))=tru3 ρ (dr ρ w.fz):=by unfold tru2 tru3;dsimp only;cases dr ρ w.fz<;>rfl
theorem b0h:tru3 ρ (some (.bl k))=some (k,ρ):=rfl
theorem b4X:tru3 ρ (some (.tup xs))=some (!xs.isEmpty,ρ):=rfl
theorem b4U:tru3 ρ (some (.lst xs))=some (!xs.isEmpty,ρ):=rfl
theorem b4Y:tru3 ρ (some .non)=some (false,ρ):=rfl
def notO:Option (Bool×Ev)->Option (Bool×Ev)
 | some p=>some (!p.1,p.2)
 | none=>none
theorem r_not:fNot t ρ=notO (t ρ):=by unfold fNot notO;cases t ρ<;>rfl
theorem b25:notO (some (k,ρ))=some (!k,ρ):=rfl
def andO (u:FT):Option (Bool×Ev)->Option (Bool×Ev)
 | some (true,ρ)=>u ρ
 | some (false,ρ)=>some (false,ρ)
 | none=>none
def orO (u:FT):Option (Bool×Ev)->Option (Bool×Ev)
 | some (true,ρ)=>some (true,ρ)
 | some (false,ρ)=>u ρ
 | none=>none
theorem r_and:fAnd t u ρ=andO u (t ρ):=by unfold fAnd andO;cases t ρ with
 | none=>rfl
 | some p=>obtain⟨k,ρ⟩:=p;cases k<;>rfl
theorem r_or:fOr t u ρ=orO u (t ρ):=by unfold fOr orO;cases t ρ with
 | none=>rfl
 | some p=>obtain⟨k,ρ⟩:=p;cases k<;>rfl
theorem b06:andO u (some (true,ρ))=u ρ:=id rfl
theorem b03:andO u (some (false,ρ))=some (false,ρ):=rfl
theorem b4y:orO u (some (true,ρ))=some (true,ρ):=rfl
theorem b3N:orO u (some (false,ρ))=u ρ:=id rfl
def andV (g:FX):Option (Bool×Ev)->Option (W×Ev)
 | some (true,ρ)=>g ρ
 | some (false,ρ)=>some (.v (.bl false),ρ)
 | none=>none
def orV (g:FX):Option (Bool×Ev)->Option (W×Ev)
 | some (true,ρ)=>some (.v (.bl true),ρ)
 | some (false,ρ)=>g ρ
 | none=>none
def notV:Option (Bool×Ev)->Option (W×Ev)
 | some (k,ρ)=>some (.v (.bl (!k)),ρ)
 | none=>none
def ifV (f g:FX):Option (Bool×Ev)->Option (W×Ev)
 | some (true,ρ)=>f ρ
 | some (false,ρ)=>g ρ
 | none=>none
theorem b4J:fAndV f g ρ=andV g (tstO (f ρ)):=by unfold fAndV andV;rw[a5I];cases tstO (f ρ) with
 | none=>rfl
 | some p=>obtain⟨k,ρ⟩:=p;cases k<;>rfl
theorem r_orV:fOrV f g ρ=orV g (tstO (f ρ)):=by unfold fOrV orV;rw[a5I];cases tstO (f ρ) with
 | none=>rfl
 | some p=>obtain⟨k,ρ⟩:=p;cases k<;>rfl
theorem r_notV:fNotV f ρ=notV (tstO (f ρ)):=by unfold fNotV notV;rw[a5I];cases tstO (f ρ)<;>rfl
theorem r_if:fIf t f g ρ=ifV f g (t ρ):=by unfold fIf ifV;cases t ρ with
 | none=>rfl
 | some p=>obtain⟨k,ρ⟩:=p;cases k<;>rfl
theorem b0w:andV g (some (true,ρ))=g ρ:=id rfl
theorem b0r:andV g (some (false,ρ))=some (.v (.bl false),ρ):=rfl
theorem r_orV_t:orV g (some (true,ρ))=some (.v (.bl true),ρ):=rfl
theorem b19:orV g (some (false,ρ))=g ρ:=id rfl
theorem r_notV_s:notV (some (k,ρ))=some (.v (.bl (!k)),ρ):=rfl
theorem b4K:ifV f g (some (true,ρ))=f ρ:=id rfl
theorem b2U:ifV f g (some (false,ρ))=g ρ:=id rfl
def cons2 (fa:FA):Option (W×Ev)->Option (List W×Ev)
 | some p=>(fa p.2).map fun q=>(p.1.fz::q.1,q.2)
 | none=>none
def cons3 (w:W):Option (List W×Ev)->Option (List W×Ev)
 | some q=>some (w::q.1,q.2)
 | none=>none
theorem r_nil:fNil ρ=some ([],ρ):=rfl
theorem b3R:fCons f fa ρ=cons2 fa (f ρ):=by unfold fCons cons2;cases f ρ<;>rfl
theorem b1o:cons2 fa (some (w,ρ))=cons3 w.fz (fa ρ):=by unfold cons2 cons3;dsimp only;cases fa ρ<;>rfl
theorem b08:cons3 w (some (ws,ρ))=some (w::ws,ρ):=rfl
def takC (d:D):Option (List D×Ev)->Option (List D×Ev)
 | some p=>some (d::p.1,p.2)
 | none=>none
def takR (i:Nat) (ws:List W):Option Ev->Option (List D×Ev)
 | some ρ1=>match ρ1[i]? with
  | some (some (.v d))=>(takeAll ρ1 ws).map fun p=>(d::p.1,p.2)
  | _=>none
 | none=>none
def takS (ρ:Ev) (ws:List W):Option (Option W)->Option (List D×Ev)
 | some (some (.v d))=>takC d (takeAll ρ ws)
 | _=>none
theorem b1L:takeAll ρ []=some ([],ρ):=rfl
theorem b07:takeAll ρ (.v d::ws)=takC d (takeAll ρ ws):=by rw[takeAll];unfold takC;cases takeAll ρ ws<;>rfl
theorem b2l:takeAll ρ (.r i::ws)=takR i ws (frzAt ρ i):=by rw[takeAll];unfold takR;cases frzAt ρ i<;>rfl
theorem b2N:takC d (some (ds,ρ))=some (d::ds,ρ):=rfl
theorem b3X:takR i ws (some ρ)=takS ρ ws ρ[i]?:=by
 unfold takR takS;dsimp only
 split
 ·unfold takC;cases takeAll ρ ws<;>rfl
 ·rfl
theorem b4E:takS ρ ws (some (some (.v d)))=takC d (takeAll ρ ws):=rfl
def disp2 (mk:List D->W):Option (List W×Ev)->Option (W×Ev)
 | some p=>(takeAll p.2 p.1).bind fun q=>if q.1.length<=lim then some (mk q.1,q.2) else none
 | none=>none
def disp3 (mk:List D->W):Option (List D×Ev)->Option (W×Ev)
 | some q=>if q.1.length<=lim then some (mk q.1,q.2) else none
 | none=>none
theorem r_tup:fTup fa ρ=disp2 (fun ds=>.v (.tup ds)) (fa ρ):=by unfold fTup disp2;cases fa ρ<;>rfl
theorem r_lst:fLst fa ρ=disp2 (fun ds=>.o (.lst ds)) (fa ρ):=by unfold fLst disp2;cases fa ρ<;>rfl
theorem b1E {mk:List D->W}:disp2 mk (some (ws,ρ))=disp3 mk (takeAll ρ ws):=by unfold disp2 disp3;dsimp only;cases takeAll ρ ws<;>rfl
theorem b2g {mk:List D->W}:disp3 mk (some (ds,ρ))=if ds.length<=lim then some (mk ds,ρ) else none:=rfl
def call2 (k:List D->Option W):Option (List W×Ev)->Option (W×Ev)
 | some p=>(drs p.2 p.1).bind fun ds=>(k ds).map fun w=>(w,p.2)
 | none=>none
def call3 (k:List D->Option W) (ρ:Ev):Option (List D)->Option (W×Ev)
 | some ds=>withE ρ (k ds)
 | none=>none
theorem b3L {k:List D->Option W}:fCall k fa ρ=call2 k (fa ρ):=by unfold fCall call2;cases fa ρ<;>rfl
theorem b2s {k:List D->Option W}:call2 k (some (ws,ρ))=call3 k ρ (drs ρ ws):=by
 unfold call2 call3 withE;dsimp only;cases drs ρ ws with
 | none=>rfl
 | some ds=>simp only[bind_some];cases k ds<;>rfl
theorem b1X {k:List D->Option W}:call3 k ρ (some ds)=withE ρ (k ds):=rfl
theorem r_k1 {g:D->Option W}:k1 g [d]=g d:=rfl
theorem r_k2 {g:Int->Int->D}{i j:Int}:k2 g [.int i,.int j]=some (.v (g i j)):=rfl
def def2 (g:List D->Option W):Option (List W×Ev)->Option (W×Ev)
 | some p=>(drs p.2 p.1).bind fun ds=>(g ds).bind fun w=>if lfW w=true then some (w,p.2) else(frzL p.1 p.2).map fun ρ2=>(w,ρ2)
 | none=>none
def def3 (g:List D->Option W) (ws:List W) (ρ:Ev):Option (List D)->Option (W×Ev)
 | some ds=>(g ds).bind fun w=>if lfW w=true then some (w,ρ) else(frzL ws ρ).map fun ρ2=>(w,ρ2)
 | none=>none
def def4 (ws:List W) (ρ:Ev):Option W->Option (W×Ev)
 | some w=>if lfW w=true then some (w,ρ) else(frzL ws ρ).map fun ρ2=>(w,ρ2)
 | none=>none
theorem r_def {g:List D->Option W}:fDef g fa ρ=def2 g (fa ρ):=by unfold fDef def2;cases fa ρ<;>rfl
theorem b3g {g:List D->Option W}:def2 g (some (ws,ρ))=def3 g ws ρ (drs ρ ws):=by unfold def2 def3;dsimp only;cases drs ρ ws<;>rfl
theorem b4v {g:List D->Option W}:def3 g ws ρ (some ds)=def4 ws ρ (g ds):=by unfold def3 def4;dsimp only;cases g ds<;>rfl
theorem b2X:def4 ws ρ (some w)=if lfW w=true then some (w,ρ) else(frzL ws ρ).map fun ρ2=>(w,ρ2):=rfl
def dl2 (g:D->List D->Option (W×D)):Option (List W×Ev)->Option (W×Ev)
 | some (.r i::ws,ρ)=>(ownAt ρ i).bind fun c=>(drs ρ ws).bind fun ds=>(g c ds).bind fun z=>if noR i ws=true/\lfC z.2=true then(if lfW z.1=true then some (z.1,setOwn ρ i z.2) else(frzL ws (setOwn ρ i z.2)).map fun ρ2=>(z.1,ρ2)) else none
 | _=>none
def dl3 (g:D->List D->Option (W×D)) (i:Nat) (ws:List W) (ρ:Ev):Option D->Option (List D)->Option (W×Ev)
 | some c,some ds=>(g c ds).bind fun z=>if noR i ws=true/\lfC z.2=true then(if lfW z.1=true then some (z.1,setOwn ρ i z.2) else(frzL ws (setOwn ρ i z.2)).map fun ρ2=>(z.1,ρ2)) else none
 | _,_=>none
def dl4 (i:Nat) (ws:List W) (ρ:Ev):Option (W×D)->Option (W×Ev)
 | some z=>if noR i ws=true/\lfC z.2=true then(if lfW z.1=true then some (z.1,setOwn ρ i z.2) else(frzL ws (setOwn ρ i z.2)).map fun ρ2=>(z.1,ρ2)) else none
 | none=>none
theorem r_dl {g:D->List D->Option (W×D)}:fDefL g fa ρ=dl2 g (fa ρ):=by
 unfold fDefL dl2;cases fa ρ with
 | none=>rfl
 | some p=>
  obtain⟨ws,ρ⟩:=p;cases ws with
  | nil=>rfl
  | cons w ws=>cases w<;>rfl
theorem r_dl2 {g:D->List D->Option (W×D)}:dl2 g (some (.r i::ws,ρ))=dl3 g i ws ρ (ownAt ρ i) (drs ρ ws):=by unfold dl2 dl3;dsimp only;cases ownAt ρ i<;>cases drs ρ ws<;>rfl
theorem r_dl3 {g:D->List D->Option (W×D)}:dl3 g i ws ρ (some d) (some ds)=dl4 i ws ρ (g d ds):=by unfold dl3 dl4;dsimp only;cases g d ds<;>rfl
theorem r_dl4:dl4 i ws ρ (some (w,d))=if noR i ws=true/\lfC d=true then(if lfW w=true then some (w,setOwn ρ i d) else(frzL ws (setOwn ρ i d)).map fun ρ2=>(w,ρ2)) else none:=rfl
def sl2 (lo hi:FO):Option (W×Ev)->Option (W×Ev)
 | some p=>(lo p.2).bind fun l=>(hi l.2).bind fun u=>(dr u.2 p.1.fz).bind fun x=>(slD x l.1 u.1).map fun w=>(w,u.2)
 | none=>none
def sl3 (hi:FO) (w:W):Option (Option Int×Ev)->Option (W×Ev)
 | some l=>(hi l.2).bind fun u=>(dr u.2 w.fz).bind fun x=>(slD x l.1 u.1).map fun w=>(w,u.2)
 | none=>none
def sl4 (w:W) (l:Option Int):Option (Option Int×Ev)->Option (W×Ev)
 | some u=>(dr u.2 w.fz).bind fun x=>(slD x l u.1).map fun w=>(w,u.2)
 | none=>none
def sl5 (l u:Option Int) (ρ:Ev):Option D->Option (W×Ev)
 | some x=>withE ρ (slD x l u)
 | none=>none
theorem r_sl {lo hi:FO}:fSl f lo hi ρ=sl2 lo hi (f ρ):=by unfold fSl sl2;cases f ρ<;>rfl
theorem r_sl2 {lo hi:FO}:sl2 lo hi (some (w,ρ))=sl3 hi w (lo ρ):=by unfold sl2 sl3;dsimp only;cases lo ρ<;>rfl
theorem r_sl3 {hi:FO}{l:Option Int}:sl3 hi w (some (l,ρ))=sl4 w l (hi ρ):=by unfold sl3 sl4;dsimp only;cases hi ρ<;>rfl
theorem r_sl4 {l u:Option Int}:sl4 w l (some (u,ρ))=sl5 l u ρ (dr ρ w.fz):=by
 unfold sl4 sl5 withE;dsimp only;cases dr ρ w.fz with
 | none=>rfl
 | some x=>simp only[bind_some];cases slD x l u<;>rfl
theorem r_sl5 {l u:Option Int}:sl5 l u ρ (some x)=withE ρ (slD x l u):=rfl
theorem b4A {l u:Option Int}:slD (.tup xs) l u=some (.v (.tup (cutD xs l u))):=rfl
theorem b3T {l u:Option Int}:slD (.lst xs) l u=some (.o (.lst (cutD xs l u))):=rfl
def o1O:Option (W×Ev)->Option (Option Int×Ev)
 | some (.v (.int i),ρ)=>some (some i,ρ)
 | _=>none
theorem r_o0:fO0 ρ=some (none,ρ):=rfl
theorem r_o1:fO1 f ρ=o1O (f ρ):=by
 unfold fO1 o1O;cases f ρ with
 | none=>rfl
 | some p=>
  obtain⟨w,ρ⟩:=p;cases w with
  | v d=>cases d<;>rfl
  | _=>rfl
theorem r_o1O {n:Int}:o1O (some (.v (.int n),ρ))=some (some n,ρ):=rfl
def thnO (G:FS):Option R->Option R
 | some (.nx ρ)=>G ρ
 | o=>o
theorem b4u:fThen F G ρ=thnO G (F ρ):=by unfold fThen thnO;cases F ρ with
 | none=>rfl
 | some r=>cases r<;>rfl
theorem a9j:thnO G (some (.nx ρ))=G ρ:=id rfl
theorem a9e:thnO G (some (.rt w ρ))=some (.rt w ρ):=id rfl
theorem b45:thnO G (some (.bk ρ))=some (.bk ρ):=rfl
theorem b46:thnO G (some (.ct ρ))=some (.ct ρ):=rfl
def retO:Option (W×Ev)->Option R
 | some p=>retW p.2 p.1
 | none=>none
def retS (ρ:Ev):Option (Option W)->Option R
 | some (some (.o d))=>some (.rt (.o d) ρ)
 | some (some (.v d))=>some (.rt (.v d) ρ)
 | _=>none
theorem r_ret:fRet f ρ=retO (f ρ):=by unfold fRet retO;cases f ρ<;>rfl
theorem b2r:retO (some (.v d,ρ))=some (.rt (.v d) ρ):=rfl
theorem r_ret_o:retO (some (.o d,ρ))=some (.rt (.o d) ρ):=rfl
theorem b1g:retO (some (.r i,ρ))=retS ρ ρ[i]?:=by unfold retO retS;first|(dsimp only[retW];done)|(dsimp only[retW];rfl)
theorem a9H:retS ρ (some (some (.o d)))=some (.rt (.o d) ρ):=rfl
theorem r_retS_v:retS ρ (some (some (.v d)))=some (.rt (.v d) ρ):=rfl
def ifO (F G:FS):Option (Bool×Ev)->Option R
 | some (true,ρ)=>F ρ
 | some (false,ρ)=>G ρ
 | none=>none
theorem r_ifS:fIfS t F G ρ=ifO F G (t ρ):=by unfold fIfS ifO;cases t ρ with
 | none=>rfl
 | some p=>obtain⟨k,ρ⟩:=p;cases k<;>rfl
theorem b1f:ifO F G (some (true,ρ))=F ρ:=id rfl
theorem b01:ifO F G (some (false,ρ))=G ρ:=id rfl
def asgO (i:Nat):Option (W×Ev)->Option R
 | some p=>(bindW p.2 i p.1).map .nx
 | none=>none
def bndO (i j:Nat):Option Ev->Option R
 | some ρ1=>match ρ1[j]? with
  | some (some (.v d))=>if freeSlot ρ1 i=true then some (.nx (ρ1.set i (some (.v d)))) else none
  | _=>none
 | none=>none
def bndS (i:Nat) (ρ:Ev):Option (Option W)->Option R
 | some (some (.v d))=>if freeSlot ρ i=true then some (.nx (ρ.set i (some (.v d)))) else none
 | _=>none
theorem r_asg:fAsg i f ρ=asgO i (f ρ):=by unfold fAsg asgO;cases f ρ<;>rfl
theorem b1k:asgO i (some (.v d,ρ))=if freeSlot ρ i=true then some (.nx (ρ.set i (some (.v d)))) else none:=by unfold asgO;dsimp only[bindW];split<;>rfl
theorem b1G:asgO i (some (.o d,ρ))=if freeSlot ρ i=true then some (.nx (ρ.set i (some (.o d)))) else none:=by unfold asgO;dsimp only[bindW];split<;>rfl
theorem r_asg_r:asgO i (some (.r j,ρ))=bndO i j (frzAt ρ j):=by
 unfold asgO bndO;dsimp only[bindW];cases frzAt ρ j with
 | none=>rfl
 | some ρ1=>
  simp only[bind_some];cases q:ρ1[j]? with
  | none=>rfl
  | some o=>
   cases o with
   | none=>rfl
   | some w=>
    cases w with
    | v d=>dsimp only;split<;>rfl
    | _=>rfl
theorem r_bndO:bndO i j (some ρ)=bndS i ρ ρ[j]?:=by
 unfold bndO bndS;rfl
theorem r_bndS:bndS i ρ (some (some (.v d)))=if freeSlot ρ i=true then some (.nx (ρ.set i (some (.v d)))) else none:=rfl
def agO2 (gf:FG):Option (W×Ev)->Option R
 | some p=>(takeAll p.2 [p.1.fz]).bind fun q=>match q.1 with
  | [d]=>(gf d q.2).map .nx
  | _=>none
 | none=>none
def agO3 (gf:FG):Option (List D×Ev)->Option R
 | some ([d],ρ)=>(gf d ρ).map .nx
 | _=>none
def nxO:Option Ev->Option R
 | some ρ=>some (.nx ρ)
 | none=>none
theorem r_ag {gf:FG}:fAsgG f gf ρ=agO2 gf (f ρ):=by unfold fAsgG agO2;cases f ρ<;>rfl
theorem r_ag2 {gf:FG}:agO2 gf (some (w,ρ))=agO3 gf (takeAll ρ [w.fz]):=by
 unfold agO2 agO3;dsimp only;cases takeAll ρ [w.fz] with
 | none=>rfl
 | some p=>
  obtain⟨ds,ρ⟩:=p
  match ds with
  | []=>rfl
  | [_]=>rfl
  | _::_::_=>rfl
theorem r_ag3 {gf:FG}:agO3 gf (some ([d],ρ))=nxO (gf d ρ):=by unfold agO3 nxO;dsimp only;cases gf d ρ<;>rfl
theorem r_nxO:nxO (some ρ)=some (.nx ρ):=rfl
theorem b1e:gfName i d ρ=if freeSlot ρ i=true then some (ρ.set i (some (.v d))) else none:=rfl
def gcO (gs:FGs) (ds:List D):Option Ev->Option Ev
 | some ρ=>gs ds ρ
 | none=>none
theorem b2J:gfNil [] ρ=some ρ:=rfl
theorem b04 {gf:FG}{gs:FGs}:gfCons gf gs (d::ds) ρ=gcO gs ds (gf d ρ):=by unfold gfCons gcO;dsimp only;cases gf d ρ<;>rfl
theorem r_gcO {gs:FGs}:gcO gs ds (some ρ)=gs ds ρ:=id rfl
theorem b4p {gs:FGs}:gfTup gs (.tup ds) ρ=gs ds ρ:=rfl
def gs2 (g:FX) (d:D):Option (W×Ev)->Option Ev
 | some (.r j,ρ)=>(g ρ).bind fun q=>(dr q.2 q.1.fz).bind fun k=>match k,ownAt q.2 j with
  | .int k,some (.lst xs)=>(ixN xs.length k).map fun n=>setOwn q.2 j (.lst (xs.set n d))
  | _,_=>none
 | _=>none
def gs3 (j:Nat) (d:D):Option (W×Ev)->Option Ev
 | some q=>(dr q.2 q.1.fz).bind fun k=>match k,ownAt q.2 j with
  | .int k,some (.lst xs)=>(ixN xs.length k).map fun n=>setOwn q.2 j (.lst (xs.set n d))
  | _,_=>none
 | none=>none
def gs4 (j:Nat) (d:D) (ρ:Ev):Option D->Option D->Option Ev
 | some (.int k),some (.lst xs)=>(ixN xs.length k).map fun n=>setOwn ρ j (.lst (xs.set n d))
 | _,_=>none
theorem r_gs:gfSub f g d ρ=gs2 g d (f ρ):=by
 unfold gfSub gs2;cases f ρ with
 | none=>rfl
 | some p=>obtain⟨w,ρ⟩:=p;cases w<;>rfl
theorem r_gs2:gs2 g d (some (.r j,ρ))=gs3 j d (g ρ):=by unfold gs2 gs3;dsimp only;cases g ρ<;>rfl
theorem r_gs3:gs3 j d (some (w,ρ))=gs4 j d ρ (dr ρ w.fz) (ownAt ρ j):=by
 unfold gs3 gs4;dsimp only;cases dr ρ w.fz with
 | none=>rfl
 | some k=>
  simp only[bind_some];cases k with
  | int n=>cases ownAt ρ j with
   | none=>rfl
   | some c=>cases c<;>rfl
  | _=>rfl
theorem r_gs4 {n:Int}:gs4 j d ρ (some (.int n)) (some (.lst xs))=(ixN xs.length n).map fun n=>setOwn ρ j (.lst (xs.set n d)):=rfl
def dropO:Option (W×Ev)->Option R
 | some p=>some (.nx p.2)
 | none=>none
theorem b4C:fDrop f ρ=dropO (f ρ):=by unfold fDrop dropO;cases f ρ<;>rfl
theorem b1I:dropO (some (w,ρ))=some (.nx ρ):=rfl
def par2 (i j:Nat):Option (List W×Ev)->Option R
 | some p=>(takeAll p.2 p.1).bind fun q=>match q.1 with
  | [d,d']=>if freeSlot q.2 i=true/\freeSlot (q.2.set i (some (.v d))) j=true then some (.nx ((q.2.set i (some (.v d))).set j (some (.v d')))) else none
  | _=>none
 | none=>none
def par3 (i j:Nat):Option (List D×Ev)->Option R
 | some ([d,d'],ρ)=>if freeSlot ρ i=true/\freeSlot (ρ.set i (some (.v d))) j=true then some (.nx ((ρ.set i (some (.v d))).set j (some (.v d')))) else none
 | _=>none
theorem r_par:fPar i j fa ρ=par2 i j (fa ρ):=by unfold fPar par2;cases fa ρ<;>rfl
theorem b3s:par2 i j (some (ws,ρ))=par3 i j (takeAll ρ ws):=by
 unfold par2 par3;dsimp only;cases takeAll ρ ws with
 | none=>rfl
 | some p=>
  obtain⟨ds,ρ⟩:=p
  match ds with
  | []=>rfl
  | [_]=>rfl
  | [_,_]=>rfl
  | _::_::_::_=>rfl
theorem b4f:par3 i j (some ([d,e],ρ))=if freeSlot ρ i=true/\freeSlot (ρ.set i (some (.v d))) j=true then some (.nx ((ρ.set i (some (.v d))).set j (some (.v e)))) else none:=rfl
def is2:Option (W×Ev)->Option (List D×Ev)
 | some p=>(takeAll p.2 [p.1.fz]).bind fun q=>match q.1 with
  | [d]=>(items d).map fun xs=>(xs,q.2)
  | _=>none
 | none=>none
def is3:Option (List D×Ev)->Option (List D×Ev)
 | some ([.tup xs],ρ)=>some (xs,ρ)
 | some ([.lst xs],ρ)=>some (xs,ρ)
 | _=>none
theorem r_is:fiSeq f ρ=is2 (f ρ):=by unfold fiSeq is2;cases f ρ<;>rfl
theorem r_is2:is2 (some (w,ρ))=is3 (takeAll ρ [w.fz]):=by
 unfold is2 is3;dsimp only;cases takeAll ρ [w.fz] with
 | none=>rfl
 | some p=>
  obtain⟨ds,ρ⟩:=p
  match ds with
  | []=>rfl
  | [d]=>cases d<;>rfl
  | _::_::_=>simp
theorem r_is_t:is3 (some ([.tup xs],ρ))=some (xs,ρ):=rfl
theorem b4h:is3 (some ([.lst xs],ρ))=some (xs,ρ):=rfl
def forO (gf:FG) (b:FS):Option (List D×Ev)->Option R
 | some p=>loopF (turnF gf b) p.1 p.2
 | none=>none
theorem r_for {fi:FI}{gf:FG}:fFor fi gf F ρ=forO gf F (fi ρ):=by unfold fFor forO;cases fi ρ<;>rfl
theorem b3v {gf:FG}:forO gf F (some (xs,ρ))=loopF (turnF gf F) xs ρ:=id rfl
def turnO (b:FS):Option Ev->Option R
 | some ρ=>b ρ
 | none=>none
theorem b2L {gf:FG}:turnF gf F d ρ=turnO F (gf d ρ):=by unfold turnF turnO;cases gf d ρ<;>rfl
theorem b1S:turnO F (some ρ)=F ρ:=id rfl
def mu2 (op:List D->List D->Option (W×List D)) (fa:FA):Option (W×Ev)->Option (W×Ev)
 | some (.r i,ρ)=>if isLst (ownAt ρ i)=true then(fa ρ).bind fun q=>(takeAll q.2 q.1).bind fun z=>match ownAt z.2 i with
  | some (.lst xs)=>(op xs z.1).map fun y=>(y.1,setOwn z.2 i (.lst y.2))
  | _=>none
  else none
 | _=>none
def mu3 (op:List D->List D->Option (W×List D)) (i:Nat):Option (List W×Ev)->Option (W×Ev)
 | some q=>(takeAll q.2 q.1).bind fun z=>match ownAt z.2 i with
  | some (.lst xs)=>(op xs z.1).map fun y=>(y.1,setOwn z.2 i (.lst y.2))
  | _=>none
 | none=>none
def mu4 (op:List D->List D->Option (W×List D)) (i:Nat):Option (List D×Ev)->Option (W×Ev)
 | some z=>match ownAt z.2 i with
  | some (.lst xs)=>(op xs z.1).map fun y=>(y.1,setOwn z.2 i (.lst y.2))
  | _=>none
 | none=>none
def mu5 (op:List D->List D->Option (W×List D)) (i:Nat) (ds:List D) (ρ:Ev):Option D->Option (W×Ev)
 | some (.lst xs)=>(op xs ds).map fun y=>(y.1,setOwn ρ i (.lst y.2))
 | _=>none
def mu6 (i:Nat) (ρ:Ev):Option (W×List D)->Option (W×Ev)
 | some y=>some (y.1,setOwn ρ i (.lst y.2))
 | none=>none
variable {om:List D->List D->Option (W×List D)}
theorem r_mu:fMut om f fa ρ=mu2 om fa (f ρ):=by
 unfold fMut mu2;cases f ρ with
 | none=>rfl
 | some p=>obtain⟨w,ρ⟩:=p;cases w<;>rfl
theorem r_mu2:mu2 om fa (some (.r i,ρ))=if isLst (ownAt ρ i)=true then mu3 om i (fa ρ) else none:=by unfold mu2 mu3;dsimp only;cases fa ρ<;>rfl
theorem r_mu3:mu3 om i (some (ws,ρ))=mu4 om i (takeAll ρ ws):=by unfold mu3 mu4;dsimp only;cases takeAll ρ ws<;>rfl
theorem r_mu4:mu4 om i (some (ds,ρ))=mu5 om i ds ρ (ownAt ρ i):=by unfold mu4 mu5;rfl
theorem r_mu5:mu5 om i ds ρ (some (.lst xs))=mu6 i ρ (om xs ds):=by unfold mu5 mu6;dsimp only;cases om xs ds<;>rfl
theorem r_mu6:mu6 i ρ (some (w,xs))=some (w,setOwn ρ i (.lst xs)):=rfl
theorem r_app:mApp xs [d]=if xs.length<lim then some (.v .non,xs++[d]) else none:=rfl
def runO:Option R->Option W
 | some (.rt w _)=>some w
 | some (.nx _)=>some (.v .non)
 | _=>none
theorem r_run {np n:Nat}:runD np n G ds=if ds.length=np then runO (G (start0 n ds)) else none:=by
 unfold runD runO
 split
 ·cases G (start0 n ds) with
  | none=>rfl
  | some r=>cases r<;>rfl
 ·rfl
theorem b0S:runO (some (.rt w ρ))=some w:=rfl
theorem a9w:runO (some (.nx ρ))=some (.v .non):=rfl
def runLO:Option R->Option (W×D)
 | some (.rt w ρ)=>(ownAt ρ 0).map fun c=>(w,c)
 | some (.nx ρ)=>(ownAt ρ 0).map fun c=>(.v .non,c)
 | _=>none
theorem r_runL {np n:Nat}:runL np n G d ds=if ds.length+1=np then runLO (G (some (.l d)::start0 (n-1) ds)) else none:=by
 unfold runL runLO
 split
 ·cases G (some (.l d)::start0 (n-1) ds) with
  | none=>rfl
  | some r=>cases r<;>rfl
 ·rfl
theorem b4W:runLO (some (.rt w ρ))=(ownAt ρ 0).map fun c=>(w,c):=rfl
theorem b4V:runLO (some (.nx ρ))=(ownAt ρ 0).map fun c=>(.v .non,c):=rfl
variable {m n:Int}
theorem o_i0 {g:Int->Int->D}:oI0 g (.int m) (.int n)=some (.v (g m n)):=rfl
theorem o_i {C:Int->Int->Prop} [∀i j,Decidable (C i j)] {g:Int->Int->D}:oI C g (.int m) (.int n)=if C m n then some (.v (g m n)) else none:=rfl
theorem b1i:oAdd (.int m) (.int n)=some (.v (.int (m+n))):=rfl
theorem b1Z:oAdd (.lst xs) (.lst ys)=if xs.length+ys.length<=lim then some (.o (.lst (xs++ys))) else none:=rfl
theorem b1Q:oAdd (.tup xs) (.tup ys)=if xs≠[]/\xs.length+ys.length<=lim then some (.v (.tup (xs++ys))) else none:=by
 by_cases h:xs≠[]/\xs.length+ys.length<=lim
 ·rw[if_pos h];exact if_pos h
 ·rw[if_neg h];exact if_neg h
theorem o_neg:oNeg (.int m)=some (.v (.int (-m))):=rfl
theorem b2M:oLtT (.int m) (.int n)=some (.v (.bl (decide (m<n)))):=rfl
theorem b3j:oIx (.tup xs) (.int n)=(atI xs n).map .v:=rfl
theorem b4m:oIx (.lst xs) (.int n)=(atI xs n).map .v:=rfl
theorem b0W:gLen (.tup xs)=some (.v (.int xs.length)):=rfl
theorem b1u:gLen (.lst xs)=some (.v (.int xs.length)):=rfl
theorem o_abs:gAbs (.int m)=some (.v (.int (if m<0 then -m else m))):=rfl
theorem o_int:gInt (.bl b)=some (.v (.int (if b then 1 else 0))):=rfl
theorem b4Z:gTuple (.tup xs)=some (.v (.tup xs)):=rfl
theorem a8Z:gTuple (.lst xs)=some (.v (.tup xs)):=rfl
theorem o_list_t:gList (.tup xs)=some (.o (.lst xs)):=rfl
theorem o_list_l:gList (.lst xs)=some (.o (.lst xs)):=rfl
theorem o_d2 {q:D->D->Option Bool}{neg:Bool}:oD2 q neg x y=(q x y).map fun k=>.v (.bl (if neg then !k else k)):=rfl
theorem a_0:atI (d::ds) 0=some d:=D9 (j:=0) rfl
theorem a_1:atI (d::e::ds) 1=some e:=D9 (j:=1) rfl
theorem a_2:atI (d::e::x::ds) 2=some x:=D9 (j:=2) rfl
end
open PySem PySem.Spec PyProof.Rows L2
section
variable {prog:Program}{w:World}{A:Around}{E:Value->Shared->Prop}{s:Shared}
theorem a7r {c t:Addr}{k:Nat}{its:Array Value}{x:Value}{Q:Value->Shared->Prop}(hc:IsTupIter s.heap c t k)(ht:IsTup s.heap t its)(hx:its[k]? =some x)
  (q:∀h',IsTupIter h' c t (k+1)->Heap.SameBut c s.heap h'->Q x {s with heap:=h'}):wpAny (model prog w) A (Builtin.SmallTypes.nextOf (.ref c)) Q E s:=by
 have T:=hc.typeIs;obtain⟨o,e1,e2,e3⟩:=hc;obtain⟨o2,g1,_,m,g3⟩:=ht;unfold Builtin.SmallTypes.nextOf;refine zA (jE (name:=Str.ofString "__next__") T slot_tupleiter_next (xQ slot_tupleiter_next T entry_tupleiter_next ?_ (args_tupleiter_next _)));have step:wpAny (model prog w) A.in1 (setField (.ref c) 1 (rawInt ((k:Nat)+1:Nat))) (fun _ s'=>wpAny (model prog w) A.in1 (ret x) (fun fin s''=>∃v,fin= .done (.ret v)/\wpAny (model prog w) A (pure v) Q E s'') E s') E s:=by
  refine wpAny_setField e1 e3 (by simp) (zK ⟨x,rfl,zK (q _ ⟨_,Heap.get?_update_self _ e1 (Obj.isFreed_of_fields (Obj.data_mapFields e3 _)),(Obj.cls_mapFields ..).trans e2,?_⟩ (Heap.SameBut.update ..))⟩)
  rw[Obj.data_mapFields e3];simp[rawInt]
 refine zA (m:=field (.ref c) 0) (qO e1 e3 (x:=.ref t) rfl ?_);show wpAny _ _ (if(Value.ref t==Value.none)=true then _ else _) _ _ s;have nn:¬((Value.ref t==Value.none)=true):=zW;rw[if_neg nn];refine zA (m:=field (.ref c) 1) (qO e1 e3 (x:=.int k 0) rfl (zA (m:=seqItems? (.ref t)) (jS g1 g3 ?_)));simp only[Int.toNat_natCast,hx];exact zA step
theorem a8U {c t:Addr}{k:Nat}{its:Array Value}{Q:Value->Shared->Prop}(hh:A.handled=none)(hc:IsTupIter s.heap c t k)(ht:IsTup s.heap t its)(hx:its[k]? =none)
  (q:∀h' x,Heap.ExtBut c s.heap h'->(∃o,h'.get? x=some o/\o.cls= .type "StopIteration")->E (.ref x) {s with heap:=h'}):wpAny (model prog w) A (Builtin.SmallTypes.nextOf (.ref c)) Q E s:=by
 have T:=hc.typeIs;obtain⟨o,e1,e2,e3⟩:=hc;obtain⟨o2,g1,_,m,g3⟩:=ht;unfold Builtin.SmallTypes.nextOf;refine zA (jE (name:=Str.ofString "__next__") T slot_tupleiter_next (xQ slot_tupleiter_next T entry_tupleiter_next ?_ (args_tupleiter_next _)));refine zA (m:=field (.ref c) 0) (qO e1 e3 (x:=.ref t) rfl ?_);show wpAny _ _ (if(Value.ref t==Value.none)=true then _ else _) _ _ s;have nn:¬((Value.ref t==Value.none)=true):=zW;rw[if_neg nn];refine zA (m:=field (.ref c) 1) (qO e1 e3 (x:=.int k 0) rfl (zA (m:=seqItems? (.ref t)) (jS g1 g3 ?_)));simp only[Int.toNat_natCast,hx];refine zA (wpAny_rule (zA (wpAny_setField e1 e3 (by simp) ?_)))
 refine zA (m:=newExc (.type "StopIteration") []) ?_;simp only[newExc,newTuple];refine zA (qZ ?_ (by size_fits))
 refine zA (m:=firstArgMember _ _) (wpAny_of_eq (a:=Value.none) (by first|rfl|(simp only[firstArgMember];rfl)) (qZ ?_ (by size_fits)))
 simp only[raiseNew];refine zA (wpAny_handled ?_)
 first|rw[show A.in1.handled=none from hh]|rw[hh]
 exact zA (zK (wpAny_throw (q _ _ (((Heap.SameBut.update ..).extBut.push _).push _) ⟨_,qB _ rfl,rfl⟩)))
end
def SIt (k:Bool) (h:Heap) (c t:Addr) (i:Nat):Prop:=match k with
 | true=>h.IsListIter c t i
 | false=>IsTupIter h c t i
def SSq (k:Bool) (h:Heap) (t:Addr) (its:Array Value):Prop:=match k with
 | true=>h.IsList t its
 | false=>IsTup h t its
def SqK (k:Bool) (K:PySem.W.Frag) (H:Hp) (a:Addr) (xs:List V):Prop:=match k with
 | true=>SqL K H a xs
 | false=>SqT K H a xs
def itN (k:Bool):String:=if k then "list_iterator" else "tuple_iterator"
theorem P5 {b:Bool}{h h':Heap}{c t:Addr}{k:Nat}(i:SIt b h c t k)(kp:∀o,h.get? c=some o->h'.get? c=some o):SIt b h' c t k:=by
 cases b<;>(obtain⟨o,e,r⟩:=i;exact⟨o,kp o e,r⟩)
theorem a23 {b:Bool}{h h':Heap}{c:Addr}{its:Array Value}(i:SSq b h c its)(kp:∀o,h.get? c=some o->h'.get? c=some o):SSq b h' c its:=by
 cases b<;>(obtain⟨o,e,r⟩:=i;exact⟨o,kp o e,r⟩)
theorem a1k {b:Bool}{h:Heap}{c t:Addr}{k:Nat}(i:SIt b h c t k):∃o,h.get? c=some o/\∀v,o.data≠.cell v:=by
 cases b<;>(obtain⟨o,e,r,d⟩:=i;exact⟨o,e,fun v z=>by rw[d] at z;cases z⟩)
theorem a74 {b:Bool}{h:Heap}{c l:Addr}(e:h.get? c=some {cls:=.type (itN b),data:=.fields #[.ref l,.int 0 0]}):SIt b h c l 0:=by
 cases b<;>exact⟨_,e,rfl,rfl⟩
theorem sqk {X:Cx}{k:Bool}{pins:List (Addr×PySem.Obj)}{σ:L2.St}{H:Hp}{s:Shared}{a:Addr}{xs:List V}(I:Inv X pins σ H s)(h:SqK k X.K H a xs):∃its,Vals xs its/\SSq k s.heap a its.toArray:=by
 cases k
 ·obtain⟨its,r,p,_⟩:=I.tuple h;exact⟨its,r,p⟩
 ·obtain⟨its,r,p,_⟩:=I.list h;exact⟨its,r,p.isList⟩
theorem a77 {X:Cx}{k:Bool}{pins:List (Addr×PySem.Obj)}{σ:L2.St}{H:Hp}{s:Shared}{a:Addr}{xs ys:List V}(I:Inv X pins σ H s)(h:SqK k X.K H a xs)(h':SqK k X.K H a ys):xs=ys:=by
 cases k
 ·exact I.tuple_inj h h'
 ·exact I.list_inj h h'
theorem b0G {b:Bool}{h:Heap}{c:Addr}{its:Array Value}(i:SSq b h c its):c<h.objs.size:=by
 cases b<;>(obtain⟨o,e,r⟩:=i;exact zV e)
section
variable {prog:Program}{w:World}{A:Around}{E:Value->Shared->Prop}{s:Shared}
theorem a1T {b:Bool}{c t:Addr}{k:Nat}{its:Array Value}{x:Value}{Q:Value->Shared->Prop}(hc:SIt b s.heap c t k)(ht:SSq b s.heap t its)(hx:its[k]? =some x)
  (q:∀h',SIt b h' c t (k+1)->Heap.SameBut c s.heap h'->Q x {s with heap:=h'}):wpAny (model prog w) A (Builtin.SmallTypes.nextOf (.ref c)) Q E s:=by
 cases b
 ·exact a7r hc ht hx q
 ·exact wpAny_nextOf_list_item hc ht hx q
theorem a5e {b:Bool}{c t:Addr}{k:Nat}{its:Array Value}{Q:Value->Shared->Prop}(hh:A.handled=none)(hc:SIt b s.heap c t k)(ht:SSq b s.heap t its)(hx:its[k]? =none)
  (q:∀h' x,Heap.ExtBut c s.heap h'->(∃o,h'.get? x=some o/\o.cls= .type "StopIteration")->E (.ref x) {s with heap:=h'}):wpAny (model prog w) A (Builtin.SmallTypes.nextOf (.ref c)) Q E s:=by
 cases b
 ·exact a8U hh hc ht hx q
 ·exact wpAny_nextOf_list_end hh hc ht hx q
theorem iterS {b:Bool}{l:Addr}{its:Array Value}{Q:Value->Shared->Prop}(ht:SSq b s.heap l its)(q:Q (.ref s.heap.objs.size) {s with heap:=s.heap.push {cls:=.type (itN b),data:=.fields #[.ref l,.int 0 0]}}):wpAny (model prog w) A (pyIter (.ref l)) Q E s:=by
 cases b
 ·exact iter_tuple ht q
 ·exact wpAny_pyIter_list ht q
end
section
variable {prog:Program}{w:World}{A:Around}{E:Value->Shared->Prop}{s:Shared}{c1 c2:Bool}{z TI TO i1 i2 l1 l2:Addr}{k1 k2:Nat}{xs ys:Array Value}{x y a b:Value}
theorem a8y {Q:Value->Shared->Prop}(D:ZipApart z TI TO i1 i2 l1 l2)(hz:IsZip s.heap z TI TO .none)(hTI:IsPair s.heap TI (.ref i1) (.ref i2))(hTO:IsPair s.heap TO a b)
  (h1:SIt c1 s.heap i1 l1 k1) (h2:SIt c2 s.heap i2 l2 k2) (t1:SSq c1 s.heap l1 xs) (t2:SSq c2 s.heap l2 ys) (hx:xs[k1]? =some x) (hy:ys[k2]? =some y)
  (q:∀h',IsZip h' z TI TO (rawInt s.heap.objs.size)->IsPair h' TO x y->SIt c1 h' i1 l1 (k1+1)->SIt c2 h' i2 l2 (k2+1)->IsPair h' s.heap.objs.size x y->h'.objs.size=s.heap.objs.size+1->
   (∀c o,c≠z->c≠TO->c≠i1->c≠i2->s.heap.get? c=some o->h'.get? c=some o)->Q (.ref s.heap.objs.size) {s with heap:=h'}):
  wpAny (model prog w) A (Builtin.«zip.__next__» ⟨[.ref z],[]⟩) (fun fin s'=>∃v,fin= .done (.ret v)/\Q v s') E s:=by
 refine zA (m:=field (.ref z) 2) (qO hz rfl (x:=.bool false) rfl ?_);refine zA (m:=field (.ref z) 3) (qO hz rfl (x:=.ref TI) rfl (zA (jS hTI rfl ?_)));refine zA (m:=Builtin.SmallTypes.ownedTupleIsFree (.ref z)) ?_;unfold Builtin.SmallTypes.ownedTupleIsFree;refine zA (qO hz rfl (x:=.none) rfl (zK ?_));simp only[qT];refine zA (wpAny_rule (zA (qO hz rfl (x:=.ref TO) rfl (zA (jX hz (by simp) fun ha za sa=>?_)))))
 have za':IsZip ha z TI TO .ellipsis:=za;have ka:∀c o,c≠z->s.heap.get? c=some o->ha.get? c=some o:=fun c o n e=>sa.extBut c o n e;refine zA ?_;simp only[List.zipIdx_cons,List.zipIdx_nil,List.forIn_cons,List.forIn_nil];refine zA (zA (wpAny_onRaise (zA (m:=Builtin.SmallTypes.nextOf (.ref i1)) (a1T (P5 h1 fun o e=>ka _ o D.i1z e) (a23 t1 fun o e=>ka _ o D.l1z e) hx fun hb ib sb=>zK ?_))));have kb:∀c o,c≠z->c≠i1->s.heap.get? c=some o->hb.get? c=some o:=fun c o n n1 e=>sb.extBut c o n1 (ka c o n e);have ob:IsPair hb TO a b:=kb _ _ D.TOz D.TOi1 hTO;refine zA (jS ob rfl (zA (wpAny_updateSeq_pair ob fun hc oc sc=>?_)));have oc':IsPair hc TO x b:=oc;have kc:∀c o,c≠z->c≠i1->c≠TO->s.heap.get? c=some o->hc.get? c=some o:=fun c o n n1 n2 e=>sc.extBut c o n2 (kb c o n n1 e);refine zA (wpAny_letGo (zK ?_));refine zA (zA (wpAny_onRaise (zA (m:=Builtin.SmallTypes.nextOf (.ref i2)) (a1T (P5 h2 fun o e=>kc _ o D.i2z D.i12.symm D.TOi2.symm e) (a23 t2 fun o e=>kc _ o D.l2z D.l2i1 D.l2TO e) hy fun hd id' sd=>zK ?_))));have od:IsPair hd TO x b:=sd.extBut _ _ D.TOi2 oc';refine zA (jS od rfl (zA (wpAny_updateSeq_pair od fun he oe se=>?_)));have oe':IsPair he TO x y:=oe;refine zA (wpAny_letGo (zK (zK ?_)));refine zA (jS oe' rfl (zA (wpAny_newTuple ?_)));have size:he.objs.size=s.heap.objs.size:=by rw[se.1,sd.1,sc.1,sb.1,sa.1]
 have ke:∀c o,c≠z->c≠TO->c≠i1->c≠i2->s.heap.get? c=some o->he.get? c=some o:=fun c o n n1 n2 n3 e=>se.extBut c o n1 (sd.extBut c o n3 (kc c o n n2 n1 e));have ze:IsZip he z TI TO .ellipsis:=se.extBut _ _ D.TOz.symm (sd.extBut _ _ D.i2z.symm (sc.extBut _ _ D.TOz.symm (sb.extBut _ _ D.i1z.symm za')));have ie1:SIt c1 he i1 l1 (k1+1):=P5 ib fun o e=>se.extBut _ o D.TOi1.symm (sd.extBut _ o D.i12 (sc.extBut _ o D.TOi1.symm e));have ie2:SIt c2 he i2 l2 (k2+1):=P5 id' fun o e=>se.extBut _ o D.TOi2.symm e;have zlt:z<he.objs.size:=zV ze;refine zA (m:=Builtin.SmallTypes.ownedTupleHandOut (.ref z) (.ref he.objs.size)) ?_;unfold Builtin.SmallTypes.ownedTupleHandOut;have zp:IsZip (he.push {cls:=.type "tuple",data:=.seq #[x,y]}) z TI TO .ellipsis:=zN _ ze;refine zA (jX zp (by simp) fun hf zf sf=>?_)
 have zf':IsZip hf z TI TO (rawInt he.objs.size):=zf;refine jX zf' (by simp) fun hg zg sg=>?_
 have zg':IsZip hg z TI TO (rawInt he.objs.size):=zg;have up:∀c o,c≠z->he.get? c=some o->hg.get? c=some o:=fun c o n e=>sg.extBut c o n (sf.extBut c o n (zN _ e));have pg:IsPair hg he.objs.size x y:=sg.extBut _ _ (Nat.ne_of_gt zlt) (sf.extBut _ _ (Nat.ne_of_gt zlt) (qB _ rfl));have szg:hg.objs.size=he.objs.size+1:=by rw[sg.1,sf.1,size_push]
 rw[size] at zg' pg szg;refine zK ⟨_,rfl,?_⟩;show Q (.ref he.objs.size) _;rw[size];exact q hg zg' (up _ _ D.TOz oe') (P5 ie1 fun o e=>up _ o D.i1z e) (P5 ie2 fun o e=>up _ o D.i2z e) pg szg fun c o n n1 n2 n3 e=>up c o n (ke c o n n1 n2 n3 e)
end
section
variable {prog:Program}{w:World}{A:Around}{E:Value->Shared->Prop}{s:Shared}{c1 c2:Bool}{z TI TO i1 i2 l1 l2:Addr}{k1 k2:Nat}{xs ys:Array Value}{x y a b:Value}
theorem b0y {Q:Fin->Shared->Prop}(hh:A.handled=none)(D:ZipApart z TI TO i1 i2 l1 l2)(hz:IsZip s.heap z TI TO .none)(hTI:IsPair s.heap TI (.ref i1) (.ref i2))(hTO:IsPair s.heap TO a b)
  (h1:SIt c1 s.heap i1 l1 k1) (h2:SIt c2 s.heap i2 l2 k2) (t1:SSq c1 s.heap l1 xs) (t2:SSq c2 s.heap l2 ys) (hend:xs[k1]? =none\/ys[k2]? =none)
  (q:∀h' c,(∀c o,c≠z->c≠TO->c≠i1->c≠i2->s.heap.get? c=some o->h'.get? c=some o)->(∃o,h'.get? c=some o/\o.cls= .type "StopIteration")->E (.ref c) {s with heap:=h'}):
  wpAny (model prog w) A (Builtin.«zip.__next__» ⟨[.ref z],[]⟩) Q E s:=by
 refine zA (m:=field (.ref z) 2) (qO hz rfl (x:=.bool false) rfl ?_);refine zA (m:=field (.ref z) 3) (qO hz rfl (x:=.ref TI) rfl (zA (jS hTI rfl ?_)));refine zA (m:=Builtin.SmallTypes.ownedTupleIsFree (.ref z)) ?_;unfold Builtin.SmallTypes.ownedTupleIsFree;refine zA (qO hz rfl (x:=.none) rfl (zK ?_));simp only[qT];refine zA (wpAny_rule (zA (qO hz rfl (x:=.ref TO) rfl (zA (jX hz (by simp) fun ha za sa=>?_)))))
 have za':IsZip ha z TI TO .ellipsis:=za;have ka:∀c o,c≠z->s.heap.get? c=some o->ha.get? c=some o:=fun c o n e=>sa.extBut c o n e;have apart:∀{h:Heap} {c:Addr} {v:Value},IsZip h z TI TO v->(∃o,h.get? c=some o/\o.cls= .type "StopIteration")->c≠z:=fun{h c v} hz' ⟨o,e1,e2⟩ n=>by
  subst n;rw[hz'] at e1;cases e1;simp at e2
 refine zA ?_;simp only[List.zipIdx_cons,List.zipIdx_nil,List.forIn_cons,List.forIn_nil];cases hx:xs[k1]? with
 | none=>
  refine zA (zA (wpAny_onRaise (zA (m:=Builtin.SmallTypes.nextOf (.ref i1)) (a5e hh (P5 h1 fun o e=>ka _ o D.i1z e) (a23 t1 fun o e=>ka _ o D.l1z e) hx fun hb c kb hc=>?_))));have zb:IsZip hb z TI TO .ellipsis:=kb _ _ D.i1z.symm za';have nz:=apart zb hc;obtain⟨o,eo,co⟩:=hc;exact jX zb (by simp) fun hd _ sd=>q hd c (fun d o' n _ n2 _ e=>sd.extBut d o' n (kb d o' n2 (ka d o' n e))) ⟨o,sd.extBut _ _ nz eo,co⟩
 | some x=>
  have hy:ys[k2]? =none:=hend.resolve_left (by rw[hx];exact fun n=>nomatch n)
  refine zA (zA (wpAny_onRaise (zA (m:=Builtin.SmallTypes.nextOf (.ref i1)) (a1T (P5 h1 fun o e=>ka _ o D.i1z e) (a23 t1 fun o e=>ka _ o D.l1z e) hx fun hb ib sb=>zK ?_))));have kb:∀c o,c≠z->c≠i1->s.heap.get? c=some o->hb.get? c=some o:=fun c o n n1 e=>sb.extBut c o n1 (ka c o n e);have ob:IsPair hb TO a b:=kb _ _ D.TOz D.TOi1 hTO;refine zA (jS ob rfl (zA (wpAny_updateSeq_pair ob fun hc oc sc=>?_)));have kc:∀c o,c≠z->c≠i1->c≠TO->s.heap.get? c=some o->hc.get? c=some o:=fun c o n n1 n2 e=>sc.extBut c o n2 (kb c o n n1 e);refine zA (wpAny_letGo (zK ?_));refine zA (zA (wpAny_onRaise (zA (m:=Builtin.SmallTypes.nextOf (.ref i2)) (a5e hh (P5 h2 fun o e=>kc _ o D.i2z D.i12.symm D.TOi2.symm e) (a23 t2 fun o e=>kc _ o D.l2z D.l2i1 D.l2TO e) hy fun hd c kd hc'=>?_))));have zd:IsZip hd z TI TO .ellipsis:=kd _ _ D.i2z.symm (sc.extBut _ _ D.TOz.symm (sb.extBut _ _ D.i1z.symm za'));have nz:=apart zd hc';obtain⟨o,eo,co⟩:=hc';exact jX zd (by simp) fun hf _ sf=>q hf c (fun d o' n n1 n2 n3 e=>sf.extBut d o' n (kd d o' n3 (kc d o' n n2 n1 e))) ⟨o,sf.extBut _ _ nz eo,co⟩
theorem a7D {Q:Option Value->Shared->Prop}(D:ZipApart z TI TO i1 i2 l1 l2)(hz:IsZip s.heap z TI TO .none)(hTI:IsPair s.heap TI (.ref i1) (.ref i2))(hTO:IsPair s.heap TO a b)
  (h1:SIt c1 s.heap i1 l1 k1) (h2:SIt c2 s.heap i2 l2 k2) (t1:SSq c1 s.heap l1 xs) (t2:SSq c2 s.heap l2 ys) (hx:xs[k1]? =some x) (hy:ys[k2]? =some y)
  (q:∀h',IsZip h' z TI TO (rawInt s.heap.objs.size)->IsPair h' TO x y->SIt c1 h' i1 l1 (k1+1)->SIt c2 h' i2 l2 (k2+1)->IsPair h' s.heap.objs.size x y->h'.objs.size=s.heap.objs.size+1->
   (∀c o,c≠z->c≠TO->c≠i1->c≠i2->s.heap.get? c=some o->h'.get? c=some o)->Q (some (.ref s.heap.objs.size)) {s with heap:=h'}):
  wpAny (model prog w) A (pyNext (.ref z)) Q E s:=by
 have T:s.TypeIs (.ref z) "zip":=⟨_,hz,rfl⟩;unfold pyNext
 exact zA (wpAny_attempt (jE (name:=Str.ofString "__next__") T F.slot_zip_next
  (xQ F.slot_zip_next T F.entry_zip_next (a8y D hz hTI hTO h1 h2 t1 t2 hx hy fun h' b1 b2 b3 b4 b5 b6 b7=>zK (q h' b1 b2 b3 b4 b5 b6 b7)) (F.args_zip_next_1 _))))
theorem a9g {Q:Option Value->Shared->Prop}(hh:A.handled=none)(D:ZipApart z TI TO i1 i2 l1 l2)(hz:IsZip s.heap z TI TO .none)(hTI:IsPair s.heap TI (.ref i1) (.ref i2))(hTO:IsPair s.heap TO a b)
  (h1:SIt c1 s.heap i1 l1 k1) (h2:SIt c2 s.heap i2 l2 k2) (t1:SSq c1 s.heap l1 xs) (t2:SSq c2 s.heap l2 ys) (hend:xs[k1]? =none\/ys[k2]? =none)
  (q:∀h',(∀c o,c≠z->c≠TO->c≠i1->c≠i2->s.heap.get? c=some o->h'.get? c=some o)->Q none {s with heap:=h'}):wpAny (model prog w) A (pyNext (.ref z)) Q E s:=by
 have T:s.TypeIs (.ref z) "zip":=⟨_,hz,rfl⟩;unfold pyNext;refine zA (wpAny_attempt (jE (name:=Str.ofString "__next__") T F.slot_zip_next (xQ F.slot_zip_next T F.entry_zip_next (b0y hh D hz hTI hTO h1 h2 t1 t2 hend fun h' c kp hc=>?_) (F.args_zip_next_1 _))));obtain⟨o,eo,co⟩:=hc;exact zA (wpAny_isInstance (T:="StopIteration") (b:=true) ⟨o,eo,co⟩ isSubtype_stop (zK (q _ kp)))
abbrev zp1 (b:Bool) (h:Heap) (l:Addr):Heap:=h.push {cls:=.type (itN b),data:=.fields #[.ref l,.int 0 0]}
abbrev zp3 (c1 c2:Bool) (h:Heap) (l m:Addr):Heap:=(zp1 c2 (zp1 c1 h l) m).push {cls:=.type "tuple",data:=.seq #[.ref h.objs.size,.ref (zp1 c1 h l).objs.size]}
abbrev zp4 (c1 c2:Bool) (h:Heap) (l m:Addr):Heap:=(zp3 c1 c2 h l m).push {cls:=.type "tuple",data:=.seq #[.none,.none]}
abbrev zp5 (c1 c2:Bool) (h:Heap) (l m:Addr):Heap:=(zp4 c1 c2 h l m).push {cls:=.type "zip",data:=.fields #[.none,.bool false,.bool false,.ref (zp1 c2 (zp1 c1 h l) m).objs.size,.ref (zp3 c1 c2 h l m).objs.size]}
theorem b0C (c1 c2:Bool)(l m:Addr)(xs ys:Array Value):Meets (Builtin.«zip.__new__» ⟨[.type "zip",.ref l,.ref m],[]⟩) (fun _ R s=>SSq c1 s.heap l xs/\SSq c2 s.heap m ys/\R (.ok (.ret (.ref (zp4 c1 c2 s.heap l m).objs.size))) {s with heap:=zp5 c1 c2 s.heap l m}):=
 .of_wp fun prog w A R s hh=>by
  obtain⟨hp,g,d,tk,os⟩:=s;obtain⟨p1,p2,hr⟩:=hh;have hsub:=sub_zip;have q1:SSq c1 (Shared.heap ⟨hp,g,d,tk,os⟩) l xs:=p1;have q2:SSq c2 (Shared.heap ⟨zp1 c1 hp l,g,d,tk,os⟩) m ys:=a23 p2 fun o e=>zN _ e
  wp_walk using iterS q1,iterS q2
  exact⟨_,rfl,hr⟩
theorem a8o {Q:Value->Shared->Prop}(p1:SSq c1 s.heap l1 xs)(p2:SSq c2 s.heap l2 ys)
  (q:∀h',IsZip h' (s.heap.objs.size+4) (s.heap.objs.size+2) (s.heap.objs.size+3) .none->IsPair h' (s.heap.objs.size+2) (.ref s.heap.objs.size) (.ref (s.heap.objs.size+1))->IsPair h' (s.heap.objs.size+3) .none .none->
   SIt c1 h' s.heap.objs.size l1 0->SIt c2 h' (s.heap.objs.size+1) l2 0->(∀c o,s.heap.get? c=some o->h'.get? c=some o)->Q (.ref (s.heap.objs.size+4)) {s with heap:=h'}):
  wpAny (model prog w) A (call (.type "zip") [.ref l1,.ref l2]) Q E s:=by
 refine callType_new F.called_zip (by decide) (F.typeCall_zip_2 _ _) (F.newCall_zip_2 _ _) (fun obj=>F.args_object_init_3 obj _ _) F.entry_zip_new (b0C c1 c2 l1 l2 xs ys) ⟨p1,p2,?_⟩
 have n1:(zp1 c1 s.heap l1).objs.size=s.heap.objs.size+1:=size_push ..;have n2:(zp1 c2 (zp1 c1 s.heap l1) l2).objs.size=s.heap.objs.size+2:=by rw[size_push,n1]
 have n3:(zp3 c1 c2 s.heap l1 l2).objs.size=s.heap.objs.size+3:=by rw[size_push,n2]
 have n4:(zp4 c1 c2 s.heap l1 l2).objs.size=s.heap.objs.size+4:=by rw[size_push,n3]
 have up:∀{h:Heap} {c:Addr} {o p:PySem.Obj},h.get? c=some o->(h.push p).get? c=some o:=fun e=>zN _ e;have r5:(zp5 c1 c2 s.heap l1 l2).get? (zp4 c1 c2 s.heap l1 l2).objs.size=some _:=qB _ rfl;have r4:(zp5 c1 c2 s.heap l1 l2).get? (zp3 c1 c2 s.heap l1 l2).objs.size=some _:=up (qB _ rfl);have r3:(zp5 c1 c2 s.heap l1 l2).get? (zp1 c2 (zp1 c1 s.heap l1) l2).objs.size=some _:=up (up (qB _ rfl));have r2:(zp5 c1 c2 s.heap l1 l2).get? (zp1 c1 s.heap l1).objs.size=some _:=up (up (up (qB _ rfl)));have r1:(zp5 c1 c2 s.heap l1 l2).get? s.heap.objs.size=some _:=up (up (up (up (qB _ rfl))));rw[n2,n3,n4] at r5;rw[n1,n2] at r3;rw[n3] at r4;rw[n1] at r2;show _/\_;rw[n4];exact⟨⟨_,r5,rfl⟩,q _ r5 r3 r4 (a74 r1) (a74 r2) fun c o e=>up (up (up (up (up e))))⟩
end
theorem a4V {xs:List V}{us:List Value}{i:Nat}(r:Vals xs us)(e:xs[i]? =none):us.toArray[i]? =none:=by
 have:=r.length
 rw[xF] at e;rw[List.getElem?_toArray,xF];walk_at "o"
def ItzT (c1 c2:Bool) (K:PySem.W.Frag) (l1 l2:Addr):It:=
 ⟨fun i H=>∃xs ys x y,SqK c1 K H l1 xs/\SqK c2 K H l2 ys/\xs[i]? =some x/\ys[i]? =some y,
  fun i H v H'=>∃T x y,v= .ref T/\H T=none/\H'=upd H T (.tup [x,y])/\(∀xs,SqK c1 K H l1 xs->xs[i]? =some x)/\∀ys,SqK c2 K H l2 ys->ys[i]? =some y,
  fun i H=>∃xs ys,SqK c1 K H l1 xs/\SqK c2 K H l2 ys/\(xs[i]? =none\/ys[i]? =none)⟩
def zipTt (c1 c2:Bool) (z TI TO i1 i2 l1 l2:Addr) (i:Nat) (h:Heap):Prop:=IsZip h z TI TO .none/\IsPair h TI (.ref i1) (.ref i2)/\(∃a b,IsPair h TO a b)/\SIt c1 h i1 l1 i/\SIt c2 h i2 l2 i
theorem a8S {P:Program}{w:World}{K:PySem.W.Frag}{es:List Expr}{kt:Nat}{pt:Pos}{c1 c2:Bool}{z TI TO i1 i2 l1 l2:Addr}(D:ZipApart z TI TO i1 i2 l1 l2):
  Turn P w K (.Tuple es kt pt) (ItzT c1 c2 K l1 l2) [z,TI,TO,i1,i2] z (zipTt c1 c2 z TI TO i1 i2 l1 l2) where
 mem:=by simp
 obj:=fun i h st b hb=>by
  obtain⟨hz,hTI,⟨a,b',hTO⟩,s1,s2⟩:=st;obtain⟨o1,e1,d1⟩:=a1k s1;obtain⟨o2,e2,d2⟩:=a1k s2;simp only[zT,not_mem_nil,or_false] at hb;rcases hb with rfl|rfl|rfl|rfl|rfl
  ·exact⟨_,hz,fun v z=>nomatch z⟩
  ·exact⟨_,hTI,fun v z=>nomatch z⟩
  ·exact⟨_,hTO,fun v z=>nomatch z⟩
  ·exact⟨_,e1,d1⟩
  ·exact⟨_,e2,d2⟩
 keep:=fun i h h' st k=>by
  obtain⟨hz,hTI,⟨a,b',hTO⟩,h1,h2⟩:=st;exact⟨k z (by simp) _ hz,k TI (by simp) _ hTI,⟨a,b',k TO (by simp) _ hTO⟩,P5 h1 fun o e=>k i1 (by simp) o e,P5 h2 fun o e=>k i2 (by simp) o e⟩
 item:=by
  intro X hP hw hK hc i pins s σ H E I hf st hg;subst hP hw hK;obtain⟨xs,ys,x,y,q1,q2,ex,ey⟩:=hg;obtain⟨its1,r1,p1⟩:=sqk I q1;obtain⟨its2,r2,p2⟩:=sqk I q2;obtain⟨u,hu,ru⟩:=r1.get ex;obtain⟨v,hv,rv⟩:=r2.get ey;obtain⟨hz,hTI,⟨a,b,hTO⟩,h1,h2⟩:=st;have l1:∀{c o},s.heap.get? c=some o->c≠s.heap.objs.size:=fun e=>zS (zV e);refine a7D D hz hTI hTO h1 h2 p1 p2 (x:=u) (y:=v) (by simpa using hu) (by simpa using hv) fun h' a1 a2 a3 a4 a5 a6 hk=>⟨_,rfl,?_⟩
  refine wpAny_letOwnedTupleGo_zip a1 fun h2' b1 b2=>?_;have ez:z<s.heap.objs.size:=zV hz;have nT:s.heap.objs.size≠z:=Nat.ne_of_gt ez;have kp:∀c o,c∉[z,TI,TO,i1,i2]->s.heap.get? c=some o->h2'.get? c=some o:=fun c o hc e=>by
   simp only[zT,not_mem_nil,or_false,not_or] at hc;exact(b2.2 c hc.1).trans (hk c o hc.1 hc.2.2.1 hc.2.2.2.1 hc.2.2.2.2 e)
  have fr:H s.heap.objs.size=none:=I.hok.fresh (zI _);have tr:∀c w,H c=some w->c∉[z,TI,TO,i1,i2]:=fun c w e hc=>by rw[(hf c hc).1] at e;cases e
  have st':zipTt c1 c2 z TI TO i1 i2 _ _ (i+1) h2':=⟨b1,(b2.2 _ D.TIz).trans (hk _ _ D.TIz D.TITO D.TIi1 D.TIi2 hTI),⟨_,_,(b2.2 _ D.TOz).trans a2⟩,P5 a3 fun o e=>(b2.2 _ D.i1z).trans e,P5 a4 fun o e=>(b2.2 _ D.i2z).trans e⟩;have five:∀c∈[z,TI,TO,i1,i2],∃o,h2'.get? c=some o:=fun c hc=>by
   obtain⟨q1,q2,⟨_,_,q3⟩,s4,s5⟩:=st';obtain⟨_,q4,_⟩:=a1k s4;obtain⟨_,q5,_⟩:=a1k s5;simp only[zT,not_mem_nil,or_false] at hc;rcases hc with rfl|rfl|rfl|rfl|rfl
   ·exact⟨_,q1⟩
   ·exact⟨_,q2⟩
   ·exact⟨_,q3⟩
   ·exact⟨_,q4⟩
   ·exact⟨_,q5⟩
  have hb5:h2'.get? s.heap.objs.size=some {cls:=.type "tuple",data:=.seq #[u,v]}:=(b2.2 _ nT).trans a5
  have un:Un (frs X.stack) [z,TI,TO,i1,i2] H (upd H s.heap.objs.size (.tup [x,y])) s.heap h2':=⟨fun c o e n hfs hx=>kp c o hx e,fun c o e n hfs hx=>⟨o.slots,kp c o hx e⟩,fun c o e n hx=>by rw[k8 (l1 e)];exact n,fun c o e hx=>⟨o,kp c o hx e⟩,
   fun c ws e=>by rw[k8 (B4 e fr)];exact e,fun c o w e=>by rw[k8 (B4 e fr)];exact e,fun c ps e=>⟨#[],by rw[k8 (B4 e fr),e];simp⟩⟩
  have hok:HOk X.prog X.w (upd H s.heap.objs.size (.tup [x,y])) h2':=fun c w e=>by
   by_cases hc:c=s.heap.objs.size
   ·subst hc;rw[C3] at e;cases e;exact⟨by show 2<=sizeLine;rw[sizeLine_eq];decide,[u,v],.cons ru (.cons rv .nil),⟨_,hb5,rfl,⟨_,rfl⟩,rfl⟩⟩
   ·rw[k8 hc] at e
    refine(I.hok c w e).stay (fun c' o hc' e'=>kp c' o (by
     rcases hc' with rfl|hc'
     ·exact tr _ _ e
     ·exact tr _ _ hc') e') (fun c' q=>by rw[k8 (B4 q fr)];exact q) fun c' ws q=>by rw[k8 (B4 q fr)];exact q
  have I1:Inv X pins σ (upd H s.heap.objs.size (.tup [x,y])) {s with heap:=h2'}:=I.call' (s':={s with heap:=h2'}) (ch:=[z,TI,TO,i1,i2]) rfl un hok I.bare fun c hc=>⟨(hf c hc).2.2.2.1,(hf c hc).2.1,(hf c hc).2.2.2.2.1,(hf c hc).2.2.2.2.2⟩
  exact⟨.ref s.heap.objs.size,_,I1,rfl,⟨_,x,y,rfl,fr,rfl,fun ws hw=>by rw[a77 I hw q1];exact ex,fun ws hw=>by rw[a77 I hw q2];exact ey⟩,st',fun c hc=>by
   obtain⟨o,e⟩:=five c hc
   have:c≠s.heap.objs.size:=fun z=>by
    subst z
    have:=(hf _ hc)
    obtain⟨q1,q2,⟨_,_,q3⟩,s4,s5⟩:=(⟨hz,hTI,⟨a,b,hTO⟩,h1,h2⟩:zipTt c1 c2 z TI TO i1 i2 _ _ i s.heap);obtain⟨_,q4,_⟩:=a1k s4;obtain⟨_,q5,_⟩:=a1k s5;simp only[zT,not_mem_nil,or_false] at hc;rcases hc with rfl|rfl|rfl|rfl|rfl
    ·exact l1 q1 rfl
    ·exact l1 q2 rfl
    ·exact l1 q3 rfl
    ·exact l1 q4 rfl
    ·exact l1 q5 rfl
   rw[k8 this];exact(hf c hc).1⟩
 done:=by
  intro X hP hw hK hc i pins s σ H E I hf st hg;subst hP hw hK;obtain⟨xs,ys,q1,q2,hend⟩:=hg;obtain⟨its1,r1,p1⟩:=sqk I q1;obtain⟨its2,r2,p2⟩:=sqk I q2;obtain⟨hz,hTI,⟨a,b,hTO⟩,h1,h2⟩:=st;refine a9g (I.ok.hd hc) D hz hTI hTO h1 h2 p1 p2 (hend.imp (a4V r1) (a4V r2)) fun h' hk=>⟨rfl,?_⟩;have kp:∀c o,c∉[z,TO,i1,i2]->s.heap.get? c=some o->h'.get? c=some o:=fun c o hc e=>by
   simp only[zT,not_mem_nil,or_false,not_or] at hc;exact hk c o hc.1 hc.2.1 hc.2.2.1 hc.2.2.2 e
  have sub:∀c∈[z,TO,i1,i2],c∈[z,TI,TO,i1,i2]:=fun c hc=>by simp at hc ⊢;rcases hc with h|h|h|h<;>simp[h]
  have un:Un (frs X.stack) [z,TO,i1,i2] H H s.heap h':=⟨fun c o e n hfs hx=>kp c o hx e,fun c o e n hfs hx=>⟨o.slots,kp c o hx e⟩,fun c o e n hx=>n,fun c o e hx=>⟨o,kp c o hx e⟩,fun c ws e=>e,fun c o w e=>e,fun c ps e=>⟨#[],by rw[e];simp⟩⟩
  have tr:∀c w,H c=some w->c∉[z,TO,i1,i2]:=fun c w e hc=>by rw[(hf c (sub c hc)).1] at e;cases e
  have hok:HOk X.prog X.w H h':=fun c w e=>(I.hok c w e).stay (fun c' o hc' e'=>kp c' o (by
   rcases hc' with rfl|hc'
   ·exact tr _ _ e
   ·exact tr _ _ hc') e') (fun _ q=>q) fun _ _ q=>q
  exact I.call' (s':={s with heap:=h'}) (ch:=[z,TO,i1,i2]) rfl un hok I.bare fun c hc=>⟨(hf c (sub c hc)).2.2.2.1,(hf c (sub c hc)).2.1,(hf c (sub c hc)).2.2.2.2.1,(hf c (sub c hc)).2.2.2.2.2⟩
 self:=fun _ _ _ _ _ st h=>wpAny_pyIter_zip st.1 h
def kd:D->Bool
 | .lst _=>true
 | _=>false
theorem a5D {K:PySem.W.Frag}{A:Av}{H:Hp}{d:D}{v:V}{xs:List D}(e:items d=some xs)(h:Den K A H d v):∃a vs,v= .ref a/\SqK (kd d) K H a vs/\DenL K A H xs vs:=by
 cases d with
 | tup zs=>cases e;rw[Den] at h;exact h
 | lst zs=>cases e;obtain⟨a,vs,e,hq,l⟩:=Y8 h;exact⟨a,vs,e,hq,l⟩
 | _=>cases e
section
variable {X:Cx}{a b:Expr}{p pos:Pos}{fa:FA}{es:List Expr}{kt:Nat}{pt:Pos}
def iZip (K:PySem.W.Frag) (ta:TA):TI:=fun σ H R=>ta σ H fun vs H1=>∃c1 c2 l1 l2,vs=[.ref l1,.ref l2]/\(∃xs,SqK c1 K H1 l1 xs)/\(∃ys,SqK c2 K H1 l2 ys)/\R (ItzT c1 c2 K l1 l2) H1
theorem b4S {ta:TA}(hg:Gl X "zip")(hm:X.mg "zip"=none)(ha:PA X [a,b] ta)(hs:starEach [a,b] X.env=(false,eval a X.env)::starEach [b] X.env:=by rfl)(hpl:(backTo pos (starEach [b] X.env)).any (·.1)=false:=by rfl)(hbt:bootBuiltins "zip"=some (.type "zip"):=by rfl):
  PI X (.Tuple es kt pt) (.Call (.Name "zip" p) [a,b] [] pos) (iZip X.K ta):=by
 intro pins s σ H R I h;refine Call_ (a2F I hg hm hbt (jU (thn (ha pos pins s σ H _ I h) fun us s1 ⟨vs,H1,I1,r1,q1⟩=>?_) hs hpl) (by decide) (by decide))
 obtain⟨c1,c2,l1,l2,rfl,⟨xs,h1⟩,⟨ys,h2⟩,q⟩:=q1;obtain⟨u1,u2,rfl,ru1,ru2⟩:=vals2 r1;cases ru1;cases ru2;obtain⟨its1,_,p1⟩:=sqk I1 h1;obtain⟨its2,_,p2⟩:=sqk I1 h2;refine a8o p1 p2 fun h' d1 d2 d3 d4 d5 d7=>?_;refine wpAny_pyIter_zip d1 ?_;refine⟨_,[s1.heap.objs.size+4,s1.heap.objs.size+2,s1.heap.objs.size+3,s1.heap.objs.size,s1.heap.objs.size+1],_,_,H1,rfl,I1.kept (t':=s1.toks) fun c o e0=>d7 c o e0,a8S (zipApart_new (b0G p1) (b0G p2)),⟨d1,d2,⟨_,_,d3⟩,d4,d5⟩,fun c hc=>?_,q⟩;have le:s1.heap.objs.size<=c:=by simp only[zT,not_mem_nil,or_false] at hc;rcases hc with h|h|h|h|h<;>(rw[h];first|exact Nat.le_add_right _ _|exact zI _)
 exact I1.fpOk le (I1.hok.fresh le)
def zipD (xs ys:List D):List D:=List.zipWith (fun x y=>.tup [x,y]) xs ys
def enumD (xs:List D):List D:=xs.mapIdx fun(i:Nat) x=>.tup [.int i,x]
def fiZip (fa:FA):FI:=fun ρ=>(fa ρ).bind fun p=>(takeAll p.2 p.1).bind fun q=>match q.1 with
 | [x,y]=>(items x).bind fun xs=>(items y).map fun ys=>(zipD xs ys,q.2)
 | _=>none
def fiEnum (fa:FA):FI:=fun ρ=>(fa ρ).bind fun p=>(takeAll p.2 p.1).bind fun q=>match q.1 with
 | [x]=>(items x).map fun xs=>(enumD xs,q.2)
 | _=>none
theorem b4t (hm:X.mg "zip"=none)(ha:QA X [a,b] fa)(hg:Gl X "zip":=by rfl)(hs:starEach [a,b] X.env=(false,eval a X.env)::starEach [b] X.env:=by rfl)(hpl:(backTo pos (starEach [b] X.env)).any (·.1)=false:=by rfl)(hbt:bootBuiltins "zip"=some (.type "zip"):=by rfl):
  QI X (.Tuple es kt pt) (.Call (.Name "zip" p) [a,b] [] pos) (fiZip fa):=⟨PI.weak (b4S hg hm ha.to hs hpl hbt) fun σ H R h0=>tIe h0 fun P O L ρ xs ρ' r e q=>by
 unfold fiZip at e;obtain⟨⟨ws,ρ1⟩,e1,e⟩:=obs e;dsimp only at e;obtain⟨⟨ds,ρ2⟩,e2,e⟩:=obs e;dsimp only at e;split at e
 ·rename_i x y;cases e3:items x with
  | none=>rw[e3] at e;cases e
  | some xs'=>
   cases e4:items y with
   | none=>rw[e3,e4] at e;cases e
   | some ys'=>
    rw[e3,e4] at e;cases e;refine⟨P,O,L,ρ,ws,ρ1,r,e1,fun vs H1 r1 l1=>?_⟩;obtain⟨r2,l2,_⟩:=D7 r1 e2 l1;obtain⟨v,u,rfl,hv,hu⟩:=denL2 l2;obtain⟨a1,vs1,rfl,s1,m1⟩:=a5D e3 hv;obtain⟨a2,vs2,rfl,s2,m2⟩:=a5D e4 hu;have r3:=(r2.more (p:=(y,.ref a2)) hu).more (p:=(x,.ref a1)) hv;refine⟨kd x,kd y,a1,a2,rfl,⟨vs1,s1⟩,⟨vs2,s2⟩,q _ H1 _ r3 (fun p hp=>zH _ (zH _ hp)) fun Y O' L' ρ' σ' Hh hY rr=>?_⟩;have z1:=rr.prot _ zG;have z2:=rr.prot _ (zH _ zG);rw[hY] at z1 z2;obtain⟨b1,ws1,ev1,q1,n1⟩:=a5D e3 z1;obtain⟨b2,ws2,ev2,q2,n2⟩:=a5D e4 z2;cases ev1;cases ev2;refine⟨fun i z ez=>?_,ws1,ws2,q1,q2,?_⟩
    ·unfold zipD at ez;rw[List.getElem?_zipWith] at ez;cases g1:xs'[i]? with
     | none=>rw[g1] at ez;cases ez
     | some x0=>
      cases g2:ys'[i]? with
      | none=>rw[g1,g2] at ez;cases ez
      | some y0=>
       rw[g1,g2] at ez;cases ez;obtain⟨v1,k1,t1⟩:=L3 n1 g1;obtain⟨v2,k2,t2⟩:=L3 n2 g2;refine⟨⟨ws1,ws2,v1,v2,q1,q2,k1,k2⟩,fun w H' ⟨T,x1,y1,ew,hT,eH,f1,f2⟩=>?_⟩;subst ew eH;have g3:=f1 ws1 q1;have g4:=f2 ws2 q2;rw[k1] at g3;cases g3;rw[k2] at g4;cases g4;have sm:=A4 hT (.tup [v1,v2]);refine⟨sm,?_⟩;rw[Den];exact⟨T,[v1,v2],rfl,.inl (.inl C3),z9 (a2w sm t1) (z9 (a2w sm t2) A8)⟩
    ·have k1:=g8 n1;have k2:=g8 n2;unfold zipD;rw[List.length_zipWith,xF,xF];walk_at "o"
 ·cases e⟩
end
section
variable {X:Cx}{b e o:Expr}{es:List Expr}{pos p:Pos}{f h:FX}{t u:FT}{fa:FA}
theorem a5V:CallR X (.builtin "divmod") (fun xs H Q=>∃i j:Int,xs=[.int i,.int j]/\dOk j/\∀l,H l=none->Q (.ref l) (upd H l (.tup [.int (i/j),.int (i%j)]))):=by
 intro pins s σ H xs us Q I r h;obtain⟨i,j,rfl,hj,q⟩:=h;obtain⟨u,u',rfl,r1,r2⟩:=vals2 r;obtain⟨t,rfl⟩:=r1;obtain⟨t',rfl⟩:=r2;have e1:i.fdiv j=i/j:=Int.fdiv_eq_ediv_of_nonneg i (Int.le_of_lt hj.1);have e2:i.fmod j=i%j:=Int.fmod_eq_emod_of_nonneg i (Int.le_of_lt hj.1);refine divmod_int (Int.ne_of_gt hj.1) ?_ (.inl (PyProof.noPylong_of_log2 ?_))
 ·rw[e1,e2];have I2:Inv X pins σ (upd H s.heap.objs.size (.tup [.int (i/j),.int (i%j)])) {s with heap:=s.heap.push {cls:=.type "tuple",data:=.seq #[.int (i/j) s.toks,.int (i%j) (s.toks+1)]},toks:=s.toks+1+1}:=
   I.laid (fun b o e=>zN _ e) (zI _) (show ObjOk X.prog X.w _ _ _ (.tup [.int (i/j),.int (i%j)]) from⟨by rw[sizeLine_eq];show 2<=16777216;decide,[.int (i/j) s.toks,.int (i%j) (s.toks+1)],.cons ⟨_,rfl⟩ (.cons ⟨_,rfl⟩ .nil),TupN.new _ _⟩)
  exact⟨.ref s.heap.objs.size,_,I2,rfl,q _ (I.hok.fresh (zI _))⟩
 ·by_cases z:j.natAbs=0
  ·rw[z];decide
  ·exact zF ((Nat.log2_lt z).mpr (show j.natAbs<2^8000 from hj.2)) (by decide)
def gDivmod:List D->Option W
 | [.int i,.int j]=>if dOk j then some (.v (.tup [.int (i/j),.int (i%j)])) else none
 | _=>none
theorem a82:PrA X gDivmod (fun xs H Q=>∃i j:Int,xs=[.int i,.int j]/\dOk j/\∀l,H l=none->Q (.ref l) (upd H l (.tup [.int (i/j),.int (i%j)]))):=fun A ds w vs H Q _ e l q=>by
 unfold gDivmod at e;split at e
 ·rename_i i j;split at e
  ·rename_i hj;cases e;obtain⟨v,v',rfl,h1,h2⟩:=denRL2 l;exact⟨i,j,by rw[u6 h1,u6 h2],hj,fun l hl=>q _ _ (A4 hl _) (Y7 hl (a1n [i/j,i%j]))⟩
  ·cases e
 ·cases e
theorem u4 (hm:X.mg "divmod"=none)(ha:QA X (e::es) fa)(hv:bootBuiltins "divmod"=some (.builtin "divmod"):=by rfl)(hg:Gl X "divmod":=by rfl)
  (he:starEach (e::es) X.env=(false,eval e X.env)::starEach es X.env:=by rfl) (hpl:(backTo pos (starEach es X.env)).any (·.1)=false:=by rfl):QX X (.Call (.Name "divmod" p) (e::es) [] pos) (fCall gDivmod fa):=a6y a5V a82 hv hm ha hg (by decide) (by decide) he hpl
def fListR (fa:FA):FX:=fun ρ=>(fa ρ).bind fun p=>match p.1 with
 | [.v (.int n)]=>if 0<=n/\n<=1000 then some (.o (.lst (rngD 0 n.toNat)),p.2) else none
 | _=>none
def fCnt (f:FX) (fa:FA):FX:=fun ρ=>(f ρ).bind fun p=>(dr p.2 p.1.fz).bind fun d=>match d with
 | .tup _=>(fa p.2).bind fun q=>(dr q.2 p.1.fz).bind fun y=>match y,q.1 with
  | .tup xs,[.v (.int i)]=>(intsOf xs).map fun ns=>(.v (.int (ns.count i:Nat)),q.2)
  | _,_=>none
 | _=>none
def fDNew:FX:=fun ρ=>some (.o (.dK [] []),ρ)
theorem b09:QX X (.Dict [] [] pos) fDNew:=⟨PE.weak a9V fun σ H Q h0=>tXe h0 fun P O L ρ w ρ' r e q=>by
 cases e
 exact fun p hp=>q _ H _ r (A4 hp _) ⟨p,rfl,hp,[],C3,rfl,A8⟩⟩
end
section
variable {f g:FX}{t:FT}{fa:FA}{ρ ρ1 ρ2:Ev}{w z:W}{ws:List W}{d e x y:D}{xs ys:List D}{i k:Nat}{m n:Int}{b:Bool}
theorem it_t:items (.tup xs)=some xs:=rfl
theorem it_l:items (.lst xs)=some xs:=rfl
def iz2:Option (List W×Ev)->Option (List D×Ev)
 | some p=>(takeAll p.2 p.1).bind fun q=>match q.1 with
  | [x,y]=>(items x).bind fun xs=>(items y).map fun ys=>(zipD xs ys,q.2)
  | _=>none
 | none=>none
def iz3:Option (List D×Ev)->Option (List D×Ev)
 | some q=>match q.1 with
  | [x,y]=>(items x).bind fun xs=>(items y).map fun ys=>(zipD xs ys,q.2)
  | _=>none
 | none=>none
def iz4 (ρ:Ev):Option (List D)->Option (List D)->Option (List D×Ev)
 | some xs,some ys=>some (zipD xs ys,ρ)
 | _,_=>none
theorem r_iz:fiZip fa ρ=iz2 (fa ρ):=by unfold fiZip iz2;cases fa ρ<;>rfl
theorem r_iz2:iz2 (some (ws,ρ))=iz3 (takeAll ρ ws):=by unfold iz2 iz3;dsimp only;cases takeAll ρ ws<;>rfl
theorem r_iz3:iz3 (some ([x,y],ρ))=iz4 ρ (items x) (items y):=by unfold iz3 iz4;dsimp only;cases items x<;>cases items y<;>rfl
theorem r_iz4:iz4 ρ (some xs) (some ys)=some (zipD xs ys,ρ):=rfl
def ie2:Option (List W×Ev)->Option (List D×Ev)
 | some p=>(takeAll p.2 p.1).bind fun q=>match q.1 with
  | [x]=>(items x).map fun xs=>(enumD xs,q.2)
  | _=>none
 | none=>none
def ie3:Option (List D×Ev)->Option (List D×Ev)
 | some q=>match q.1 with
  | [x]=>(items x).map fun xs=>(enumD xs,q.2)
  | _=>none
 | none=>none
theorem r_ie:fiEnum fa ρ=ie2 (fa ρ):=by unfold fiEnum ie2;cases fa ρ<;>rfl
theorem r_ie2:ie2 (some (ws,ρ))=ie3 (takeAll ρ ws):=by unfold ie2 ie3;dsimp only;cases takeAll ρ ws<;>rfl
theorem r_ie3_t:ie3 (some ([.tup xs],ρ))=some (enumD xs,ρ):=rfl
theorem r_ie3_l:ie3 (some ([.lst xs],ρ))=some (enumD xs,ρ):=rfl
def jr1:Option (List W×Ev)->Option (List D×Ev)
 | some p=>match p.1 with
  | [.v (.int n)]=>if -(2^62)<=n/\n<2^62 then some (rngD 0 n.toNat,p.2) else none
  | _=>none
 | none=>none
def jr2:Option (List W×Ev)->Option (List D×Ev)
 | some p=>match p.1 with
  | [.v (.int m),.v (.int n)]=>if(-(2^62)<=m/\m<2^62)/\-(2^62)<=n/\n<2^62 then some (rngD m (n-m).toNat,p.2) else none
  | _=>none
 | none=>none
def lr2:Option (List W×Ev)->Option (W×Ev)
 | some p=>match p.1 with
  | [.v (.int n)]=>if 0<=n/\n<=1000 then some (.o (.lst (rngD 0 n.toNat)),p.2) else none
  | _=>none
 | none=>none
theorem r_r1:fiR1 fa ρ=jr1 (fa ρ):=by unfold fiR1 jr1;cases fa ρ<;>rfl
theorem r_r1s:jr1 (some ([.v (.int n)],ρ))=if -(2^62)<=n/\n<2^62 then some (rngD 0 n.toNat,ρ) else none:=rfl
theorem r_r2:fiR2 fa ρ=jr2 (fa ρ):=by unfold fiR2 jr2;cases fa ρ<;>rfl
theorem r_r2s:jr2 (some ([.v (.int m),.v (.int n)],ρ))=if(-(2^62)<=m/\m<2^62)/\-(2^62)<=n/\n<2^62 then some (rngD m (n-m).toNat,ρ) else none:=rfl
theorem r_lr:fListR fa ρ=lr2 (fa ρ):=by unfold fListR lr2;cases fa ρ<;>rfl
theorem r_lr2:lr2 (some ([.v (.int n)],ρ))=if 0<=n/\n<=1000 then some (.o (.lst (rngD 0 n.toNat)),ρ) else none:=rfl
theorem r_dm (h:dOk n):gDivmod [.int m,.int n]=some (.v (.tup [.int (m/n),.int (m%n)])):=by unfold gDivmod;exact if_pos h
def cn2 (fa:FA):Option (W×Ev)->Option (W×Ev)
 | some p=>(dr p.2 p.1.fz).bind fun d=>match d with
  | .tup _=>(fa p.2).bind fun q=>(dr q.2 p.1.fz).bind fun y=>match y,q.1 with
   | .tup xs,[.v (.int i)]=>(intsOf xs).map fun ns=>(.v (.int (ns.count i:Nat)),q.2)
   | _,_=>none
  | _=>none
 | none=>none
def cn3 (fa:FA) (w:W) (ρ:Ev):Option D->Option (W×Ev)
 | some (.tup _)=>(fa ρ).bind fun q=>(dr q.2 w.fz).bind fun y=>match y,q.1 with
   | .tup xs,[.v (.int i)]=>(intsOf xs).map fun ns=>(.v (.int (ns.count i:Nat)),q.2)
   | _,_=>none
 | _=>none
def cn4 (w:W):Option (List W×Ev)->Option (W×Ev)
 | some q=>(dr q.2 w.fz).bind fun y=>match y,q.1 with
   | .tup xs,[.v (.int i)]=>(intsOf xs).map fun ns=>(.v (.int (ns.count i:Nat)),q.2)
   | _,_=>none
 | _=>none
def cn5 (ws:List W) (ρ:Ev):Option D->Option (W×Ev)
 | some y=>match y,ws with
   | .tup xs,[.v (.int i)]=>(intsOf xs).map fun ns=>(.v (.int (ns.count i:Nat)),ρ)
   | _,_=>none
 | _=>none
theorem r_cn:fCnt f fa ρ=cn2 fa (f ρ):=by unfold fCnt cn2;cases f ρ<;>rfl
theorem r_cn2:cn2 fa (some (w,ρ))=cn3 fa w ρ (dr ρ w.fz):=by
 unfold cn2 cn3;dsimp only;cases dr ρ w.fz with
 | none=>rfl
 | some d=>cases d<;>rfl
theorem r_cn3:cn3 fa w ρ (some (.tup xs))=cn4 w (fa ρ):=by unfold cn3 cn4;cases fa ρ<;>rfl
theorem r_cn4:cn4 w (some (ws,ρ))=cn5 ws ρ (dr ρ w.fz):=by unfold cn4 cn5;dsimp only;cases dr ρ w.fz<;>rfl
theorem b3h:fDNew ρ=some (.o (.dK [] []),ρ):=rfl
def ch2 (o o':D->D->Option W) (g h:FX):Option (W×Ev)->Option (W×Ev)
 | some p=>fChain o o' (fun _=>some p) g h p.2
 | none=>none
def ch3 (o o':D->D->Option W) (w:W) (h:FX):Option (W×Ev)->Option (W×Ev)
 | some q=>(dr q.2 w.fz).bind fun x=>(dr q.2 q.1.fz).bind fun y=>(o x y).bind fun d=>match d with
  | .v (.bl k)=>if k=true then(h q.2).bind fun z=>(dr z.2 q.1.fz).bind fun y=>(dr z.2 z.1.fz).bind fun z'=>(o' y z').map fun w=>(w,z.2) else some (.v (.bl false),q.2)
  | _=>none
 | none=>none
def ch4 (o o':D->D->Option W) (h:FX) (w:W) (ρ:Ev):Option D->Option D->Option (W×Ev)
 | some x,some y=>(o x y).bind fun d=>match d with
  | .v (.bl k)=>if k=true then(h ρ).bind fun z=>(dr z.2 w.fz).bind fun y=>(dr z.2 z.1.fz).bind fun z'=>(o' y z').map fun w=>(w,z.2) else some (.v (.bl false),ρ)
  | _=>none
 | _,_=>none
def ch5 (o':D->D->Option W) (h:FX) (w:W) (ρ:Ev):Option W->Option (W×Ev)
 | some (.v (.bl k))=>if k=true then bin3 o' w (h ρ) else some (.v (.bl false),ρ)
 | _=>none
theorem r_ch {o o':D->D->Option W}{h:FX}:fChain o o' f g h ρ=ch2 o o' g h (f ρ):=by unfold ch2;cases e:f ρ with
 | none=>unfold fChain;rw[e];rfl
 | some p=>unfold fChain;rw[e]
theorem r_ch2 {o o':D->D->Option W}{h:FX}:ch2 o o' g h (some (w,ρ))=ch3 o o' w h (g ρ):=by unfold ch2 ch3 fChain;dsimp only[bind_some];cases g ρ<;>rfl
theorem r_ch3 {o o':D->D->Option W}{h:FX}:ch3 o o' w h (some (z,ρ))=ch4 o o' h z ρ (dr ρ w.fz) (dr ρ z.fz):=by
 unfold ch3 ch4;dsimp only;cases dr ρ w.fz<;>cases dr ρ z.fz<;>rfl
theorem r_ch4 {o o':D->D->Option W}{h:FX}:ch4 o o' h w ρ (some x) (some y)=ch5 o' h w ρ (o x y):=by
 unfold ch4 ch5 bin3;dsimp only;cases o x y with
 | none=>rfl
 | some d=>
  dsimp only[bind_some];cases d with
  | v d=>cases d with
   | bl k=>cases h ρ<;>rfl
   | _=>rfl
  | _=>rfl
theorem b1s {o':D->D->Option W}{h:FX}:ch5 o' h w ρ (some (.v (.bl true)))=bin3 o' w (h ρ):=rfl
theorem b1l {o':D->D->Option W}{h:FX}:ch5 o' h w ρ (some (.v (.bl false)))=some (.v (.bl false),ρ):=rfl
def tc2 (k:Nat) (t:FT) (fe:FX):Option Ev->Option Ev
 | some ρ1=>(t ρ1).bind fun p=>if p.1=true then(fe p.2).bind (appTo k) else some p.2
 | none=>none
def tc3 (k:Nat) (fe:FX):Option (Bool×Ev)->Option Ev
 | some p=>if p.1=true then(fe p.2).bind (appTo k) else some p.2
 | none=>none
def tc4 (k:Nat):Option (W×Ev)->Option Ev
 | some p=>appTo k p
 | none=>none
def ap2 (k:Nat):Option (List D×Ev)->Option Ev
 | some q=>match q.1,ownAt q.2 k with
  | [d],some (.lst zs)=>if zs.length<lim then some (setOwn q.2 k (.lst (zs++[d]))) else none
  | _,_=>none
 | none=>none
def ap3 (k:Nat) (d:D) (ρ:Ev):Option D->Option Ev
 | some (.lst zs)=>if zs.length<lim then some (setOwn ρ k (.lst (zs++[d]))) else none
 | _=>none
theorem r_tc {gf:FG}{fe:FX}:turnC k gf t fe d ρ=tc2 k t fe (gf d ρ):=by unfold turnC tc2;cases gf d ρ<;>rfl
theorem r_tc2 {fe:FX}:tc2 k t fe (some ρ)=tc3 k fe (t ρ):=by unfold tc2 tc3;dsimp only;cases t ρ<;>rfl
theorem r_tc3_t {fe:FX}:tc3 k fe (some (true,ρ))=tc4 k (fe ρ):=by unfold tc3 tc4;simp only[qT];cases fe ρ<;>rfl
theorem r_tc3_f {fe:FX}:tc3 k fe (some (false,ρ))=some ρ:=rfl
theorem r_tc4:tc4 k (some (w,ρ))=ap2 k (takeAll ρ [w.fz]):=by
 unfold tc4 appTo ap2;dsimp only;cases takeAll ρ [w.fz]<;>rfl
theorem r_ap2:ap2 k (some ([d],ρ))=ap3 k d ρ (ownAt ρ k):=by
 unfold ap2 ap3;dsimp only;cases ownAt ρ k with
 | none=>rfl
 | some x=>cases x<;>rfl
theorem r_ap3:ap3 k d ρ (some (.lst xs))=if xs.length<lim then some (setOwn ρ k (.lst (xs++[d]))) else none:=rfl
theorem a42 {C:Prop}{b:D->FS}{r:Option R}(e:loopF b xs ρ=r)(I:List D->Ev->Prop)(h0:I [] ρ)(st:∀d x ρ,x∈xs->d.length<xs.length->I d ρ->∃ρ',b x ρ=some (.nx ρ')/\I (d++[x]) ρ')(c:∀ρ',r=some (.nx ρ')->I xs ρ'->C):C:=by
 have key:∀(ys done:List D) (ρ:Ev),(∀y∈ys,y∈xs)->done.length+ys.length=xs.length->I done ρ->∃ρ',loopF b ys ρ=some (.nx ρ')/\I (done++ys) ρ':=by
  intro ys
  induction ys with
  | nil=>intro done ρ _ _ h;exact⟨ρ,rfl,by rw[jT];exact h⟩
  | cons y ys ih=>
   intro done ρ hm hl h;rw[zU] at hl;obtain⟨ρ1,e1,i1⟩:=st done y ρ (hm y zG) (by walk_at "o") h
   obtain⟨ρ2,e2,i2⟩:=ih (done++[y]) ρ1 (fun a ha=>hm a (zH _ ha)) (by rw[zP,jR];walk_at "o") i1
   exact⟨ρ2,by rw[loopF,e1];exact e2,by rw[List.append_assoc] at i2;exact i2⟩
 obtain⟨ρ',e',i⟩:=key xs [] ρ (fun _ h=>h) (by simp) h0
 exact c ρ' (e.symm.trans e') (by simpa using i)
theorem a4v (ns:List Int):lfL (ns.map D.int)=true:=by
 induction ns with
 | nil=>rfl
 | cons n ns ih=>rw[zR,lfL,ih];rfl
theorem a5U (m:Int)(n:Nat):(rngD m n).length=n:=by unfold rngD;simp
theorem z7 (h:0<n)(h2:n.natAbs<2^64):dOk n:=⟨h,zF h2 (qL (by decide) (by decide))⟩
end
theorem b0H {o:Option D}:freeO (o.map W.v)=true:=by cases o<;>rfl
def isI:D->Bool
 | .int _=>true
 | .bl _=>true
 | _=>false
def isB:D->Bool
 | .bl _=>true
 | _=>false
def isT:D->Bool
 | .tup _=>true
 | _=>false
def isS:D->Bool
 | .str _=>true
 | _=>false
def whole:D->Bool
 | .int _=>true
 | _=>false
theorem a9G {d:D}(h:isX d=false):oIsi "int" d=some (.v (.bl (isI d))):=by cases d<;>first|rfl|cases h
theorem b2c {d:D}(h:isX d=false):oIsi "bool" d=some (.v (.bl (isB d))):=by cases d<;>first|rfl|cases h
theorem a4p {d:D}(h:isX d=false):oIsi "tuple" d=some (.v (.bl (isT d))):=by cases d<;>first|rfl|cases h
theorem a7g {d:D}(h:isX d=false):oIsi "str" d=some (.v (.bl (isS d))):=by cases d<;>first|rfl|cases h
def rise:List Int->Bool
 | a::b::r=>decide (a<b)&&rise (b::r)
 | _=>true
theorem sIx1 (n:Nat):HT.sIx n 0 (some 1)=min 1 n:=by
 unfold HT.sIx;simp
theorem a9K (xs:List D):cutD xs (some 1) none=xs.drop 1:=by
 unfold cutD;rw[sIx1];cases xs with
 | nil=>rfl
 | cons x xs=>
  rw[zU,show min 1 (xs.length+1)=1 by walk_at "o"]
  simp[HT.sIx]
theorem a1Z {r:List Bool->Bool}{xs:List D}{bs:List Bool}(h:boolsOf xs=some bs):gBools r (.lst xs)=some (.v (.bl (r bs))):=by unfold gBools;simp only[h,qH]
theorem a0Q (f:D->Bool)(xs:List D):lfL (xs.map fun d=>D.bl (f d))=true:=by
 induction xs with
 | nil=>rfl
 | cons n ns ih=>rw[zR,lfL,ih];rfl
theorem J8 (f:D->Bool)(xs:List D):boolsOf (xs.map fun d=>D.bl (f d))=some (xs.map f):=by
 have:(xs.map fun d=>D.bl (f d))=(xs.map f).map D.bl:=by rw[zQ];rfl
 rw[this,a3k]
theorem T9 {α:Type}(f:α->Bool)(xs:List α):(xs.map f).all id=xs.all f:=by rw[all_map];rfl
theorem b0o {ns:List Int}{x:D}(h:x∈ns.map D.int):∃i∈ns,x= .int i:=by
 obtain⟨i,hi,rfl⟩:=zY.mp h;exact⟨i,hi,rfl⟩
theorem b1U (xs ys:List D):(zipD xs ys).length=min xs.length ys.length:=by unfold zipD;simp
theorem a7o {xs:List D}{i:Int}{d:D}(h:0<=i)(e:xs[i.toNat]? =some d):atI xs i=some d:=by
 have:=D9 (j:=i.toNat) e
 rwa [show((i.toNat:Nat):Int)=i by walk_at "o"] at this
theorem G9:∀{xs:List D},(∀x∈xs,lf x=true)->lfL xs=true
 | [],_=>rfl
 | x::xs,h=>by rw[lfL,h x zG,G9 fun y hy=>h y (zH _ hy)];rfl
section
variable {d:D}{ds:List D}{x0:D}{x1:D}{x2:D}{x3:D}{x4:D}{x5:D}{x6:D}{x7:D}{x8:D}{x9:D}{x10:D}{x11:D}{x12:D}
theorem a_3:atI (x0::x1::x2::d::ds) 3=some d:=D9 (j:=3) rfl
theorem a_4:atI (x0::x1::x2::x3::d::ds) 4=some d:=D9 (j:=4) rfl
theorem a_5:atI (x0::x1::x2::x3::x4::d::ds) 5=some d:=D9 (j:=5) rfl
theorem a_6:atI (x0::x1::x2::x3::x4::x5::d::ds) 6=some d:=D9 (j:=6) rfl
theorem a_7:atI (x0::x1::x2::x3::x4::x5::x6::d::ds) 7=some d:=D9 (j:=7) rfl
theorem a_8:atI (x0::x1::x2::x3::x4::x5::x6::x7::d::ds) 8=some d:=D9 (j:=8) rfl
theorem a_9:atI (x0::x1::x2::x3::x4::x5::x6::x7::x8::d::ds) 9=some d:=D9 (j:=9) rfl
theorem a_10:atI (x0::x1::x2::x3::x4::x5::x6::x7::x8::x9::d::ds) 10=some d:=D9 (j:=10) rfl
theorem a_11:atI (x0::x1::x2::x3::x4::x5::x6::x7::x8::x9::x10::d::ds) 11=some d:=D9 (j:=11) rfl
theorem a_12:atI (x0::x1::x2::x3::x4::x5::x6::x7::x8::x9::x10::x11::d::ds) 12=some d:=D9 (j:=12) rfl
theorem a_13:atI (x0::x1::x2::x3::x4::x5::x6::x7::x8::x9::x10::x11::x12::d::ds) 13=some d:=D9 (j:=13) rfl
theorem ix_0 {n:Nat}:ixN (n+1) 0=some 0:=by unfold ixN;rw[if_pos (Int.le_refl _),if_pos (by walk_at "o")];rfl
end
def dkey:D->Option Key
 | .int i=>some (Sum.inl i)
 | .str x=>some (Sum.inr x)
 | _=>none
def dkeys:List D->Option (List Key)
 | []=>some []
 | d::ds=>(dkey d).bind fun k=>(dkeys ds).map fun ks=>k::ks
def tkey:D->Option (List Key)
 | .tup ds=>dkeys ds
 | _=>none
def look {κ:Type} [DecidableEq κ]:List κ->List D->κ->Option D
 | k'::ks,x::xs,k=>if k'=k then some x else look ks xs k
 | _,_,_=>none
section
variable {x:Str}
def lookG (x y:D):Option (Option D):=match x with
 | .dT ks xs=>(tkey y).map fun k=>look ks xs k
 | .dK ks xs=>(dkey y).map fun k=>look ks xs k
 | _=>none
def isDi:D->Bool
 | .dT _ _=>true
 | .dK _ _=>true
 | _=>false
def oIxG (x y:D):Option W:=if isDi x=true then(lookG x y).bind fun r=>r.map .v else oIx x y
def tupI (k:List Int):D:=.tup (k.map D.int)
def nb (neg k:Bool):W:=.v (.bl (if neg then !k else k))
end
section
variable {X:Cx}{a o:Expr}{pos:Pos}{x:Str}
def GlT (mg:Str->Option Value) (K:PySem.W.Frag) (x:Str) (ns:List Int):Prop:=∃a,mg x=some (.ref a)/\SqT K Emp a (ns.map V.int)
theorem a6J {ns:List Int}(hm:GlT X.mg X.K x ns)(hg:Gl X x:=by rfl)(hd:(x==("__debug__":Str))=false:=by decide):QX X (.Name x pos) (fC (.tup (ns.map D.int))):=by
 obtain⟨a,hm,hq⟩:=hm;refine⟨PE.weak (a2D (v:=.ref a) hg hm rfl hd) (a3l fun A H=>?_)⟩;rw[Den];refine⟨a,_,rfl,?_,a1n ns⟩;rcases hq with (q|⟨o,q⟩)|q
 ·cases q
 ·cases q
 ·exact .inr q
end
theorem b1F (k:List Int):lf (tupI k)=true:=a4v k
theorem a3D (ks:List (List Int)):lfL (ks.map tupI)=true:=G9 fun x hx=>by
 obtain⟨k,_,rfl⟩:=zY.mp hx;exact b1F k
theorem b1N (t b:Int):Int.gcd (if t<0 then -t else t) b=Int.gcd t b:=by
 unfold Int.gcd;congr 1
 split<;>walk_at "o"
theorem a1i {C:Prop}{b:D->FS}{xs:List D}{ρ:Ev}{r:Option R}(e:loopF b xs ρ=r)(I:Nat->Ev->Prop)(h0:I 0 ρ)(st:∀i x ρ,xs[i]? =some x->I i ρ->∃ρ',b x ρ=some (.nx ρ')/\I (i+1) ρ')(c:∀ρ',r=some (.nx ρ')->I xs.length ρ'->C):C:=by
 have key:∀(ys:List D) (k:Nat) (ρ:Ev),xs.drop k=ys->I k ρ->k<=xs.length->∃ρ',loopF b ys ρ=some (.nx ρ')/\I xs.length ρ':=by
  intro ys
  induction ys with
  | nil=>
   intro k ρ hk h hl
   have:k=xs.length:=by
    have:=List.drop_eq_nil_iff.mp hk;walk_at "o"
   exact⟨ρ,rfl,this▸h⟩
  | cons y ys ih=>
   intro k ρ hk h hl;have hx:xs[k]? =some y:=by
    have:=jF (·[0]?) hk
    simpa using this
   have lt:=(zM.mp hx).1;obtain⟨ρ1,e1,i1⟩:=st k y ρ hx h;obtain⟨ρ2,e2,i2⟩:=ih (k+1) ρ1 (by rw[<-drop_drop,hk];rfl) i1 lt
   exact⟨ρ2,by rw[loopF,e1];exact e2,i2⟩
 obtain⟨ρ',e',i⟩:=key xs 0 ρ (by simp) h0 (qK _)
 exact c ρ' (e.symm.trans e') i
theorem a2T {m:Int}{n i:Nat}{x:D}(h:(rngD m n)[i]? =some x):x= .int (m+i)/\i<n:=by
 unfold rngD at h;rw[qU] at h
 by_cases hi:i<n
 ·rw[List.getElem?_range hi] at h;cases h;exact⟨rfl,hi⟩
 ·rw[List.getElem?_eq_none (by simpa using hi)] at h;cases h
def Sm (n:Int):Prop:=0<n/\n.natAbs<2^390
theorem Sm.pos {n:Int}(h:Sm n):0<n:=h.1
def Pot (b:Nat) (d:D):Prop:=∃r c s:Int,d= .lst [.int r,.int c,.int s]/\0<=c/\c<=b/\0<=s/\s<2147483647
theorem Pot.mono {b b':Nat}{d:D}(h:Pot b d)(hb:b<=b'):Pot b' d:=by
 obtain⟨r,c,s,e,h1,h2,h3⟩:=h;exact⟨r,c,s,e,h1,by walk_at "o",h3⟩
theorem Pot.lf {b:Nat}{d:D}(h:Pot b d):lfC d=true:=by obtain⟨r,c,s,rfl,_⟩:=h;rfl
section
variable {ρ:Ev}{i:Nat}{d:D}{xs:List D}
def fn2 (ρ:Ev):Option (Option W)->Option (List D×Ev)
 | some (some (.v d))=>(items d).map fun xs=>(xs,ρ)
 | some (some (.r _))=>none
 | some (some w)=>match w.own with
  | some (.lst xs)=>some (xs,ρ)
  | _=>none
 | _=>none
def fn3 (ρ:Ev):Option (List D)->Option (List D×Ev)
 | some xs=>some (xs,ρ)
 | none=>none
theorem r_fn:fiName i ρ=fn2 ρ ρ[i]?:=by
 unfold fiName fn2;cases ρ[i]? with
 | none=>rfl
 | some o=>cases o with
  | none=>rfl
  | some w=>cases w<;>rfl
theorem b2R:fn2 ρ (some (some (.v d)))=fn3 ρ (items d):=by
 show(items d).map _=_;unfold fn3;cases items d<;>rfl
theorem b4d:fn2 ρ (some (some (.o (.lst xs))))=some (xs,ρ):=rfl
theorem r_fn_l:fn2 ρ (some (some (.l (.lst xs))))=some (xs,ρ):=rfl
theorem r_fn3:fn3 ρ (some xs)=some (xs,ρ):=rfl
end
mutual
def toP:D->PyData
 | .non=>.none
 | .bl b=>.bool b
 | .int i=>.int i
 | .str x=>.str x
 | .tup xs=>.tuple (toPs xs)
 | .lst xs=>.list (toPs xs)
 | _=>.none
def toPs:List D->List PyData
 | []=>[]
 | x::xs=>toP x::toPs xs
end
def txt (d:D):Str:=(toP d).shown
def Sh:Nat->Nat->D->Prop
 | _,n,.int i=>i.natAbs<2^1900/\1910<=n
 | _,n,.non=>5<=n
 | _,n,.bl _=>5<=n
 | k+1,n,.tup xs=>∃m,(∀x∈xs,Sh k m x)/\xs.length*(m+2)+4<=n
 | k+1,n,.lst xs=>∃m,(∀x∈xs,Sh k m x)/\xs.length*(m+2)+4<=n
 | _,_,_=>False
theorem V0 {m:Nat}:∀{xs:List D},(∀x∈xs,(toP x).shown.length<=m)->piled (PyData.shownAll (toPs xs))<=xs.length*(m+2)/\(PyData.shownAll (toPs xs)).length=xs.length
 | [],_=>⟨by rw[toPs,PyData.shownAll,piled_nil];exact qK _,by rw[toPs,PyData.shownAll];rfl⟩
 | x::xs,h=>by
  obtain⟨h1,h2⟩:=V0 (xs:=xs) fun y hy=>h y (zH _ hy);rw[toPs,PyData.shownAll,piled_cons,zU,zU,h2,Nat.succ_mul]
  have:=h x zG
  exact⟨by walk_at "o",rfl⟩
theorem a5X (ts:List Str):(tupleText ts).length<=piled ts+3:=by
 unfold tupleText;rw[strLen_append,strLen_append]
 have e1:((("(":String):Str)).length=1:=rfl
 have e3:(((if ts.length==1 then ",)" else ")":String):Str)).length<=2:=by split<;>decide
 rw[e1];cases ts with
 | nil=>
  have:(Str.join ", " ([]:List Str)).length=0:=rfl
  walk_at "o"
 | cons t ts=>have:=join_length_add (t::ts) (by simp);walk_at "o"
theorem a6F (ts:List Str):(listText ts).length<=piled ts+4:=by
 unfold listText
 have e1:((("]":String):Str)).length=1:=rfl
 rw[strLen_append,e1];cases ts with
 | nil=>
  have:(textFrom 0 "[" []).length=1:=rfl
  walk_at "o"
 | cons t ts=>
  rw[textFrom,textFrom_length_pos _ _ _ (by decide),piled_cons,strLen_append,strLen_append]
  have e2:(((("[":String):Str))).length=1:=rfl
  have e3:(((if 0>0 then ", " else "":String):Str)).length=0:=rfl;walk_at "o"
structure ShP (k n:Nat) (p:PyData):Prop where
 sh:p.showable=true
 nd:p.hasDict=false
 dp:p.depth<=k
 ln:p.shown.length<=n
theorem a50 {k m:Nat}:∀{xs:List D},(∀x∈xs,ShP k m (toP x))->PyData.showableAll (toPs xs)=true/\PyData.hasDictAll (toPs xs)=false/\PyData.depthAll (toPs xs)<=k
 | [],_=>⟨rfl,rfl,qK _⟩
 | x::xs,h=>by
  obtain⟨h1,h2,h3⟩:=a50 (xs:=xs) fun y hy=>h y (zH _ hy);have hx:=h x zG;rw[toPs,PyData.showableAll,PyData.hasDictAll,PyData.depthAll,hx.sh,hx.nd,h1,h2]
  have:=hx.dp
  exact⟨rfl,rfl,by walk_at "o"⟩
theorem b4b {k n:Nat}{i:Int}(h:i.natAbs<2^1900)(hn:1910<=n):ShP k n (toP (.int i)):=by
 have hl:i.natAbs.log2<1901:=by
  by_cases z:i.natAbs=0
  ·rw[z];decide
  ·exact zF ((Nat.log2_lt z).mpr h) (by decide)
 rw[toP];refine⟨?_,by rw[PyData.hasDict],by rw[PyData.depth];exact qK _,?_⟩
 ·rw[PyData.showable];exact zC (zF hl (by decide))
 ·rw[PyData.shown,PySem.ofString_length]
  have:=int_text_length_le (k:=1901) (by decide) hl
  walk_at "o"
theorem b0s:∀(k n:Nat) (d:D),Sh k n d->ShP k n (toP d)
 | k,n,.int i,h=>by unfold Sh at h;exact b4b h.1 h.2
 | k,n,.non,h=>by
  unfold Sh at h;rw[toP];exact⟨by rw[PyData.showable],by rw[PyData.hasDict],by rw[PyData.depth];exact qK _,by rw[PyData.shown];exact zO (by decide) h⟩
 | k,n,.bl b,h=>by
  unfold Sh at h;rw[toP];refine⟨by rw[PyData.showable],by rw[PyData.hasDict],by rw[PyData.depth];exact qK _,?_⟩
  rw[PyData.shown];refine zO ?_ h;cases b<;>decide
 | k+1,n,.tup xs,h=>by
  unfold Sh at h;obtain⟨m,hm,hn⟩:=h;have hx:=fun x hx=>b0s k m x (hm x hx);obtain⟨h1,h2,h3⟩:=a50 hx;obtain⟨h4,h5⟩:=V0 fun x h=>(hx x h).ln;rw[toP];refine⟨by rw[PyData.showable];exact h1,by rw[PyData.hasDict];exact h2,by rw[PyData.depth];walk_at "o",?_⟩
  rw[PyData.shown]
  have:=a5X (PyData.shownAll (toPs xs))
  walk_at "o"
 | k+1,n,.lst xs,h=>by
  unfold Sh at h;obtain⟨m,hm,hn⟩:=h;have hx:=fun x hx=>b0s k m x (hm x hx);obtain⟨h1,h2,h3⟩:=a50 hx;obtain⟨h4,h5⟩:=V0 fun x h=>(hx x h).ln;rw[toP];refine⟨by rw[PyData.showable];exact h1,by rw[PyData.hasDict];exact h2,by rw[PyData.depth];walk_at "o",?_⟩
  rw[PyData.shown]
  have:=a6F (PyData.shownAll (toPs xs))
  walk_at "o"
 | 0,n,.tup xs,h=>by unfold Sh at h;exact h.elim
 | 0,n,.lst xs,h=>by unfold Sh at h;exact h.elim
 | 0,n,.str x,h=>by unfold Sh at h;exact h.elim
 | k+1,n,.str x,h=>by unfold Sh at h;exact h.elim
 | 0,n,.dT _ _,h=>by unfold Sh at h;exact h.elim
 | k+1,n,.dT _ _,h=>by unfold Sh at h;exact h.elim
 | 0,n,.dK _ _,h=>by unfold Sh at h;exact h.elim
 | k+1,n,.dK _ _,h=>by unfold Sh at h;exact h.elim
 | 0,n,.exn _,h=>by unfold Sh at h;exact h.elim
 | k+1,n,.exn _,h=>by unfold Sh at h;exact h.elim
 | 0,n,.fn _,h=>by unfold Sh at h;exact h.elim
 | k+1,n,.fn _,h=>by unfold Sh at h;exact h.elim
section
variable {X:Cx}{pins:List (Addr×PySem.Obj)}{σ:L2.St}{H:Hp}{s:Shared}{A:Av}
theorem a2Q (I:Inv X pins σ H s){P:D->Prop}(ih:∀d,P d->∀v u,Den X.K A H d v->RelV v u->∃as,Reads s.heap u (toP d) as):∀{xs:List D} {vs:List V} {us:List Value},(∀x∈xs,P x)->DenL X.K A H xs vs->Vals vs us->∃as,ReadsAll s.heap us (toPs xs) as
 | [],vs,us,_,l,r=>by rw[DenL] at l;subst l;cases r;exact⟨[],.nil⟩
 | x::xs,vs,us,hp,l,r=>by
  rw[DenL] at l;obtain⟨v,rs,rfl,hd,l⟩:=l;cases r with
  | cons r1 r2=>
   obtain⟨as,ha⟩:=ih x (hp x zG) _ _ hd r1;obtain⟨bs,hb⟩:=a2Q I ih (fun y hy=>hp y (zH _ hy)) l r2;exact⟨as++bs,.cons ha hb⟩
theorem a3Q (I:Inv X pins σ H s):∀(k n:Nat) (d:D),Sh k n d->∀v u,DenR X.K A H d v->RelV v u->∃as,Reads s.heap u (toP d) as
 | k,n,.int i,h,v,u,hd,r=>by
  have hd:Den X.K A H (.int i) v:=hd;rw[Den] at hd;subst hd;obtain⟨t,rfl⟩:=r;exact⟨[],by rw[toP];exact .int i t⟩
 | k,n,.non,h,v,u,hd,r=>by
  have hd:Den X.K A H .non v:=hd;rw[Den] at hd;subst hd;cases r;exact⟨[],by rw[toP];exact .none⟩
 | k,n,.bl b,h,v,u,hd,r=>by
  have hd:Den X.K A H (.bl b) v:=hd;rw[Den] at hd;subst hd;cases r;exact⟨[],by rw[toP];exact .bool b⟩
 | k+1,n,.tup xs,h,v,u,hd,r=>by
  unfold Sh at h;obtain⟨m,hm,hn⟩:=h;have hd:Den X.K A H (.tup xs) v:=hd;rw[Den] at hd;obtain⟨a,vs,rfl,hq,l⟩:=hd;cases r;obtain⟨its,rv,⟨o,e1,e2,nn,e3⟩,_⟩:=I.tuple hq;obtain⟨as,ha⟩:=a2Q I (P:=Sh k m) (fun d hp v u hd r=>a3Q I k m d hp v u (Y8 hd) r) hm l rv;exact⟨as,by rw[toP];exact .tuple e1 e2 e3 (by simpa using ha)⟩
 | k+1,n,.lst xs,h,v,u,hd,r=>by
  unfold Sh at h;obtain⟨m,hm,hn⟩:=h;obtain⟨a,vs,rfl,hq,l⟩:=hd;cases r;obtain⟨its,rv,⟨o,nn,e1,e2,_,e3⟩,_⟩:=I.list hq;obtain⟨as,ha⟩:=a2Q I (P:=Sh k m) (fun d hp v u hd r=>a3Q I k m d hp v u (Y8 hd) r) hm l rv;exact⟨_,by rw[toP];exact .list e1 e2 e3 (by simpa using ha)⟩
 | 0,n,.tup xs,h,_,_,_,_=>by unfold Sh at h;exact h.elim
 | 0,n,.lst xs,h,_,_,_,_=>by unfold Sh at h;exact h.elim
 | 0,n,.str x,h,_,_,_,_=>by unfold Sh at h;exact h.elim
 | k+1,n,.str x,h,_,_,_,_=>by unfold Sh at h;exact h.elim
 | 0,n,.dT _ _,h,_,_,_,_=>by unfold Sh at h;exact h.elim
 | k+1,n,.dT _ _,h,_,_,_,_=>by unfold Sh at h;exact h.elim
 | 0,n,.dK _ _,h,_,_,_,_=>by unfold Sh at h;exact h.elim
 | k+1,n,.dK _ _,h,_,_,_,_=>by unfold Sh at h;exact h.elim
 | 0,n,.exn _,h,_,_,_,_=>by unfold Sh at h;exact h.elim
 | k+1,n,.exn _,h,_,_,_,_=>by unfold Sh at h;exact h.elim
 | 0,n,.fn _,h,_,_,_,_=>by unfold Sh at h;exact h.elim
 | k+1,n,.fn _,h,_,_,_,_=>by unfold Sh at h;exact h.elim
def rStr (K:PySem.W.Frag):List V->Hp->VK->Prop:=fun xs H Q=>(∃i,xs=[.int i]/\i.natAbs.log2<1920/\Q (.str (toString i)) H)\/∃(A:Av) (d:D) (a:Addr),xs=[.ref a]/\DenR K A H d (.ref a)/\Sh 8 10000000 d/\Q (.str (txt d)) H
theorem K5 {k:Nat}(hr:Room k X.A):CallR X (.type "str") (rStr X.K):=by
 intro pins s σ H xs us Q I r h;rcases h with h|⟨A,d,a,rfl,hd,hs,q⟩
 ·exact a51 pins s σ H xs us Q I r h
 ·obtain⟨u,rfl,r1⟩:=vals1 r;cases r1;obtain⟨as,ha⟩:=a3Q I 8 _ d hs _ _ hd rfl;have sp:=b0s 8 _ d hs;have hu:=hr.units;have dp:=sp.dp;exact str_of_reads ha sp.sh (PyData.noDict_hsm sp.nd) hr.gd (by walk_at "o") (fun b o e=>e) (fun h' u tk hk=>⟨.str (txt d),H,I.kept hk,⟨u,rfl⟩,q⟩) (zO sp.ln (by decide))
open Classical in
def gStrD:D->Option W
 | .tup xs=>if Sh 8 10000000 (.tup xs) then some (.v (.str (txt (.tup xs)))) else none
 | .lst xs=>if Sh 8 10000000 (.lst xs) then some (.v (.str (txt (.lst xs)))) else none
 | d=>gStr d
theorem S1:PrA X (k1 gStrD) (rStr X.K):=pr1 fun A d w v H Q e h q=>by
 cases d with
 | tup xs=>
  simp only[gStrD] at e;split at e
  ·rename_i hs;cases e;have h':Den X.K A H (.tup xs) v:=h;rw[Den] at h';obtain⟨a,vs,rfl,_⟩:=h';exact .inr ⟨A,_,a,rfl,h,hs,q _ H (Same.refl H) N5⟩
  ·cases e
 | lst xs=>
  simp only[gStrD] at e;split at e
  ·rename_i hs;cases e;obtain⟨a,vs,rfl,_⟩:=id h;exact .inr ⟨A,_,a,rfl,h,hs,q _ H (Same.refl H) N5⟩
  ·cases e
 | int i=>
  simp only[gStrD,gStr] at e;split at e
  ·rename_i hl;cases e;refine .inl ⟨i,by rw[u6 h],?_,q _ H (Same.refl H) N5⟩
   by_cases z:i.natAbs=0
   ·rw[z];decide
   ·exact zF ((Nat.log2_lt z).mpr hl) (by decide)
  ·cases e
 | _=>cases e
end
section
variable {X:Cx}{a:Expr}{f:FX}{pos:Pos}
theorem b1j {ta:TE}(ha:PE X a ta):PE X (.UnaryOp .Not a pos) (fun σ H Q=>ta σ H fun x H'=>∃k,TruV X.K x H' k/\Q (.bl (!k)) H'):=by
 intro pins s σ H Q I h;refine UnaryOp_ (thn (ha pins s σ H _ I h) fun v s1 ⟨x,H1,I1,r1,q1⟩=>?_);obtain⟨k,q1,q2⟩:=q1;exact not_of (zJ (b0T pins s1 σ H1 x v (fun k' H'=>Q (.bl (!k')) H') I1 r1 ⟨k,q1,q2⟩) (fun b s2 ⟨H2,I2,q3⟩=>⟨.bl (!b),H2,I2,rfl,q3⟩) (fun _ _ z=>z))
def fNotT (f:FX):FX:=fun ρ=>(fTru f ρ).map fun p=>(.v (.bl (!p.1)),p.2)
theorem b0X (ha:QX X a f):QX X (.UnaryOp .Not a pos) (fNotT f):=⟨PE.weak (b1j ha.to) fun σ H Q h0=>tXe h0 fun P O L ρ w0 ρ' r e q=>by
 unfold fNotT fTru at e;cases e1:f ρ with
 | none=>rw[e1] at e;cases e
 | some p=>
  obtain⟨w,ρ1⟩:=p;rw[e1] at e;simp only[bind_some] at e;cases e2:dr ρ1 w.fz with
  | none=>rw[e2] at e;cases e
  | some d=>
   rw[e2] at e;simp only[bind_some] at e;cases e3:truth d with
   | none=>rw[e3] at e;cases e
   | some k'=>
    rw[e3] at e;cases e
    exact⟨P,O,L,ρ,w,_,r,e1,fun v H1 H' r1 s1 d1=>⟨k',a76 e3 (P7 (r1.grow s1) e2 (d1.fz r1 s1)),q _ H' H' (r1.grow s1) (Same.refl _) C5⟩⟩⟩
end
section
variable {f:FX}{ρ:Ev}{k:Bool}
def nt2:Option (Bool×Ev)->Option (W×Ev)
 | some p=>some (.v (.bl (!p.1)),p.2)
 | none=>none
theorem r_nt:fNotT f ρ=nt2 (tru2 (f ρ)):=by unfold fNotT;rw[b2B];unfold nt2;cases tru2 (f ρ)<;>rfl
theorem r_nt2:nt2 (some (k,ρ))=some (.v (.bl (!k)),ρ):=rfl
end
theorem b0A {P:Program}{w:World}{H:Hp}{h:Heap}{a:Addr}{o:HO}(x:ObjOk P w H h a o):∃ob,h.get? a=some ob:=by
 cases o with
 | lst xs=>obtain⟨_,_,_,_,e⟩:=x;exact⟨_,e⟩
 | tup xs=>obtain⟨_,_,_,_,e,_⟩:=x;exact⟨_,e⟩
 | dK kvs=>obtain⟨_,_,_,_,o,_,e,_⟩:=x;exact⟨_,e⟩
 | dT kvs=>obtain⟨_,_,_,_,o,_,e,_⟩:=x;exact⟨_,e⟩
 | set S n=>obtain⟨o,_,_,_,e,_⟩:=x;exact⟨_,e⟩
 | ins C dx fs=>obtain⟨_,_,_,e,_⟩:=x;exact⟨_,e⟩
 | own y=>obtain⟨_,e⟩:=x;exact⟨_,e⟩
 | xd fs=>obtain⟨_,⟨_,_,_,e,_⟩,_⟩:=x;exact⟨_,e⟩
 | rng lo hi=>obtain⟨_,_,_,e⟩:=x;exact⟨_,e⟩
 | frz ob u=>obtain⟨e,_⟩:=x;exact⟨_,e⟩
 | tbl ps=>exact⟨_,(show h.get? a=some _ from x)⟩
 | met f y=>exact⟨_,(show h.get? a=some _ from x)⟩
 | ext φ=>obtain⟨_,e,_⟩:=x;exact e
structure Fly (P:Program) (w:World) (l:List Env) (H:Hp) (s:Shared) (C x:Addr) (H':Hp) (s':Shared):Prop where
 os:s'.os=s.os
 bare:AllBare s'.gens
 un:Un (frs l) [] H H' s.heap s'.heap
 hok:HOk P w H' s'.heap
 fly:∃B a0,Heap.FlyingW B l x (.ref C) a0 s'.heap/\∀b o,s'.heap.get? b=some o->b∉frs l->((∃o0,s.heap.get? b=some o0)\/H' b≠none)->B.get? b=some o
def CXE (P:Program) (w:World):CXT:=fun l H s E e s'=>∃C x H',e= .ref x/\Fly P w l H s C x H' s'/\E e (some C) H'
section
variable {X:Cx}{pins:List (Addr×PySem.Obj)}{σ:L2.St}{H H':Hp}{s s':Shared}{h'' B:Heap}{x C:Addr}{a0:Value}
theorem a7G (I:Inv X pins σ H' s')(hex:X.ex=[])(sl:∀b o,s'.heap.get? b=some o->b∈frs X.outer->∃t,h''.get? b=some {o with slots:=t})(hfl:Heap.FlyingW B X.outer x (.ref C) a0 h'')
  (hB:∀b o,s'.heap.get? b=some o->b∉frs X.stack->((∃o0,X.s₀.heap.get? b=some o0)\/H' b≠none)->B.get? b=some o):
  Fly X.prog X.w X.outer X.H₀ X.s₀ C x H' {s' with heap:=h''}:=by
 have nex:∀b,b∉X.ex:=fun b z=>by rw[hex] at z;cases z
 have inB:∀b o,s'.heap.get? b=some o->b∉frs X.stack->((∃o0,X.s₀.heap.get? b=some o0)\/H' b≠none)->h''.get? b=some o:=fun b o e hb hc=>hfl.1 b o (hB b o e hb hc);have nl:∀b o,X.s₀.heap.get? b=some o->b≠X.env.locals:=fun b o e=>zS (zF (zV e) I.ok.above);have ns:∀b,b≠X.env.locals->b∉frs X.outer->b∉frs X.stack:=fun b n hb z=>(zT.mp (I.stkSub b z)).elim n hb;refine⟨I.os,I.bare,⟨fun b o e n hb _=>inB b o (I.base.keep b o e n hb (nex b)) (ns b (nl b o e) hb) (.inl ⟨o,e⟩),fun b o e n hb _=>?_,fun b o e n _=>I.base.free b o e n (nex b),fun b o e _=>?_,I.base.tups,I.base.frzs,I.base.tbls⟩,fun b u q=>?_,B,a0,hfl,fun b o e hb hc=>?_⟩
 ·obtain⟨t,e1⟩:=I.base.slot b o e n hb (nex b);obtain⟨t',e2⟩:=sl b _ e1 hb;exact⟨t',e2⟩
 ·obtain⟨o',e1⟩:=I.base.there b o e (nex b)
  by_cases hb:b∈frs X.outer
  ·obtain⟨t',e2⟩:=sl b _ e1 hb;exact⟨_,e2⟩
  ·exact⟨o',inB b o' e1 (ns b (nl b o e) hb) (.inl ⟨o,e⟩)⟩
 ·refine(I.hok b u q).stay (fun c v hc e=>?_) (fun _ q=>q) fun _ _ q=>q;have tr:H' c≠none:=by
   rcases hc with z|z
   ·rw[z,q];exact fun z=>nomatch z
   ·rw[z];exact fun z=>nomatch z
  exact inB c v e (fun z=>tr (I.stkFree c z)) (.inr tr)
 ·have nlb:b≠X.env.locals:=by
   rcases hc with ⟨o0,e0⟩|z
   ·exact nl b o0 e0
   ·exact fun y=>z (by rw[y];exact I.free)
  have hb':=ns b nlb hb;obtain⟨o',e1⟩:∃o',s'.heap.get? b=some o':=by
   rcases hc with ⟨o0,e0⟩|z
   ·exact I.base.there b o0 e0 (nex b)
   ·cases q:H' b with
    | none=>exact absurd q z
    | some u=>exact b0A (I.hok b u q)
  have e2:=hB b o' e1 hb' hc;have e3:=hfl.1 b o' e2;rw[show({s' with heap:=h''}:Shared).heap=h'' from rfl] at e
  rw[e3] at e;cases e;exact e2
theorem b2v (I:Inv X pins σ H' s')(hsm:s'.heap.UpToSlots h''):∀b o,s'.heap.get? b=some o->b∈frs X.outer->∃t,h''.get? b=some {o with slots:=t}:=fun b o e hb=>by
 obtain⟨o',e',nf⟩:=(I.funs.mem hb).2;rw[e] at e';cases e';exact hsm b o e nf
theorem Fly.inv (I:Inv X pins σ H s)(F:Fly X.prog X.w X.stack H s C x H' s'):Inv X pins σ H' s':=by
 obtain⟨hh,g,d,t,os'⟩:=s';obtain rfl:os'=s.os:=F.os;exact I.call (h':=hh) (g':=g) (d':=d) (t':=t) (ch:=[]) F.un F.hok F.bare (fun b z=>absurd z (by simp))
def Thr (X:Cx) (C:Addr) (v:Value) (s':Shared):Prop:=∃pins σ x H1 s1,v= .ref x/\Inv X pins σ H1 s1/\Same X.H₀ H1/\
 ((∃h' args,Heap.MadeExcOf s1.heap h' x (.ref C) args/\s'={s1 with heap:=h'})\/(∃H',Same H1 H'/\Fly X.prog X.w X.stack H1 s1 C x H' s')\/
   ∃h' B a0,s'={s1 with heap:=h'}/\Heap.HeldW B X.stack x (.ref C) a0 X.env.locals h'/\(∀b o,s1.heap.get? b=some o->b∈frs X.outer->∃t,h'.get? b=some {o with slots:=t})/\
   ∀b o,s1.heap.get? b=some o->b∉frs X.stack->((∃o0,X.s₀.heap.get? b=some o0)\/H1 b≠none)->B.get? b=some o)
theorem a8D {M:Model}{E:Value->Shared->Prop}{Q:Unit->Shared->Prop}{v:Value}(T:Thr X C v s')(hst:X.stack=X.env::X.outer)(hf:X.env.frame=some X.env.locals)(hex:X.ex=[])
  (hQ:∀x H' s'',v= .ref x->Same X.H₀ H'->Fly X.prog X.w X.outer X.H₀ X.s₀ C x H' s''->Q () s''):wpAny M X.A (leaving X.env v) Q E s':=by
 obtain⟨pins,σ,x,H1,s1,rfl,I,sm,h⟩:=T;have fr:X.A.frames=some (X.env::X.outer):=by rw[I.ok.frames,hst]
 rcases h with ⟨h',args,hx,rfl⟩|⟨H',sm',F⟩|⟨h',B,a0,rfl,hh,hsl,hB⟩
 ·refine wpAny_leaves_madeW (base:=PySem.W.hideAll s1.heap (frs X.stack)) (h:=s1.heap) fr hf (fun b o q=>PySem.W.of_hideAll _ q) ?_ hx fun h'' t x1 x2 x3 x4=>?_
  ·rw[<-hst];exact PySem.W.funFrames_hide I.stack fun env he a ha=>mem_filterMap.mpr ⟨env,he,ha⟩
  ·have F:=a7G (X:=X) (h'':=h'') (s':=s1) I hex (b2v I ((Heap.UpToSlots.of_keeps hx.keeps).trans x4)) x1 (fun b o e hb _=>PySem.W.hideAll_get _ e hb);exact hQ x H1 _ rfl sm F
 ·obtain⟨B,a0,hfl,hB⟩:=F.fly;have I':=F.inv I;refine wpAny_leaves_onW fr hf (by rw[<-hst];exact hfl) fun h'' hfl'' hsm=>?_
  have G:=a7G (X:=X) (h'':=h'') (s':=s') I' hex (b2v I' hsm) hfl'' (fun b o e hb hc=>hB b o e hb (hc.imp (fun⟨o0,e0⟩=>I.base.there b o0 e0 (fun z=>by rw[hex] at z;cases z)) id))
  exact hQ x H' _ rfl (sm.trans sm') G
 ·unfold leaving;refine zA (wpAny_noteFrame_againW hf hh.2.2.2 (wpAny_landsW hh fun h'' hfl hsm=>?_));rw[hst] at hfl;obtain⟨k1,k2,⟨_,_,k3⟩,k4⟩:=hfl;refine hQ x H1 _ rfl sm (a7G (X:=X) (h'':=h'') (s':=s1) I hex (fun b o e hb=>?_) ⟨k1,k2,k3,k4⟩ hB);obtain⟨o',e',nf⟩:=(I.funs.mem hb).2;rw[e] at e';cases e';obtain⟨t,e1⟩:=hsl b o e hb;obtain⟨t',e2⟩:=hsm b {o with slots:=t} e1 nf
  exact⟨t',e2⟩
end
abbrev bmV:List Value:=[.type "ValueError",.type "Exception",.type "BaseException",.type "object"]
abbrev nwV:String:="ValueError.__new__"
theorem b1p {K:PySem.W.Frag}{h:Heap}{C:Addr}{bmB:List Value}{newId:String}(X:K.In h)(q:PySem.W.excIn K C bmB newId=true):
  ∃bm N nm qn bs hd sn sub ab col dd k0 k1 k2 k3 k5 mN,h.get? C=some (excClassObj nm qn C N bs bm hd sn sub ab col dd k0 k1 k2 k3 k5 newId)/\h.Ns N mN/\mN "__init__"=none/\OwnTail h bmB bm:=by
 unfold PySem.W.excIn at q;split at q
 ·rename_i dd cd sl ho;split at q
  ·rename_i C' bm k0 k1 k2 k3 n k5 hm hs;simp only[qF,beq_iff_eq,Bool.not_eq_true'] at q;obtain⟨⟨⟨⟨⟨rfl,rfl⟩,hdel⟩,ht⟩,hok⟩,hni⟩:=q;obtain⟨nm,bs,mro,ns,qn,hd,sn,sub,ab,col,del⟩:=cd;dsimp only at hm hdel hok hni;subst hm hdel;have hsl:sl= #[k0,k1,k2,k3,some (.builtin n),k5]:=by
    obtain⟨l⟩:=sl;simp only at hs;rw[hs]
   subst hsl;exact⟨bm,ns,nm,qn,bs,hd,sn,sub,ab,col,dd,k0,k1,k2,k3,k5,_,X _ _ ho,.of_isNs (PySem.W.isNs_of_in X hok),PySem.W.nsMap_none_of_in X hok hni,PySem.W.tail_of_in X ht⟩
  ·cases q
 ·cases q
abbrev inx (X:Cx) (v:Value):Cx:={X with A:=X.A.mark (some v),calm:=false,xe:=fun _ _=>False}
section
variable {X:Cx}{pins:List (Addr×PySem.Obj)}{σ:L2.St}{H H1 H':Hp}{s s1 s':Shared}{h5 B:Heap}{x C:Addr}{v:Value}
theorem b4e (ok:X.Ok):(inx X v).Ok:=
 ⟨ok.mod,ok.kind,ok.glob,ok.blt,ok.above,ok.inj,ok.has,ok.cab,(fun z=>nomatch z),ok.frames,ok.stk,ok.exf,ok.bs,ok.bsz,ok.noex,ok.exfs,ok.funs,ok.frf⟩
theorem a5u (I:Inv X pins σ H s):Inv (inx X v) pins σ H s:=⟨b4e I.ok,I.os,I.bare,I.base,I.loc,I.cell,I.free,I.freeC,I.pin,I.hok,I.len⟩
theorem a9N (ok:X.Ok)(I:Inv (inx X v) pins σ H s):Inv X pins σ H s:=⟨ok,I.os,I.bare,I.base,I.loc,I.cell,I.free,I.freeC,I.pin,I.hok,I.len⟩
theorem a6i (I1:Inv X pins σ H1 s1)(I:Inv X pins σ H' s')(hst:X.stack=X.env::X.outer)(hf:X.env.frame=some X.env.locals)(hex:X.ex=[])
  (hB:∀b o,s'.heap.get? b=some o->b∉frs X.stack->((∃o0,s1.heap.get? b=some o0)\/H' b≠none)->B.get? b=some o) (st:B.StaysIn h5) (sm:s'.heap.UpToSlots h5):Inv X pins σ H' {s' with heap:=h5}:=by
 have nex:∀b,b∉X.ex:=fun b z=>by rw[hex] at z;cases z
 have inB:∀b o,s'.heap.get? b=some o->b∉frs X.stack->((∃o0,s1.heap.get? b=some o0)\/H' b≠none)->h5.get? b=some o:=fun b o e hb hc=>st b o (hB b o e hb hc);have nl:∀b o,X.s₀.heap.get? b=some o->b≠X.env.locals:=fun b o e=>zS (zF (zV e) I.ok.above);have ns:∀b,b≠X.env.locals->b∉frs X.outer->b∉frs X.stack:=fun b n hb z=>(zT.mp (I.stkSub b z)).elim n hb;have sub:∀b,b∈frs X.outer->b∈frs X.stack:=fun b hb=>by rw[hst];unfold frs at hb ⊢;rw[jQ,hf];exact zH _ hb
 have sl:∀b o,s'.heap.get? b=some o->b∈frs X.stack->∃t,h5.get? b=some {o with slots:=t}:=fun b o e hb=>by
  obtain⟨o',e',nf⟩:=(I.stack.mem hb).2;rw[e] at e';cases e';exact sm b o e nf
 have cellK:∀c v,s'.heap.IsCell c v->h5.IsCell c v:=fun c v ⟨o,ho,hd⟩=>by
  obtain⟨t,e⟩:=sm c o ho (fun vs z=>by rw[hd] at z;cases z)
  exact⟨_,e,hd⟩
 refine⟨I.ok,I.os,I.bare,⟨fun b o e n hb hx=>inB b o (I.base.keep b o e n hb hx) (ns b (nl b o e) hb) (.inl (I1.base.there b o e hx)),fun b o e n hb hx=>?_,I.base.free,fun b o e hx=>?_,I.base.tups,I.base.frzs,I.base.tbls⟩,?_,fun y c e=>?_,I.free,I.freeC,fun p hp=>?_,fun b u q=>?_,I.len⟩
 ·obtain⟨t,e1⟩:=I.base.slot b o e n hb hx;obtain⟨t',e2⟩:=sl b _ e1 (sub b hb);exact⟨t',e2⟩
 ·obtain⟨o',e1⟩:=I.base.there b o e hx
  by_cases hb:b∈frs X.stack
  ·obtain⟨t',e2⟩:=sl b _ e1 hb;exact⟨_,e2⟩
  ·exact⟨o',inB b o' e1 hb (.inl (I1.base.there b o e hx))⟩
 ·obtain⟨m,hn,hl⟩:=I.loc;refine⟨m,sm.ns hn,fun i y v e1 e2 e3=>?_⟩;obtain⟨u,r,l⟩:=hl i y v e1 e2 e3;refine⟨u,r,?_⟩;rcases l with l|⟨k,c,e,z⟩
  ·exact .inl l
  ·exact .inr ⟨k,c,e,cellK c _ z⟩
 ·obtain⟨v,z⟩:=I.cell y c e;exact⟨v,cellK c v z⟩
 ·obtain⟨e,n,ne,nf,d⟩:=I.pin p hp;exact⟨inB p.1 p.2 e (ns p.1 ne nf) (.inl ⟨_,(I1.pin p hp).1⟩),n,ne,nf,d⟩
 ·refine(I.hok b u q).stay (fun c v hc e=>?_) (fun _ q=>q) fun _ _ q=>q;have tr:H' c≠none:=by
   rcases hc with z|z
   ·rw[z,q];exact fun z=>nomatch z
   ·rw[z];exact fun z=>nomatch z
  exact inB c v e (fun z=>tr (I.stkFree c z)) (.inr tr)
theorem a81 (I:Inv X pins σ H s)(hx:H x=none)(h0:X.s₀.heap.get? x=none)(hL:x≠X.env.locals)(hc:∀y c,X.env.cells.lookup y=some c->c≠x)(hp:∀p∈X.pn++pins,p.1≠x)(e:ExcAt x C s.heap):
  Inv X pins σ (upd H x (.ext (ExcAt x C))) s:=by
 have ne:∀b u,H b=some u->b≠x:=fun b u q z=>by rw[z,hx] at q;cases q
 refine⟨I.ok,I.os,I.bare,⟨I.base.keep,I.base.slot,fun b o q n hx'=>?_,I.base.there,fun b xs q=>?_,fun b o u q=>?_,fun b ps q=>?_⟩,I.loc,I.cell,?_,fun y c q=>?_,fun p q=>?_,fun b u q=>?_,I.len⟩
 ·rw[k8 (fun z=>by rw[z,h0] at q;cases q)];exact I.base.free b o q n hx'
 ·have:=I.base.tups b xs q;rw[k8 (ne _ _ this)];exact this
 ·have:=I.base.frzs b o u q;rw[k8 (ne _ _ this)];exact this
 ·obtain⟨m,this⟩:=I.base.tbls b ps q;exact⟨m,by rw[k8 (ne _ _ this)];exact this⟩
 ·rw[k8 (qA hL)];exact I.free
 ·rw[k8 (hc y c q)];exact I.freeC y c q
 ·obtain⟨e,n,n2,nf,d⟩:=I.pin p q;exact⟨e,by rw[k8 (hp p q)];exact n,n2,nf,d⟩
 ·by_cases hb:b=x
  ·subst hb;rw[C3] at q;cases q;obtain⟨o,vs,e1,e2⟩:=e;exact⟨⟨o,vs,e1,e2⟩,⟨o,e1⟩,fun h1 h2 ⟨o,vs,e1,e2⟩ k=>⟨o,vs,k o e1,e2⟩⟩
  ·rw[k8 hb] at q;exact(I.hok b u q).stay (fun _ _ _ e=>e) (fun c z=>by rw[k8 (ne _ _ z)];exact z) fun c xs z=>by rw[k8 (ne _ _ z)];exact z
theorem a6v {i:Nat}{n:Str}{u:Option Value}{m:Str->Option Value}{h':Heap}{t:Nat}(I:Inv X pins σ H s)(hN:X.N.Nodup)(hi:X.N[i]? =some n)(hm:∀(j:Nat) (y:Str) (v:V),X.N[j]? =some y->σ[j]? =some (some v)->Vis X.env.scope y->∃u,RelV v u/\Look X.env s.heap m y u)
  (hn':h'.Ns X.env.locals (fun y=>if y=n then u else m y)) (hs:Heap.SameBut X.env.locals s.heap h'):Inv X pins (σ.set i none) H {s with heap:=h',toks:=t}:=by
 have nl:∀b o,X.s₀.heap.get? b=some o->b≠X.env.locals:=fun b o e=>zS (zF (zV e) I.ok.above);refine⟨I.ok,I.os,I.bare,⟨fun b o e n hb hx=>(hs.2 b (nl b o e)).trans (I.base.keep b o e n hb hx),fun b o e n hb hx=>?_,I.base.free,fun b o e hx=>?_,I.base.tups,I.base.frzs,I.base.tbls⟩,⟨_,hn',fun j y v e1 e2 e3=>?_⟩,fun y c e=>?_,I.free,I.freeC,fun p hp=>?_,fun b u q=>?_,by simpa using I.len⟩
 ·obtain⟨sl,e1⟩:=I.base.slot b o e n hb hx;exact⟨sl,(hs.2 b (nl b o e)).trans e1⟩
 ·obtain⟨o',e1⟩:=I.base.there b o e hx;exact⟨o',(hs.2 b (nl b o e)).trans e1⟩
 ·by_cases hj:j=i
  ·subst hj;rw[getElem?_set,if_pos rfl] at e2;split at e2<;>cases e2
  ·rw[zL (qA hj)] at e2;obtain⟨u',r',q⟩:=hm j y v e1 e2 e3;refine⟨u',r',?_⟩;rcases q with ⟨k,e⟩|⟨k,c,e,z⟩
   ·refine .inl ⟨k,?_⟩
    have:y≠n:=fun e=>hj (a4e hN e1 (e▸hi))
    simp[this,e]
   ·exact .inr ⟨k,c,e,z.sameBut hs (I.cne y c e)⟩
 ·obtain⟨w',z⟩:=I.cell y c e;exact⟨w',z.sameBut hs (I.cne y c e)⟩
 ·obtain⟨e,n,ne,nf,d⟩:=I.pin p hp;exact⟨(hs.2 p.1 ne).trans e,n,ne,nf,d⟩
 ·refine(I.hok b u q).stay (fun c v hc e=>(hs.2 c ?_).trans e) (fun _ q=>q) fun _ _ q=>q;rintro rfl;rcases hc with z|z
  ·rw[<-z,I.free] at q;cases q
  ·rw[I.free] at z;cases z
end
abbrev FR:=Ev->Option Addr
abbrev FRe:=Ev->Option (Addr×Ev)
section
variable {X:Cx}{P:List (D×V)}{O:Av}{L:List (Option Nat×Addr)}{ρ:Ev}{σ:L2.St}{H:Hp}{E:Value->Shared->Prop}{v:Value}
theorem Rep.same0 (r:Rep X P O [] ρ σ H):Same X.H₀ H:=fun b o e=>r.same b o e fun i z=>by simp at z
theorem Rep.wish (r:Rep X P O L ρ σ H):Rep (X.wish E) P O L ρ σ H:=⟨r.same,r.amb,r.len,r.slot,r.inj,r.new,r.lnt,r.lnd,r.prot,r.gvl⟩
theorem Rep.unwish (r:Rep (X.wish E) P O L ρ σ H):Rep X P O L ρ σ H:=⟨r.same,r.amb,r.len,r.slot,r.inj,r.new,r.lnt,r.lnd,r.prot,r.gvl⟩
theorem a79 (r:Rep X P O L ρ σ H):Rep (inx X v) P O L ρ σ H:=⟨r.same,r.amb,r.len,r.slot,r.inj,r.new,r.lnt,r.lnd,r.prot,r.gvl⟩
theorem b4l (r:Rep (inx X v) P O L ρ σ H):Rep X P O L ρ σ H:=⟨r.same,r.amb,r.len,r.slot,r.inj,r.new,r.lnt,r.lnd,r.prot,r.gvl⟩
end
structure PR (X:Cx) (st:Stmt) (r:FR):Prop where
 to:∀(pins:List (Addr×PySem.Obj)) (s:Shared) (σ:L2.St) (H:Hp) (P:List (D×V)) (O:Av) (ρ:Ev) (C:Addr),Inv X pins σ H s->Rep X P O [] ρ σ H->r ρ=some C->(∀v s',Thr X C v s'->X.xe v s')->
  wpAny (model X.prog X.w) X.A (exec st X.env) (fun _ _=>False) X.xe s
structure PRs (X:Cx) (st:List Stmt) (r:FR):Prop where
 to:∀(pins:List (Addr×PySem.Obj)) (s:Shared) (σ:L2.St) (H:Hp) (P:List (D×V)) (O:Av) (ρ:Ev) (C:Addr),Inv X pins σ H s->Rep X P O [] ρ σ H->r ρ=some C->(∀v s',Thr X C v s'->X.xe v s')->
  wpAny (model X.prog X.w) X.A (execs st X.env) (fun _ _=>False) X.xe s
structure PRe (X:Cx) (e:Expr) (r:FRe):Prop where
 to:∀(pins:List (Addr×PySem.Obj)) (s:Shared) (σ:L2.St) (H:Hp) (P:List (D×V)) (O:Av) (ρ ρ':Ev) (C:Addr),Inv X pins σ H s->Rep X P O [] ρ σ H->r ρ=some (C,ρ')->
  wpAny (model X.prog X.w) X.A (eval e X.env) (fun _ _=>False) (fun v s'=>∃x H1 s1 H',v= .ref x/\Inv X pins σ H1 s1/\Rep X P O [] ρ' σ H1/\Same H1 H'/\Fly X.prog X.w X.stack H1 s1 C x H' s') s
def spR (K:PySem.W.Frag) (gx:List D->Option Addr):Sp:=fun vs H _ E=>∃(A:Av) (ds:List D) (C:Addr),(∀b,A b->∃o,H b=some o)/\DenL K A H ds vs/\gx ds=some C/\∀v H',Same H H'->E v (some C) H'
structure FnR (P:Program) (w:World) (K:PySem.W.Frag) (mg:Str->Option Value) (base:Heap) (x:Str) (k:Nat) (gx:List D->Option Addr):Prop where
 ex:∃(f:Addr) (fd:FuncData) (ps:List Str),FnOk P w K mg base (CXE P w) k f fd ps (spR K gx)/\Binds K fd ps []/\PySem.W.keepIn K (.ref f)=true/\mg x=some (.ref f)
theorem FnR.mono {P:Program}{w:World}{K:PySem.W.Frag}{mg:Str->Option Value}{base:Heap}{x:Str}{j k:Nat}{g:List D->Option Addr}(F:FnR P w K mg base x j g)(h:j<=k):FnR P w K mg base x k g:=by
 obtain⟨f,fd,ps,a,b,c,d⟩:=F.ex;exact⟨f,fd,ps,a.mono h,b,c,d⟩
theorem a3L {K:PySem.W.Frag}{A:Av}{σ:L2.St}{H:Hp}:∀{ws:List W} {vs:List V},DenA K A σ H ws vs->ws.length=vs.length
 | [],[],_=>rfl
 | w::ws,[],h=>by simp[DenA] at h
 | [],v::vs,h=>by simp[DenA] at h
 | w::ws,v::vs,h=>by
  simp only[DenA] at h
  first
  | (obtain⟨a,b,e,_,t⟩:=h;cases e;rw[zU,zU,a3L t])
  | (rw[zU,zU,a3L h.2])
section
variable {X:Cx}{e:Expr}{es:List Expr}{pos p np cpos:Pos}{fa:FA}{x:Str}{k:Nat}{C:Addr}{st:Stmt}{rest bd els:List Stmt}{F:FS}{r r1 r2:FR}{re:FRe}{t:FT}{c:Expr}
def fRaise (C:Addr) (fa:FA):FR:=fun ρ=>(fa ρ).bind fun p=>if p.1.length<=lim then some C else none
theorem a16 (hc:X.calm=true)(ex:X.mg x=some (.ref C))(q:PySem.W.excIn X.K C bmV nwV=true)(ha:QA X.nox (e::es) fa)(hg:Gl X x:=by rfl)(hdb:(x==("__debug__":Str))=false:=by decide)
  (he:starEach (e::es) X.env=(false,eval e X.env)::starEach es X.env:=by rfl) (hpl:(backTo cpos (starEach es X.env)).any (·.1)=false:=by rfl):
  PR X (.Raise (some (.Call (.Name x np) (e::es) [] cpos)) none pos) (fRaise C fa):=by
 refine⟨fun pins s σ H P O ρ C' I rp hr hx=>?_⟩;unfold fRaise at hr;cases e1:fa ρ with
 | none=>rw[e1] at hr;cases hr
 | some pp=>
  obtain⟨ws,ρ1⟩:=pp;rw[e1] at hr;simp only[bind_some] at hr;split at hr
  ·rename_i hl;cases hr;obtain⟨bm,N,nm,qn,bs,hd,sn,sub,ab,col,dd,k0,k1,k2,k3,k5,mN,hC,hN,hni,T⟩:=b1p I.ok.mod.kin q;refine wpAny_Raise_call_subT (C:=C) (nm:=nm) (q:=qn) (N:=N) (bs:=bs) (bm:=bm) (hdct:=hd) (sn:=sn) (sub:=sub) (ab:=ab) (col:=col) (dd:=dd) (k0:=k0) (k1:=k1) (k2:=k2) (k3:=k3) (k5:=k5)
    PySem.F.excBase_ValueError (mN:=mN) (T.hasType PySem.F.excBase_ValueError.hasBase) (I.ok.hd hc) (by rw[he];show(false||(backTo cpos (starEach es X.env)).any (·.1))=false;rw[hpl];rfl) hni (W1 I hg ex ⟨rfl,?_⟩ hdb)
   have h2:=ha.to cpos pins s σ H (fun vs H1=>vs.length<=sizeLine/\Same X.H₀ H1) (I.wish _) ⟨P,O,[],ρ,ws,ρ1,rp.wish,e1,fun vs H1 r1 l1=>⟨by rw[<-a3L l1];exact zO hl B5,r1.unwish.same0⟩⟩
   rw[he];rw[show X.nox.env=X.env from rfl,he] at h2;refine Calls.evalArgs_plain (zJ h2 (fun us s2 ⟨vs,H2,I2,rel,hl2,sm⟩=>⟨rfl,by rw[<-rel.length];exact hl2,I2.bk _ _ hC,hN.keeps I2.bk,T.keeps I2.bk,fun h' x hm=>?_⟩) fun _ _ z=>z.elim)
   exact hx _ _ ⟨pins,σ,x,H2,s2,rfl,I2.unwish,sm,.inl ⟨h',us,hm,rfl⟩⟩
  ·cases hr
theorem a0j:PRs X [] (fun _=>none):=⟨fun _ _ _ _ _ _ _ _ _ _ z _=>nomatch z⟩
def fRN (F:FS) (r:FR):FR:=fun ρ=>(F ρ).bind fun q=>match q with|.nx ρ'=>r ρ'|_=>none
theorem J9 (h1:QS X.nox st F)(h2:PRs X rest r):PRs X (st::rest) (fRN F r):=by
 refine⟨fun pins s σ H P O ρ C I rp hr hx=>?_⟩;unfold fRN at hr;cases e1:F ρ with
 | none=>rw[e1] at hr;cases hr
 | some q=>
  rw[e1] at hr;simp only[bind_some] at hr;cases q with
  | nx ρ'=>
   have h:=h1.to pins s σ H {nx:=fun σ' H'=>Rep X P O [] ρ' σ' H',rt:=fun _ _=>False} (I.wish _) ⟨P,O,[],ρ,.nx ρ',rp.wish,e1,fun σ' H' rp'=>rp'.unwish⟩;refine xO (zJ h (fun f s1 q=>?_) fun _ _ z=>z.elim);cases f with
   | next=>obtain⟨σ',H',I',rp'⟩:=q;exact h2.to pins s1 σ' H' P O ρ' C I'.unwish rp' hr hx
   | ret v=>obtain⟨_,_,_,_,_,z⟩:=q;exact z.elim
   | brk=>obtain⟨_,_,_,z⟩:=q;exact z.elim
   | cont=>obtain⟨_,_,_,z⟩:=q;exact z.elim
  | bk ρ'=>cases hr
  | ct ρ'=>cases hr
  | rt d ρ'=>cases hr
theorem n8 (h1:PR X st r):PRs X (st::rest) r:=
 ⟨fun pins s σ H P O ρ C I rp hr hx=>xO (zJ (h1.to pins s σ H P O ρ C I rp hr hx) (fun _ _ z=>z.elim) fun _ _ z=>z)⟩
def fRIf (t:FT) (r1 r2:FR):FR:=fun ρ=>(t ρ).bind fun p=>if p.1=true then r1 p.2 else r2 p.2
theorem a4q (hc:QT X.nox c t)(ha:PRs X bd r1)(hb:PRs X els r2):PR X (.If c bd els pos) (fRIf t r1 r2):=by
 refine⟨fun pins s σ H P O ρ C I rp hr hx=>?_⟩;unfold fRIf at hr;cases e1:t ρ with
 | none=>rw[e1] at hr;cases hr
 | some pp=>
  obtain⟨k,ρ1⟩:=pp;rw[e1] at hr;simp only[bind_some] at hr;have h:=hc.to pins s σ H (fun b H1=>b=k/\Rep X P O [] ρ1 σ H1) (I.wish _) ⟨P,O,[],ρ,k,ρ1,rp.wish,e1,fun H1 r1=>⟨rfl,r1.unwish⟩⟩;refine wpAny_If (zJ h (fun b s1 ⟨H1,I1,hb',r1'⟩=>?_) fun _ _ z=>z.elim);subst hb';cases b with
  | true=>exact ha.to pins s1 σ H1 P O ρ1 C I1.unwish r1' hr hx
  | false=>exact hb.to pins s1 σ H1 P O ρ1 C I1.unwish r1' hr hx
def fRE (r:FRe):FR:=fun ρ=>(r ρ).map (·.1)
theorem a1m (h:PRe X e re)(hs:swapsWith e none pos.line X.env=pure false:=by rfl):PR X (.Expr e pos) (fRE re):=by
 refine⟨fun pins s σ H P O ρ C I rp hr hx=>?_⟩;obtain⟨⟨C',ρ'⟩,e1,e2⟩:=oms hr;dsimp only at e2;subst e2;refine wpAny_Expr_any (zJ (h.to pins s σ H P O ρ ρ' C' I rp e1) (fun _ _ z=>z.elim) fun v s' ⟨x,H1,s1,H',ev,I1,r1,s2,F⟩=>?_) I.quiet hs;exact hx _ _ ⟨pins,σ,x,H1,s1,ev,I1,r1.same0,.inr (.inl ⟨H',s2,F⟩)⟩
def fRCall (gx:List D->Option Addr) (fa:FA):FRe:=fun ρ=>(fa ρ).bind fun p=>(drs p.2 p.1).bind fun ds=>(gx ds).map fun C=>(C,p.2)
theorem E5 {gx:List D->Option Addr}(F:FnR X.prog X.w X.K X.mg X.base x k gx)(hr:Room k X.A)(ha:QA X.nox (e::es) fa)(hg:Gl X x:=by rfl)(hdb:(x==("__debug__":Str))=false:=by decide)
  (he:starEach (e::es) X.env=(false,eval e X.env)::starEach es X.env:=by rfl) (hpl:(backTo pos (starEach es X.env)).any (·.1)=false:=by rfl):PRe X (.Call (.Name x p) (e::es) [] pos) (fRCall gx fa):=by
 refine⟨fun pins s σ H P O ρ ρ' C I rp hc=>?_⟩;unfold fRCall at hc;obtain⟨⟨ws,ρ1⟩,e1,hc⟩:=obs hc;dsimp only at hc;obtain⟨ds,e2,hc⟩:=obs hc;obtain⟨C',e3,hc⟩:=oms hc;cases hc;obtain⟨f,fd,ps,F,b,kp,hm⟩:=F.ex;have h:=ha.to pos pins s σ H (fun vs H1=>Rep X P O [] ρ' σ H1/\DenA X.K (AvO O ρ' σ) σ H1 ws vs) (I.wish _) ⟨P,O,[],ρ,ws,ρ',rp.wish,e1,fun vs H1 r1 l1=>⟨r1.unwish,l1⟩⟩;refine jK (W1 I hg hm ?_ hdb);refine PySem.W.callWith_K (h₀:=X.base) I.ok.mod.kin kp (zJ h (fun us s1 ⟨vs,H1,I1,rel,r1,l1⟩=>⟨I1.kIn,?_⟩) fun _ _ z=>z.elim) he hpl;have I2:=I1.unwish;have sp:spR X.K gx vs H1 (fun _ _=>False) (fun v oc H'=>oc=some C/\Same H1 H'):=⟨fun b=>AvO O ρ' σ b/\¬Handed ρ' σ ws b,ds,C,fun b z=>r1.there z.1,a1p r1 (fun b z=>z.1) (fun b z=>z.2) e2 l1,e3,fun v H' s2=>⟨rfl,s2⟩⟩;have hl:us.length=ps.length:=by rw[<-rel.length];exact F.len _ _ _ _ sp
 have bb:=b s1 us I2.kIn (by rw[jT];exact hl)
 rw[jT] at bb;refine wpAny_call (codeAny_mono (F.run X.A X.stack s1 H1 ⟨us,[]⟩ us vs _ _ hr I2.env0 bb rel sp) fun r s' hq=>?_);cases r with
 | error v=>
  obtain⟨C',x',H',ev,fl,ec,s2⟩:=hq;cases ec;exact⟨x',H1,s1,H',ev,I2,r1,s2,fl⟩
 | ok fl=>
  cases fl with
  | ret u=>obtain⟨_,_,_,_,_,_,_,z⟩:=hq;exact z.elim
  | next=>exact False.elim hq
  | brk=>exact False.elim hq
  | cont=>exact False.elim hq
end
section
variable {P:Program}{w:World}{K:PySem.W.Frag}{mg:Str->Option Value}{base:Heap}
def runR (np n:Nat) (r:FR):List D->Option Addr:=fun ds=>if ds.length=np then r (start0 n ds) else none
theorem a0N {x:Str}{st:Stmt}{f:Addr}{fd:FuncData}{N ps:List Str}{k np n:Nat}{r:FR}(F:Fun K x x st f fd)(S:FnScope N ps (defScope st))(B:Binds K fd ps [])(hm:mg x=some (.ref f))(hp:ps.length=np)(hn:N.length=n)
  (body:∀(cdv:Value) (A:Around) (outer:List Env) (s:Shared) (H:Hp) (E:XK),Room k (A.deeper (envOfC x (defScope st) s.heap.objs.size f cdv))->
   PRs (cxOf (CXE P w) P w K mg base N x (defScope st) f cdv A outer s H E) (defBody st) r):FnR P w K mg base x (k+1) (runR np n r):=by
 refine⟨f,fd,ps,?_,B,F.kp,hm⟩;obtain⟨oc,od,kV,doc,pm,an,cdv,ct,osl,rfl,lk,hcd⟩:=F.ex;refine b2x lk hcd S (fun vs H Q E ⟨A,ds,C,hA,l,e,q⟩=>?_) fun A outer s H vs Q E hr ⟨A',ds,C,hA,l,e,q⟩=>?_
 ·unfold runR at e;split at e
  ·rename_i hl;rw[<-g8 l,hl,hp]
  ·cases e
 ·unfold runR at e;split at e
  ·rename_i hl;refine⟨fun _ σ H1=>σ=start N vs/\H1=H,fun pins s1 σ H1 D I hq=>?_,rfl,rfl⟩;obtain⟨rfl,rfl⟩:=hq;exact zJ ((body cdv A outer s _ E hr).to pins s1 _ _ [] _ _ C I (a2V rfl hn hA l) e fun v s' T=>a8D T rfl rfl rfl fun x H' s'' ev sm G=>⟨C,x,H',ev,G,q v H' sm⟩) (fun _ _ z=>z.elim) fun _ _ z=>z
  ·cases e
end
def noL (ρ:Ev):Bool:=ρ.all fun o=>match o with
 | some (.l _)=>false
 | _=>true
section
variable {X:Cx}{P:List (D×V)}{O:Av}{L:List (Option Nat×Addr)}{ρ:Ev}{σ:L2.St}{H:Hp}
theorem Rep.noL (r:Rep X P O L ρ σ H)(h:noL ρ=true):L=[]:=by
 cases L with
 | nil=>rfl
 | cons p L=>
  obtain⟨i,a,hi⟩:∃(i:Nat) (a:Addr),(some i,a)∈p::L:=by
   obtain⟨o,b⟩:=p;cases o with
   | none=>exact r.gvl b zG
   | some i=>exact⟨i,b,zG⟩
  obtain⟨d,e,_⟩:=r.lnd i a hi;have z:=qX.mp h _ (qS e);cases z
theorem Rep.drop (r:Rep X P O L ρ σ H){i:Nat}(hf:freeSlot ρ i=true):Rep X P O L (ρ.set i none) (σ.set i none) H:=by
 have sub:∀b,AvO O (ρ.set i none) (σ.set i none) b->AvO O ρ σ b:=fun b z=>by
  rcases z with z|⟨j,w,c,e1,e2,e3⟩
  ·exact .inl z
  ·rcases B3 e1 with ⟨rfl,z,_⟩|⟨n,e1⟩
   ·cases z
   ·rw[zL (qA n)] at e3;exact .inr ⟨j,w,c,e1,e2,e3⟩
 have g:=L5 (H:=H) sub;have st:∀{j:Nat} {w:W},(ρ.set i none)[j]? =some (some w)->j≠i/\ρ[j]? =some (some w):=fun{j w} e1=>by
  rcases B3 e1 with ⟨rfl,z,_⟩|z
  ·cases z
  ·exact z
 refine⟨r.same,r.amb,by rw[jM,jM];exact r.len,fun j w e=>?_,fun j k w w' c c' b e1 e2 e3 e4 e5 e6=>?_,fun j c b e1 e2=>?_,fun j c e=>?_,fun j b e=>?_,fun p hp=>C6 g _ _ (r.prot p hp),r.gvl⟩
 ·obtain⟨n,e⟩:=st e;obtain⟨u,h1,h2⟩:=r.slot j w e;exact⟨u,by rw[zL (qA n)];exact h1,T4 g (fun _ _ _ _=>rfl) h2⟩
 ·obtain⟨n1,e1⟩:=st e1;obtain⟨n2,e4⟩:=st e4;rw[zL (qA n1)] at e3;rw[zL (qA n2)] at e6;exact r.inj j k w w' c c' b e1 e2 e3 e4 e5 e6
 ·obtain⟨n1,e1⟩:=st e1;rw[zL (qA n1)] at e2;exact r.new j c b e1 e2
 ·obtain⟨n1,e1⟩:=st e;rw[zL (qA n1)];exact r.lnt j c e1
 ·obtain⟨d,e1,e2⟩:=r.lnd j b e;have n:j≠i:=fun z=>by subst z;unfold freeSlot at hf;rw[e1] at hf;cases hf
  exact⟨d,by rw[zL (qA n)];exact e1,by rw[zL (qA n)];exact e2⟩
end
def fTry (i:Nat) (kc:Addr->Option Bool) (f:FX) (r:FRe) (G:FS):FS:=fun ρ=>match r ρ with
 | some (C,ρ1)=>if(noL ρ=true/\freeSlot ρ1 i=true)/\kc C=some true then(G (ρ1.set i (some (.v (.exn C))))).bind fun q=>match q with
   | .nx ρ'=>if freeSlot ρ' i=true then some (.nx (ρ'.set i none)) else none
   | _=>none
  else none
 | none=>(f ρ).map fun p=>.nx p.2
section
variable {prog:Program}{w:World}{A:Around}{E:Value->Shared->Prop}{K:PySem.W.Frag}{h:Heap}{g:Array GenState}{d:Drawn}{t:Nat}{os:OsState}{a C:Addr}{o:PySem.Obj}
theorem a4G {R:Result->Shared->Prop}{tp:Value}(X:K.In h)(hx:h.get? a=some o)(hc:o.cls= .ref C)(hm:PySem.W.mroIn K C (.type "object")=some true)(hq:R (.ok (.ret (.ref C))) ⟨h,g,d,t,os⟩):
  codeAny (model prog w) A (.call (.builtin "getset_descriptor.__get__") ⟨[.builtin "object.__class__",.ref a,tp],[]⟩) R ⟨h,g,d,t,os⟩:=by
 have L1:=PySem.W.looks_mroIn (M:=model prog w) X hm;have hT5:(⟨h,g,d,t,os⟩:Shared).TypeIs (.builtin "object.__class__") "getset_descriptor":=F.typeOf_object_class;have fo:=F.owner_object_class;refine codeAny_call_builtin F.slot_gs_get.plain F.entry_gs_get (F.slot_gs_get.check _ _ _ _ _ _ _ _ hT5 (F.args_gs_get _ _ _) ?_)
 repeat(any_goals(first|assumption|(with_reducible refine yD hx ?_;rw[hc])|(rw[fo];with_reducible refine L1.at ?_)|(with_reducible refine L1.at ?_)|wp_step))
 refine⟨Code.quiet_builtin _ (by decide +kernel),codeAny_builtin F.entry_object_class ?_⟩
 unfold Builtin.«object.__class__» shownTypeOf
 repeat(any_goals(first|assumption|(with_reducible refine yD hx ?_;rw[hc])|wp_step))
theorem a5z {M:Model}{nameV:Value}{Q:Unit->Shared->Prop}(X:K.In h)(hx:h.get? a=some o)(hc:o.cls= .ref C)(hm:PySem.W.mroIn K C (.type "BaseException")=some true)(hq:Q () ⟨h,g,d,t,os⟩):
  wpAny M A (checkBuiltinCall "BaseException.__getattribute__" ⟨[.ref a,nameV],[]⟩) Q E ⟨h,g,d,t,os⟩:=by
 have L1:=PySem.W.looks_mroIn (M:=M) X hm;have hk:builtinKind "BaseException.__getattribute__"=some .slot:=by decide +kernel
 have hsplit:splitId "BaseException.__getattribute__"=some ("BaseException","__getattribute__"):=by decide +kernel
 have ha:=F.args_bexc_ga (.ref a) nameV;simp only[checkBuiltinCall,hk,hsplit];refine zA ?_
 ·unfold isInstance
  repeat(first|(with_reducible refine yD hx ?_;rw[hc])|(with_reducible refine L1.at ?_)|wp_step)
  exact hq
theorem a3B {tk:Tok}{Q:Fin->Shared->Prop}(X:K.In h)(hx:h.get? a=some o)(hc:o.cls= .ref C)(hm:PySem.W.mroIn K C (.type "object")=some true)(hf:PySem.W.findIn K (.ref C) "__class__"=some (some (.builtin "object.__class__")))
  (hq:Q (.done (.ret (.ref C))) ⟨h,g,d,t,os⟩):wpAny (model prog w) A (Builtin.«object.__getattribute__» ⟨[.ref a,.str "__class__" tk],[]⟩) Q E ⟨h,g,d,t,os⟩:=by
 have L1:=PySem.W.looks_findIn (M:=model prog w) X hf;have hT5:(⟨h,g,d,t,os⟩:Shared).TypeIs (.builtin "object.__class__") "getset_descriptor":=F.typeOf_object_class;have f5:=F.typeOf_object_class;have f6:=F.slot_gs_get.lookup;have f7:=F.slot_gs_set.lookup
 repeat(any_goals(first|assumption|(with_reducible refine yD hx ?_;rw[hc])|(with_reducible refine L1.at ?_)|wp_step))
 refine a4G X hx hc hm ?_
 repeat(any_goals(first|assumption|wp_step))
theorem a5L {tk:Tok}{Q:Value->Shared->Prop}(X:K.In h)(hx:h.get? a=some o)(hc:o.cls= .ref C)(hm:PySem.W.mroIn K C (.type "object")=some true)(hb:PySem.W.mroIn K C (.type "BaseException")=some true)
  (hf:PySem.W.findIn K (.ref C) "__class__"=some (some (.builtin "object.__class__"))) (hga:PySem.W.findIn K (.ref C) "__getattribute__"=some (some (.builtin "BaseException.__getattribute__"))) (hna:PySem.W.findIn K (.ref C) "__getattr__"=some none)
  (hq:Q (.ref C) ⟨h,g,d,t,os⟩):wpAny (model prog w) A (getAttrBy (.ref a) (.str "__class__" tk) false) Q E ⟨h,g,d,t,os⟩:=by
 have L1:=PySem.W.looks_findIn (M:=model prog w) X hga;have L2:=PySem.W.looks_findIn (M:=model prog w) X hna;have FG:=PySem.F.attrBase_ValueError.ga;have f3:=FG.bind (.ref a);have hx2:(Value.builtin "BaseException.__getattribute__" == Value.builtin "object.__getattribute__")=false:=by decide +kernel
 have hx1:(onTheHeap (Value.ref C)&&Value.builtin "BaseException.__getattribute__" == Value.builtin "object.__getattribute__")=false:=by rw[hx2];rfl
 have hx0:(false&&onTheHeap (Value.builtin "BaseException.__getattribute__"))=false:=rfl
 repeat(any_goals(first|assumption|(with_reducible refine yD hx ?_;rw[hc])|(with_reducible refine L1.at ?_)|(with_reducible refine L2.at ?_)|wp_step))
 refine codeAny_call_builtin FG.plain F.entry_bexc_ga (a5z X hx hc hb (a3B X hx hc hm hf ?_))
 repeat(any_goals(first|assumption|wp_step))
theorem a3K {Q:Option Value->Shared->Prop}(X:K.In h)(hx:h.get? a=some o)(hc:o.cls= .ref C)(hm:PySem.W.mroIn K C (.type "object")=some true)(hb:PySem.W.mroIn K C (.type "BaseException")=some true)
  (hf:PySem.W.findIn K (.ref C) "__class__"=some (some (.builtin "object.__class__"))) (hga:PySem.W.findIn K (.ref C) "__getattribute__"=some (some (.builtin "BaseException.__getattribute__"))) (hna:PySem.W.findIn K (.ref C) "__getattr__"=some none)
  (hq:Q (some (.ref C)) ⟨h,g,d,t+1,os⟩):wpAny (model prog w) A (getAttr? (.ref a) "__class__") Q E ⟨h,g,d,t,os⟩:=by
 unfold getAttr? getAttrBy?
 repeat(any_goals(first|assumption|with_reducible apply a5L X hx hc hm hb hf hga hna|wp_step))
end
structure ExcC (K:PySem.W.Frag) (C:Addr):Prop where
 ob:PySem.W.mroIn K C (.type "object")=some true
 be:PySem.W.mroIn K C (.type "BaseException")=some true
 cl:PySem.W.findIn K (.ref C) "__class__"=some (some (.builtin "object.__class__"))
 ga:PySem.W.findIn K (.ref C) "__getattribute__"=some (some (.builtin "BaseException.__getattribute__"))
 na:PySem.W.findIn K (.ref C) "__getattr__"=some none
theorem a6h {K:PySem.W.Frag}{x C:Addr}(T:ExcC K C):PySem.W.KitX K (.ref x) (.ref C) (ExcAt x C):=by
 obtain⟨cdC,hcC,_⟩:=Option.bind_eq_some_iff.mp T.ob;unfold PySem.W.clsIn at hcC;split at hcC
 ·rename_i c' d' cd' sl' ho;refine⟨fun M h X ⟨o,vs,e1,e2,e3⟩=>e2▸(PySem.W.Looks.ld e1).andThen .now,fun M h X _=>?_,fun h tp dd its n sl X htp=>?_,fun{prog w A E Q s} X ⟨o,vs,e1,e2,e3⟩ hq=>?_⟩
  ·intro A' Q' E' s' k q;unfold isType loadHead;exact zA (wpAny_loadPart (k _ _ (X _ _ ho)) (zK q))
  ·refine Bool.eq_false_iff.mpr fun q=>?_;have e:C=tp:=Value.ref.inj (beq_iff_eq.mp q);subst e;have z:=(X _ _ ho).symm.trans htp;cases z
  ·obtain⟨h,g,d,t,os⟩:=s;exact a3K X e1 e2 T.ob T.be T.cl T.ga T.na hq
 ·cases hcC
def oIsX (kc:Addr->Option Bool):D->Option W
 | .exn C=>(kc C).map fun b=>.v (.bl b)
 | _=>none
section
variable {X:Cx}{e:Expr}{es:List Expr}{pos p p2:Pos}{f:FX}{x:Str}
theorem a7m {kc:Addr->Option Bool}{A:Av}{y:D}{w:W}{v:V}{H:Hp}(e:oIsX kc y=some w)(hx:DenR X.K A H y v):∃a C b,v= .ref a/\H a=some (.ext (ExcAt a C))/\kc C=some b/\w= .v (.bl b):=by
 cases y with
 | exn C=>
  simp only[oIsX] at e;obtain⟨b,e1,e2⟩:=oms e;have z:Den X.K A H (.exn C) v:=hx;rw[Den] at z;obtain⟨a,rfl,ha⟩:=z;exact⟨a,C,b,rfl,ha,e1,e2.symm⟩
 | _=>cases e
theorem a6K {kc:Addr->Option Bool}{v:V}{c:Value}(hT:∀C b,kc C=some b->ExcC X.K C)(hk:∀C b,kc C=some b->PySem.W.kitOne X.K (.ref C) c=some b)(hv:∀u,RelV v u->u=c):CallR X (.builtin "isinstance") (fun xs H Q=>∃a C b,xs=[.ref a,v]/\H a=some (.ext (ExcAt a C))/\kc C=some b/\Q (.bl b) H):=by
 intro pins s σ H xs us Q I r h;obtain⟨a,C,b,rfl,ha,hb',q⟩:=h;obtain⟨u,w',rfl,ru,rw'⟩:=vals2 r;obtain rfl:=hv w' rw';cases(show u=Value.ref a from ru);have ob:=I.hok a _ ha;exact jG (a6h (hT C b hb')) I.kIn ob.1 (hk C b hb') (fun z=>nomatch z) fun tk=>⟨.bl b,H,I.tok _,rfl,q⟩
theorem b3w {kc:Addr->Option Bool}{c:Addr}(hm:X.mg "isinstance"=none)(hx:X.mg x=some (.ref c))(hk:∀C b,kc C=some b->PySem.W.kitOne X.K (.ref C) (.ref c)=some b)(hT:∀C b,kc C=some b->ExcC X.K C)(ha:QX X e f)
  (hb:bootBuiltins "isinstance"=some (.builtin "isinstance"):=by rfl) (hg:Gl X "isinstance":=by rfl) (hgx:Gl X x:=by rfl) (hd:(x==("__debug__":Str))=false:=by decide)
  (he:starEach [e,.Name x p2] X.env=(false,eval e X.env)::starEach [.Name x p2] X.env:=by rfl) (hpl:(backTo pos (starEach [.Name x p2] X.env)).any (·.1)=false:=by rfl) (hs:starEach [.Name x p2] X.env=(false,eval (.Name x p2) X.env)::starEach [] X.env:=by rfl):
  QX X (.Call (.Name "isinstance" p) [e,.Name x p2] [] pos) (fUn (oIsX kc) f):=
 ⟨PE.weak (a1h (a6K (v:=.ref c) hT hk (fun u r=>r)) hg hm hb (Q8 ha.to (Q8 (a2D (v:=.ref c) hgx hx rfl hd) a2R hs) he) (by decide) (by decide) he hpl) fun σ H Q h=>
  a2s (r:=fun v H Q=>∃a C b,[v,V.ref c]=[.ref a,.ref c]/\H a=some (.ext (ExcAt a C))/\kc C=some b/\Q (.bl b) H) (fun A y w v H Q _ e hx q=>by
   obtain⟨a,C,b,rfl,ha,hb,rfl⟩:=a7m e hx
   exact⟨a,C,b,rfl,ha,hb,q _ H (Same.refl H) C5⟩) σ H Q h⟩
theorem b3n {kc:Addr->Option Bool}{T:String}(hm:X.mg "isinstance"=none)(hx:X.mg x=none)(hk:∀C b,kc C=some b->PySem.W.kitOne X.K (.ref C) (.type T)=some b)(hT:∀C b,kc C=some b->ExcC X.K C)(ha:QX X e f)
  (hbx:bootBuiltins x=some (.type T):=by rfl) (hb:bootBuiltins "isinstance"=some (.builtin "isinstance"):=by rfl) (hg:Gl X "isinstance":=by rfl) (hgx:Gl X x:=by rfl) (hn:x≠"__name__":=by decide) (hd:(x==("__debug__":Str))=false:=by decide)
  (he:starEach [e,.Name x p2] X.env=(false,eval e X.env)::starEach [.Name x p2] X.env:=by rfl) (hpl:(backTo pos (starEach [.Name x p2] X.env)).any (·.1)=false:=by rfl) (hs:starEach [.Name x p2] X.env=(false,eval (.Name x p2) X.env)::starEach [] X.env:=by rfl):
  QX X (.Call (.Name "isinstance" p) [e,.Name x p2] [] pos) (fUn (oIsX kc) f):=
 ⟨PE.weak (a1h (a6K (v:=.ty T) hT hk (fun u r=>r)) hg hm hb (Q8 ha.to (Q8 (a8f (v:=.ty T) hgx hx hbx rfl hn hd) a2R hs) he) (by decide) (by decide) he hpl) fun σ H Q h=>
  a2s (r:=fun v H Q=>∃a C b,[v,V.ty T]=[.ref a,.ty T]/\H a=some (.ext (ExcAt a C))/\kc C=some b/\Q (.bl b) H) (fun A y w v H Q _ e hx q=>by
   obtain⟨a,C,b,rfl,ha,hb,rfl⟩:=a7m e hx
   exact⟨a,C,b,rfl,ha,hb,q _ H (Same.refl H) C5⟩) σ H Q h⟩
inductive Cls (X:Cx):List Expr->List Addr->Prop where
 | nil:Cls X [] []
 | cons {x:Str} {p:Pos} {c:Addr} {es:List Expr} {cs:List Addr} (hx:X.mg x=some (.ref c)) (hg:Gl X x) (hd:(x==("__debug__":Str))=false) (h:Cls X es cs) (hs:starEach (.Name x p::es) X.env=(false,eval (.Name x p) X.env)::starEach es X.env):Cls X (.Name x p::es) (c::cs)
theorem b2O {cs:List Addr}(h:Cls X es cs):PA X es (fun σ H Q=>Q (cs.map V.ref) H):=by
 induction h with
 | nil=>exact PA.weak a2R fun σ H Q q=>q
 | @cons x p c es cs hx hg hd h hs ih=>exact PA.weak (Q8 (a2D (v:=.ref c) hg hx rfl hd) ih hs) fun σ H Q q=>q
theorem a6Y {kc:Addr->Option Bool}{cs:List Addr}{n:Nat}(hm:X.mg "isinstance"=none)(hcs:Cls X es cs)(hk:∀C b,kc C=some b->PySem.W.kitAny X.K (.ref C) (cs.map Value.ref)=some b)(hT:∀C b,kc C=some b->ExcC X.K C)(ha:QX X e f)(hl:cs.length<=sizeLine)
  (hb:bootBuiltins "isinstance"=some (.builtin "isinstance"):=by rfl) (hg:Gl X "isinstance":=by rfl)
  (he:starEach [e,.Tuple es n p2] X.env=(false,eval e X.env)::starEach [.Tuple es n p2] X.env:=by rfl) (hpl:(backTo pos (starEach [.Tuple es n p2] X.env)).any (·.1)=false:=by rfl) (hs:starEach [.Tuple es n p2] X.env=(false,eval (.Tuple es n p2) X.env)::starEach [] X.env:=by rfl):
  QX X (.Call (.Name "isinstance" p) [e,.Tuple es n p2] [] pos) (fUn (oIsX kc) f):=by
 have hc:CallR X (.builtin "isinstance") (fun xs H Q=>∃a C b t,xs=[.ref a,.ref t]/\H a=some (.ext (ExcAt a C))/\H t=some (.tup (cs.map V.ref))/\kc C=some b/\Q (.bl b) H):=by
  intro pins s σ H xs us Q I r h;obtain⟨a,C,b,t,rfl,ha,ht,hb',q⟩:=h;obtain⟨u,w',rfl,ru,rw'⟩:=vals2 r;cases(show w'=Value.ref t from rw');cases(show u=Value.ref a from ru);have ob:=I.hok a _ ha;obtain⟨hz,its,rel,⟨o,ho,hcl,⟨n',hd'⟩,hdn⟩⟩:=(show ObjOk X.prog X.w H s.heap t (.tup (cs.map V.ref)) from I.hok t _ ht);have ei:its=cs.map Value.ref:=by
   clear hz hk hcs ho hd' ht hl hdn hcl
   induction cs generalizing its with
   | nil=>cases rel;rfl
   | cons c cs ih=>
    rw[zR] at rel;cases rel with
    | cons r1 r2=>rw[zR,ih _ r2];cases(show _=Value.ref c from r1);rfl
  subst ei;obtain⟨ocl,odi,oda,osl⟩:=o;dsimp only at hcl hd' hdn;subst hcl hd' hdn;exact PySem.W.kia_tup (a6h (hT C b hb')) I.kIn ob.1 ho (hk C b hb') (fun z=>nomatch z) fun tk=>⟨.bl b,H,I.tok _,rfl,q⟩
 refine⟨PE.weak (a1h hc hg hm hb (Q8 ha.to (Q8 (b0I (b2O hcs)) a2R hs) he) (by decide) (by decide) he hpl) fun σ H Q h=>?_⟩
 exact a2s (r:=fun v H Q=>(cs.map V.ref).length<=sizeLine/\∀p,H p=none->∃a C b t,[v,V.ref p]=[.ref a,.ref t]/\(upd H p (.tup (cs.map V.ref))) a=some (.ext (ExcAt a C))/\(upd H p (.tup (cs.map V.ref))) t=some (.tup (cs.map V.ref))/\kc C=some b/\Q (.bl b) (upd H p (.tup (cs.map V.ref)))) (fun A y w v H Q _ e hx q=>by
  obtain⟨a,C,b,rfl,ha,hb,rfl⟩:=a7m e hx
  exact⟨by rw[zD];exact hl,fun t ht=>⟨a,C,b,t,rfl,by rw[k8 (B4 ha ht)];exact ha,C3,hb,q _ _ (A4 ht _) C5⟩⟩) σ H Q h
end
section
variable {p:Pos}{fa:FA}
def ezD (xs ys:List D):List D:=enumD (zipD xs ys)
def fiEnumZ (fa:FA):FI:=fun ρ=>(fa ρ).bind fun p=>(takeAll p.2 p.1).bind fun q=>match q.1 with
 | [x,y]=>(items x).bind fun xs=>(items y).map fun ys=>(ezD xs ys,q.2)
 | _=>none
end
section
variable {f:FX}{fa:FA}{r:FRe}{G:FS}{ρ ρ1:Ev}{kc:Addr->Option Bool}{C:Addr}{i:Nat}{xs ys:List D}{d:D}{b:Bool}
def ez1:Option (List D×Ev)->Option (List D×Ev)
 | some p=>some (enumD p.1,p.2)
 | none=>none
theorem r_ez:fiEnumZ fa ρ=ez1 (fiZip fa ρ):=by
 unfold fiEnumZ fiZip;cases fa ρ with
 | none=>rfl
 | some p=>
  simp only[bind_some];cases takeAll p.2 p.1 with
  | none=>rfl
  | some q=>
   obtain⟨ds,ρ2⟩:=q;simp only[bind_some]
   match ds with
   | []=>rfl
   | [x]=>rfl
   | [x,y]=>dsimp only;cases items x<;>cases items y<;>rfl
   | _::_::_::_=>rfl
theorem r_ez1:ez1 (some (zipD xs ys,ρ))=some (ezD xs ys,ρ):=rfl
def try3 (i:Nat):Option R->Option R
 | some (.nx ρ)=>if freeSlot ρ i=true then some (.nx (ρ.set i none)) else none
 | _=>none
def try1 (i:Nat) (kc:Addr->Option Bool) (f:FX) (G:FS) (ρ:Ev):Option (Addr×Ev)->Option R
 | some (C,ρ1)=>if(noL ρ=true/\freeSlot ρ1 i=true)/\kc C=some true then try3 i (G (ρ1.set i (some (.v (.exn C))))) else none
 | none=>(f ρ).map fun p=>.nx p.2
theorem r_try:fTry i kc f r G ρ=try1 i kc f G ρ (r ρ):=by
 unfold fTry try1;cases r ρ with
 | none=>rfl
 | some p=>
  obtain⟨C,ρ1⟩:=p;dsimp only
  split
  ·cases G (ρ1.set i (some (.v (.exn C)))) with
   | none=>rfl
   | some q=>cases q<;>rfl
  ·rfl
theorem r_try1:try1 i kc f G ρ (some (C,ρ1))=if(noL ρ=true/\freeSlot ρ1 i=true)/\kc C=some true then try3 i (G (ρ1.set i (some (.v (.exn C))))) else none:=rfl
theorem r_try3:try3 i (some (.nx ρ))=if freeSlot ρ i=true then some (.nx (ρ.set i none)) else none:=rfl
theorem b3o:noL []=true:=rfl
theorem nl_v:noL (some (.v d)::ρ)=noL ρ:=rfl
theorem nl_o:noL (some (.o d)::ρ)=noL ρ:=rfl
theorem nl_n:noL (none::ρ)=noL ρ:=rfl
def isx1:Option Bool->Option W
 | some b=>some (.v (.bl b))
 | none=>none
theorem r_isx:oIsX kc (.exn C)=isx1 (kc C):=by unfold oIsX isx1;dsimp only;cases kc C<;>rfl
theorem b3C:isx1 (some b)=some (.v (.bl b)):=rfl
def fRC1 (gx:List D->Option Addr):Option (List W×Ev)->Option (Addr×Ev)
 | some p=>(drs p.2 p.1).bind fun ds=>(gx ds).map fun C=>(C,p.2)
 | none=>none
def fRC2 (gx:List D->Option Addr) (ρ:Ev):Option (List D)->Option (Addr×Ev)
 | some ds=>(gx ds).map fun C=>(C,ρ)
 | none=>none
def fRC3 (ρ:Ev):Option Addr->Option (Addr×Ev)
 | some C=>some (C,ρ)
 | none=>none
variable {gx:List D->Option Addr}{ws:List W}{ds:List D}
theorem r_rc:fRCall gx fa ρ=fRC1 gx (fa ρ):=by unfold fRCall fRC1;cases fa ρ<;>rfl
theorem r_rc1:fRC1 gx (some (ws,ρ))=fRC2 gx ρ (drs ρ ws):=by unfold fRC1 fRC2;dsimp only;cases drs ρ ws<;>rfl
theorem r_rc2:fRC2 gx ρ (some ds)=fRC3 ρ (gx ds):=by unfold fRC2 fRC3;dsimp only;cases gx ds<;>rfl
theorem r_rc3:fRC3 ρ (some C)=some (C,ρ):=rfl
def kcF (c:Addr) (b:Bool):Addr->Option Bool:=fun C=>if C=c then some b else none
theorem b0K {c:Addr}:kcF c b c=some b:=if_pos rfl
theorem a7j {c:Addr}{p:Addr->Bool->Prop}(h:p c b):∀C b',kcF c b C=some b'->p C b':=fun C b' e=>by
 unfold kcF at e;split at e
 ·rename_i z;cases e;rw[z];exact h
 ·cases e
end
structure PRt (X:Cx) (st:Stmt) (r:FRe):Prop where
 to:∀(pins:List (Addr×PySem.Obj)) (s:Shared) (σ:L2.St) (H:Hp) (P:List (D×V)) (O:Av) (ρ ρ':Ev) (C:Addr),Inv X pins σ H s->Rep X P O [] ρ σ H->r ρ=some (C,ρ')->
  wpAny (model X.prog X.w) X.A (exec st X.env) (fun _ _=>False) (fun v s'=>∃x H1 s1 H',v= .ref x/\Inv X pins σ H1 s1/\Rep X P O [] ρ' σ H1/\Same H1 H'/\Fly X.prog X.w X.stack H1 s1 C x H' s') s
def fTryS (i:Nat) (kc:Addr->Option Bool) (F:FS) (r:FRe) (G:FS):FS:=fun ρ=>match r ρ with
 | some (C,ρ1)=>if(noL ρ=true/\freeSlot ρ1 i=true)/\kc C=some true then(G (ρ1.set i (some (.v (.exn C))))).bind fun q=>match q with
   | .nx ρ'=>if freeSlot ρ' i=true then some (.nx (ρ'.set i none)) else none
   | .rt w ρ'=>some (.rt w ρ')
   | _=>none
  else none
 | none=>match F ρ with
  | some (.nx ρ')=>some (.nx ρ')
  | _=>none
section
variable {X:Cx}{e c:Expr}{x:Str}{np hp pos:Pos}{st:Stmt}{F:FS}{r r1:FRe}{G:FS}{T n:Str}{CT:Addr}{b₀:Stmt}{suite:List Stmt}
theorem b1C (i:Nat){kc:Addr->Option Bool}(hN:X.N.Nodup)(hT:X.mg T=some (.ref CT))(hk:∀C b,kc C=some b->PySem.W.exmOne X.K (.ref C) (.ref CT)=some b)(hn:QS X st F)(hr:PRt X st r)(hG:∀v,QSs (inx X v) (b₀::suite) G)
  (hi:X.N[i]? =some n:=by rfl) (hl:X.env.kindOf n=some .local:=by rfl) (hg:Gl X T:=by rfl) (hdb:(T==("__debug__":Str))=false:=by decide)
  (hst:X.stack=X.env::X.outer:=by rfl) (hf:X.env.frame=some X.env.locals:=by rfl) (hex:X.ex=[]:=by rfl) (hxe:X.xe=fun _ _=>False:=by rfl):
  QS X (.Try [st] [.ExceptHandler (some (.Name T np)) (some n) (b₀::suite) hp] [] [] pos) (fTryS i kc F r G):=by
 refine⟨fun pins s σ H D I ⟨P,O,L,ρ,res,rp,he,q⟩=>?_⟩;unfold fTryS at he;cases e1:r ρ with
 | none=>
  rw[e1] at he;dsimp only at he;cases e2:F ρ with
  | none=>rw[e2] at he;cases he
  | some pp=>
   rw[e2] at he;cases pp with
   | bk _=>cases he
   | ct _=>cases he
   | rt _ _=>cases he
   | nx ρ'=>
    cases he;refine wpAny_Try_except (xO ?_);have h:=hn.to pins s σ H {nx:=fun σ' H1=>Rep X P O L ρ' σ' H1,rt:=fun _ _=>False} I ⟨P,O,L,ρ,.nx ρ',rp,e2,fun σ' H1 r1=>r1⟩;refine zJ h (fun fl s1 hq=>?_) fun v s1 z=>?_
    ·cases fl with
     | next=>obtain⟨σ',H1,I1,r1⟩:=hq;exact xU (xU ⟨σ',H1,I1,q σ' H1 r1⟩)
     | ret v=>obtain⟨_,_,_,_,_,z⟩:=hq;exact z.elim
     | brk=>obtain⟨_,_,_,z⟩:=hq;exact z.elim
     | cont=>obtain⟨_,_,_,z⟩:=hq;exact z.elim
    ·rw[hxe] at z;exact z.elim
 | some cc=>
  obtain⟨C,ρ1⟩:=cc;rw[e1] at he;dsimp only at he;split at he
  ·rename_i hkc;obtain⟨⟨hnl,hfs⟩,hkc⟩:=hkc;obtain rfl:=rp.noL hnl;cases e2:G (ρ1.set i (some (.v (.exn C)))) with
   | none=>rw[e2] at he;cases he
   | some qq=>
    rw[e2] at he;simp only[bind_some] at he;have fr:X.A.frames=some (X.env::X.outer):=by rw[I.ok.frames,hst]
    refine wpAny_Try_except (xO (zJ (hr.to pins s σ H P O ρ ρ1 C I rp e1) (fun _ _ z=>z.elim) fun v s' hv=>?_));obtain⟨x,H1,s1,H',rfl,I1,rp1,sm2,F⟩:=hv;have I':=F.inv I1;obtain⟨B,a0,hfl,hB⟩:=F.fly;rw[hst] at hfl;refine wpAny_looks_onW fr hf hfl fun h4 held4 sm4=>?_;refine wpAny_landsW held4 fun h5 hfl5 sm5=>?_;have I5:=a6i I1 I' hst hf hex hB hfl5.1 (sm4.trans sm5);obtain⟨ob,hob,hobc⟩:=hfl.there;obtain⟨oe,ws,hoe,_,hoed,_⟩:=hfl.first;have nB:B.get? x=none:=hfl.2.1;have xs:x∉frs X.stack:=fun z=>by
     obtain⟨o',e',nf⟩:=(I'.stack.mem z).2;rw[hoe] at e';cases e';exact nf _ hoed
    have notin:∀b o,s1.heap.get? b=some o->b∉frs X.stack->b≠x:=fun b o e0 hb z=>by
     subst z
     have:=hB b oe hoe hb (.inl ⟨o,e0⟩)
     rw[nB] at this;cases this
    have xH:H' x=none:=by
     cases z:H' x with
     | none=>rfl
     | some u=>
      have:=hB x oe hoe xs (.inr (by rw[z];exact fun y=>nomatch y))
      rw[nB] at this;cases this
    have xL:x≠X.env.locals:=fun z=>xs (by rw[z,hst];unfold frs;rw[jQ,hf];exact zG)
    have x0:X.s₀.heap.get? x=none:=by
     cases z:X.s₀.heap.get? x with
     | none=>rfl
     | some o=>
      obtain⟨o',e'⟩:=I1.base.there x o z (fun y=>by rw[hex] at y;cases y)
      exact absurd rfl (notin x o' e' xs)
    have xC:∀y c,X.env.cells.lookup y=some c->c≠x:=fun y c ec z=>by
     obtain⟨v,o,ho,hd⟩:=I'.cell y c ec;rw[z,hoe] at ho;cases ho;rw[hoed] at hd;cases hd
    have xP:∀p∈X.pn++pins,p.1≠x:=fun p hp=>by
     obtain⟨e0,_,ne,nf,_⟩:=I1.pin p hp;exact notin p.1 p.2 e0 (fun z=>(zT.mp (I1.stkSub p.1 z)).elim ne nf)
    refine wpAny_handleBy_cons (codeAny_handlers_test ?_) (by intro z;cases z)
    refine W1 (X:=inx X (.ref x)) (a5u I5) hg hT ?_ hdb;obtain⟨ob5,hob5,hobc5⟩:=hfl5.there;have LT:PySem.W.Looks (model X.prog X.w) h5 (typeOf (.ref x)) (.ref C):=hobc5▸(PySem.W.Looks.ld hob5).andThen .now;refine(PySem.W.exm_one (K:=X.K) I5.kIn LT (hk C true hkc)) _ _ _ _ (fun _ _ z=>z) ?_;refine codeAny_handlers_suite_as ?_;refine lands_againW hfl5 fun h6 hfl6 sm6=>?_;have I6:=a6i I1 I' hst hf hex hB hfl6.1 (sm4.trans (sm5.trans sm6));obtain⟨oe6,ws6,hoe6,hoec6,hoed6,_⟩:=hfl6.first;have I7:=a81 (C:=C) I6 xH x0 xL xC xP ⟨oe6,ws6,hoe6,hoec6,hoed6⟩;refine a0O (v:=.ref x) I7 hN hi (.inl hl) rfl (fun s8 I8=>?_) (.inr hl);have rp8:=(rp1.grow (sm2.trans (A4 xH _))).put (i:=i) (d:=.exn C) (v:=.ref x) hfs (by rw[Den];exact⟨x,rfl,C3⟩)
    cases qq with
    | bk _=>cases he
    | ct _=>cases he
    | rt w ρ'=>
     cases he;have h9:=(hG (.ref x)).to pins s8 _ _ {nx:=fun _ _=>False,rt:=fun v H=>(∀b o,X.H₀ b=some o->H b=some o)/\DenW X.K (A0 O []) [] X.H₀ H w v} (a5u I8) ⟨P,O,[],_,.rt w ρ',a79 rp8,e2,fun v H h1 h2 h3=>⟨fun b o e=>h1 b o e (fun i z=>nomatch z),h3⟩⟩;refine zJ h9 (fun fl s9 hq=>?_) fun _ _ z=>z.elim;cases fl with
     | next=>obtain⟨_,_,_,z⟩:=hq;exact z.elim
     | brk=>obtain⟨_,_,_,z⟩:=hq;exact z.elim
     | cont=>obtain⟨_,_,_,z⟩:=hq;exact z.elim
     | ret v=>
      obtain⟨u9,σ9,H9,I9,rv9,hk9,hd9⟩:=hq;have I9':=a9N I.ok I9;obtain⟨m,hnm,hlk⟩:=id I9'.loc;refine wpAny_nameGoes_keeps hl hnm (by rw[I.ok.kind];rfl) fun h10 u hn10 hs10=>?_
      exact⟨u9,_,H9,a6v I9' hN hi hlk hn10 hs10,rv9,q _ H9 (fun b o e _=>hk9 b o e) (fun i b z=>nomatch z) hd9⟩
    | nx ρ'=>
     simp only at he;split at he
     case isFalse=>cases he
     case isTrue hfr=>
     cases he;have h9:=(hG (.ref x)).to pins s8 _ _ {nx:=fun σ' H''=>Rep X P O [] ρ' σ' H'',rt:=fun _ _=>False} (a5u I8) ⟨P,O,[],_,.nx ρ',a79 rp8,e2,fun σ' H'' rp'=>b4l rp'⟩;refine zJ h9 (fun fl s9 hq=>?_) fun _ _ z=>z.elim;cases fl with
     | ret v=>obtain⟨_,_,_,_,_,z⟩:=hq;exact z.elim
     | brk=>obtain⟨_,_,_,z⟩:=hq;exact z.elim
     | cont=>obtain⟨_,_,_,z⟩:=hq;exact z.elim
     | next=>
      obtain⟨σ9,H9,I9,rp9⟩:=hq;have I9':=a9N I.ok I9;obtain⟨m,hnm,hlk⟩:=id I9'.loc;refine wpAny_nameGoes_keeps hl hnm (by rw[I.ok.kind];rfl) fun h10 u hn10 hs10=>?_
      exact⟨_,H9,a6v I9' hN hi hlk hn10 hs10,q _ H9 (rp9.drop hfr)⟩
  ·cases he
end
section
variable {r:FRe}{F G:FS}{ρ ρ1:Ev}{kc:Addr->Option Bool}{C:Addr}{i:Nat}{w:W}
def tryS3 (i:Nat):Option R->Option R
 | some (.nx ρ)=>if freeSlot ρ i=true then some (.nx (ρ.set i none)) else none
 | some (.rt w ρ)=>some (.rt w ρ)
 | _=>none
def tryS0:Option R->Option R
 | some (.nx ρ)=>some (.nx ρ)
 | _=>none
def tryS1 (i:Nat) (kc:Addr->Option Bool) (F:FS) (G:FS) (ρ:Ev):Option (Addr×Ev)->Option R
 | some (C,ρ1)=>if(noL ρ=true/\freeSlot ρ1 i=true)/\kc C=some true then tryS3 i (G (ρ1.set i (some (.v (.exn C))))) else none
 | none=>tryS0 (F ρ)
theorem a7C:fTryS i kc F r G ρ=tryS1 i kc F G ρ (r ρ):=by
 unfold fTryS tryS1;cases r ρ with
 | none=>
  dsimp only;cases F ρ with
  | none=>rfl
  | some q=>cases q<;>rfl
 | some p=>
  obtain⟨C,ρ1⟩:=p;dsimp only
  split
  ·cases G (ρ1.set i (some (.v (.exn C)))) with
   | none=>rfl
   | some q=>cases q<;>rfl
  ·rfl
theorem a7P:tryS1 i kc F G ρ (some (C,ρ1))=if(noL ρ=true/\freeSlot ρ1 i=true)/\kc C=some true then tryS3 i (G (ρ1.set i (some (.v (.exn C))))) else none:=rfl
theorem a9Z:tryS1 i kc F G ρ none=tryS0 (F ρ):=rfl
theorem b1q:tryS0 (some (.nx ρ))=some (.nx ρ):=rfl
theorem r_rc4:fRC3 ρ none=none:=rfl
end
abbrev FP:=Ev->Option W
section
variable {X:Cx}
theorem a2z:∀{ns:List Int} {its:List Value},Vals (ns.map V.int) its->IntsAre its ns
 | [],_,r=>by cases r;exact .nil
 | n::ns,_,r=>by
  cases r with
  | cons r1 r2=>obtain⟨t,rfl⟩:=r1;exact .cons n t (a2z r2)
theorem a8H (hc:X.calm=true):CallR X (.builtin "max") (fun xs H Q=>∃(p:Addr) (ns:List Int),xs=[.ref p]/\SqL X.K H p (ns.map V.int)/\0<ns.length/\∀M,M∈ns->(∀a∈ns,a<=M)->Q (.int M) H):=by
 intro pins s σ H xs us Q I r h;obtain⟨p,ns,rfl,hq,hne,q⟩:=h;obtain⟨u,rfl,ru⟩:=vals1 r;cases ru;obtain⟨its,rv,⟨o,m,h1,h2,_,h4⟩,hz⟩:=I.list hq;have hl:s.heap.IsList p its.toArray:=⟨o,h1,h2,m,h4⟩;have hi:=a2z rv;obtain⟨xs,e⟩:=hi.allInts.items;have hns:ns=xs.toList.map (·.1):=by
  rw[<-hi.numsOf,<-nums_intItems,<-e]
 have hsz:0<xs.size:=by
  have h3:=hne;rw[hns,zD,jB] at h3;exact h3
 rw[e] at hl;refine max_intList (I.ok.hd hc) hl hsz fun v h' tk hv hk=>?_;obtain⟨t,rfl⟩:=intItems_at hv;obtain⟨h1,h2⟩:=argBest_gt (numAt xs) (xs.size-1);refine⟨.int _,H,I.kept (t':=tk) fun b ob e=>hk b ob e,⟨t,rfl⟩,q _ ?_ fun a ha=>?_⟩
 ·rw[hns,numAt_eq];exact getD_mem (by rw[zD,jB];walk_at "o")
 ·rw[hns] at ha;obtain⟨j,hj,rfl⟩:=mem_getD ha;rw[zD,jB] at hj;rw[<-numAt_eq];exact h2 j (by walk_at "o")
def maxI:List Int->Int
 | []=>0
 | a::r=>r.foldl (fun m x=>if x>m then x else m) a
theorem a5n:∀(r:List Int) (a:Int),(r.foldl (fun m x=>if x>m then x else m) a=a\/r.foldl (fun m x=>if x>m then x else m) a∈r)/\a<=r.foldl (fun m x=>if x>m then x else m) a/\∀x∈r,x<=r.foldl (fun m x=>if x>m then x else m) a
 | [],a=>⟨.inl rfl,Int.le_refl _,fun x h=>by cases h⟩
 | b::r,a=>by
  rw[List.foldl_cons];obtain⟨h1,h2,h3⟩:=a5n r (if b>a then b else a);have e1:a<=(if b>a then b else a)/\b<=(if b>a then b else a):=by split<;>walk_at "o"
  refine⟨?_,by walk_at "o",fun x hx=>?_⟩
  ·rcases h1 with h1|h1
   ·by_cases h:b>a
    ·rw[if_pos h] at h1 ⊢;right;rw[h1];exact zG
    ·rw[if_neg h] at h1 ⊢;exact .inl h1
   ·exact .inr (zH _ h1)
  ·rcases zT.mp hx with rfl|hx
   ·walk_at "o"
   ·exact h3 x hx
theorem b1O {ns:List Int}{M:Int}(h:M∈ns)(hm:∀a∈ns,a<=M):M=maxI ns:=by
 cases ns with
 | nil=>cases h
 | cons a r=>
  obtain⟨h1,h2,h3⟩:=a5n r a;have u1:M<=maxI (a::r):=by
   rcases zT.mp h with rfl|h
   ·exact h2
   ·exact h3 M h
  have u2:maxI (a::r)<=M:=by
   rcases h1 with h1|h1
   ·show r.foldl _ a<=M;rw[h1];exact hm a zG
   ·exact hm _ (zH _ h1)
  walk_at "o"
def gMaxL:D->Option W
 | .lst xs=>(intsOf xs).bind fun ns=>if 0<ns.length then some (.v (.int (maxI ns))) else none
 | _=>none
theorem b2n:PrA X (k1 gMaxL) (fun xs H Q=>∃(p:Addr) (ns:List Int),xs=[.ref p]/\SqL X.K H p (ns.map V.int)/\0<ns.length/\∀M,M∈ns->(∀a∈ns,a<=M)->Q (.int M) H):=pr1 fun A d w v H Q e h q=>by
 cases d with
 | lst xs=>
  simp only[gMaxL] at e;obtain⟨ns,e1,e⟩:=obs e;split at e
  ·rename_i hl;cases e;obtain⟨a,vs,rfl,hq,l⟩:=h;rw[T5 e1] at l;rw[K6 l] at hq;refine⟨a,ns,rfl,hq,hl,fun M h1 h2=>?_⟩;rw[b1O h1 h2];exact q _ H (Same.refl H) K9
  ·cases e
 | _=>cases e
end
theorem b0g {X:Cx}{a b c:Expr}{f g h:FX}{pos:Pos}{op op':CmpOp}{r r':R2}{o o':D->D->Option W}(ho:OpR X (compareOp op) r)(ho':OpR X (compareOp op') r')(k:Pr2 X o r)(k':Pr2 X o' r')(ha:QX X a f)(hb:QX X b g)(hc:QX X c h)(hm:lastMarks [op,op'] [b,c]=false):QT X (.Compare a [op,op'] [b,c] pos) (fTest (fChain o o' f g h)):=by
 refine⟨PT.weak (a99 ho ho' ha.to hb.to hc.to hm) fun σ H Q h0=>tTe h0 fun P O L ρ t ρ' r e q=>?_⟩;refine a1J k k' σ H _ ⟨P,O,L,ρ,_,ρ',r,a0l e,fun v H1 H' r1 s1 d1=>⟨t,?_,q H' (r1.grow s1)⟩⟩;have d1':Den X.K (AvO O ρ' σ) H' (.bl t) v:=d1;exact a2E.mp d1'
theorem a6a {X:Cx}{a b c:Expr}{f g h:FX}{pos:Pos}(ha:QX X a f)(hb:QX X b g)(hc:QX X c h)(hm:lastMarks [.LtE,.LtE] [b,c]=false:=by with_unfolding_all rfl):QT X (.Compare a [.LtE,.LtE] [b,c] pos) (fTest (fChain oLe oLe f g h)):=b0g a5a a5a kB0 kB0 ha hb hc hm
section
variable {X:Cx}{a b e:Expr}{pos:Pos}{f g:FX}
def oAddS:D->D->Option W
 | .str x,.str y=>if x.length+y.length<=lim then some (.v (.str (x++y))) else none
 | _,_=>none
theorem B7 (ha:QX X a f)(hb:QX X b g):QX X (.BinOp a .Add b pos) (fBin oAddS f g):=a0C a7p (by
 intro A x y w v u H Q _ e hx hy q;cases x<;>cases y<;>simp only[oAddS] at e<;>try cases e
 rename_i i j;split at e
 ·rename_i hl;cases e;exact⟨i,j,B6 hx,B6 hy,zO hl B5,q _ H (Same.refl H) N5⟩
 ·cases e) ha hb
def inS (i j:Str):Bool:=!(Builtin.Str.occurrences j i 0 j.length 1).isEmpty
def oInS (n:Bool):D->D->Option W
 | .str i,.str j=>some (.v (.bl (if n then !inS i j else inS i j)))
 | _,_=>none
theorem kInS:Pr2 X (oInS false) (fun x y H Q=>∃i j,x= .str i/\y= .str j/\Q (.bl (!(Builtin.Str.occurrences j i 0 j.length 1).isEmpty)) H):=by
 intro A x y w v u H Q _ e hx hy q;cases x<;>cases y<;>simp only[oInS] at e<;>cases e
 rename_i i j;exact⟨i,j,B6 hx,B6 hy,q _ H (Same.refl H) C5⟩
theorem kNotInS:Pr2 X (oInS true) (fun x y H Q=>∃i j,x= .str i/\y= .str j/\Q (.bl (!(!(Builtin.Str.occurrences j i 0 j.length 1).isEmpty))) H):=by
 intro A x y w v u H Q _ e hx hy q;cases x<;>cases y<;>simp only[oInS] at e<;>cases e
 rename_i i j;exact⟨i,j,B6 hx,B6 hy,q _ H (Same.refl H) C5⟩
theorem b3K (ha:QX X a f)(hb:QX X b g)(hm:behindInMarks .In b=false:=by first|exact nomark _|rfl):QX X (.Compare a [.In] [b] pos) (fBin (oInS false) f g):=a2L a8W kInS ha hb hm
theorem a88 (ha:QX X a f)(hb:QX X b g)(hm:behindInMarks .NotIn b=false:=by first|exact nomark _|rfl):QT X (.Compare a [.NotIn] [b] pos) (fTest (fBin (oInS true) f g)):=X1 a5E kNotInS ha hb hm
def gLenG:D->Option W
 | .str x=>if x.length<=lim then some (.v (.int x.length)) else none
 | d=>gLen d
theorem t7:CallR X (.builtin "len") (fun xs H Q=>(∃p ys,xs=[.ref p]/\(SqL X.K H p ys\/SqT X.K H p ys)/\Q (.int ys.length) H)\/∃z,xs=[.str z]/\z.length<=sizeLine/\Q (.int z.length) H):=a5x.or a5t
theorem A9:PrA X (k1 gLenG) (fun xs H Q=>(∃p ys,xs=[.ref p]/\(SqL X.K H p ys\/SqT X.K H p ys)/\Q (.int ys.length) H)\/∃z,xs=[.str z]/\z.length<=sizeLine/\Q (.int z.length) H):=fun A ds w vs H Q hA e l q=>by
 match ds,e,l with
 | [d],e,l=>
  have e:gLenG d=some w:=e;cases d with
  | str x=>
   obtain⟨v,rfl,h⟩:=denRL1 l;simp only[gLenG] at e;split at e
   ·rename_i hl;cases e;exact .inr ⟨x,by rw[B6 h],zO hl B5,q _ H (Same.refl H) K9⟩
   ·cases e
  | _=>exact .inl (b3i A [_] w vs H Q hA e l q)
def GlS (mg:Str->Option Value) (x:Str) (i:Str):Prop:=∃t,mg x=some (.str i t)
theorem a4D {x i:Str}(hm:GlS X.mg x i)(hg:Gl X x:=by rfl)(hd:(x==("__debug__":Str))=false:=by decide):QX X (.Name x pos) (fC (.str i)):=by
 obtain⟨t,hm⟩:=hm;exact⟨PE.weak (a2D (v:=.str i) hg hm ⟨t,rfl⟩ hd) (a3l fun A H=>by rw[Den])⟩
end
section
variable {X:Cx}{o e:Expr}{es:List Expr}{apos pos:Pos}{f:FX}{fa:FA}
def fMeth (op:Str->List D->Option W) (f:FX) (fa:FA):FX:=fun ρ=>(f ρ).bind fun p=>match p.1 with
 | .v (.str x)=>(fa p.2).bind fun q=>(drs q.2 q.1).bind fun ds=>(op x ds).map fun w=>(w,q.2)
 | _=>none
def PrMt (X:Cx) (op:Str->List D->Option W) (r:V->List V->Hp->VK->Prop):Prop:=∀(A:Av) (x:Str) (ds:List D) (w:W) (vs:List V) (H:Hp) (Q:VK),(∀b,A b->∃o,H b=some o)->op x ds=some w->DenRL X.K A H ds vs->(∀z H',Same H H'->DenW X.K A [] H H' w z->Q z H')->r (.str x) vs H Q
theorem a8p {op:Str->List D->Option W}{r:V->List V->Hp->VK->Prop}(k:PrMt X op r):∀σ H Q,tX X (fMeth op f fa) σ H Q->tBM X.K "str" r (tX X f) (tA X fa) σ H Q:=fun σ H Q h0=>tXe h0 fun P O L ρ w ρ' rp e q=>by
 unfold fMeth at e;obtain⟨⟨w1,ρ1⟩,e1,e⟩:=obs e;dsimp only at e;split at e
 ·rename_i x;refine⟨P,O,L,ρ,_,ρ1,rp,e1,fun v H1 H1' r1 s1 d1=>?_⟩;have d1:Den X.K (AvO O ρ1 σ) H1' (.str x) v:=d1;have ev:=V8.mp d1;subst ev;refine⟨rfl,?_⟩;obtain⟨⟨ws,ρ2⟩,e2,e⟩:=obs e;dsimp only at e;refine⟨P,O,L,ρ1,ws,ρ2,r1.grow s1,e2,fun vs H2 r2 l2=>?_⟩;cases e3:drs ρ2 ws with
  | none=>rw[e3] at e;cases e
  | some ds=>
   rw[e3] at e;simp only[bind_some] at e;cases e4:op x ds with
   | none=>rw[e4] at e;cases e
   | some w'=>
    rw[e4] at e;cases e;exact k _ x ds w vs H2 Q (fun b z=>r2.there z) e4 (a58 r2 e3 l2) fun z H' s d=>q z H2 H' r2 s d.st
 ·cases e
theorem a2B {id:String}{m:Str}{op:Str->List D->Option W}{r:V->List V->Hp->VK->Prop}(hs0:Slot "str" m id)(ht0:typeOf (.builtin id)=pure (.type "method_descriptor"))(hm:MtR X id r)(hk:PrMt X op r)
  (ho:QX X o f) (ha:QA X (e::es) fa) (hbase:attributeBase o m X.env (eval o X.env)=eval o X.env)
  (hfew:((backTo pos (starEach (e::es) X.env)).all (fun x=>!x.1)&&(backToKw pos (keywordEach [] X.env)).all (fun x=>x.1.isSome)&&decide ((e::es).length+([]:List Keyword).length+(if([]:List Keyword).isEmpty then 0 else 1)<30))=true)
  (hline:(apos.endLine==pos.line)=true) (hs:starEach (e::es) X.env=(false,eval e X.env)::starEach es X.env) (hpl:(backTo pos (starEach es X.env)).any (·.1)=false):QX X (.Call (.Attribute o m apos) (e::es) [] pos) (fMeth op f fa):=
 ⟨PE.weak (b2A PySem.F.plainAttrs_str hs0 ht0 hm ho.to ha.to hbase hfew hline hs hpl) (a8p hk)⟩
def mStarts (x:Str):List D->Option W
 | [.str y]=>some (.v (.bl (Txt.startswith x y)))
 | _=>none
def rStarts:V->List V->Hp->VK->Prop:=fun v vs H Q=>∃x y,v= .str x/\vs=[.str y]/\Q (.bl (Txt.startswith x y)) H
theorem a8K:MtR X "str.startswith" rStarts:=by
 intro pins s σ H x vs v us Q I rx rv ⟨a,b,ex,ev,q⟩;subst ex ev;obtain⟨t,rfl⟩:=rx;obtain⟨u,rfl,t',rfl⟩:=rv.one;exact SC.startswith ⟨.bl _,H,I,rfl,q⟩
theorem a8w:PrMt X mStarts rStarts:=fun A x ds w vs H Q _ e l q=>by
 unfold mStarts at e;split at e
 ·rename_i y;cases e;obtain⟨v,rfl,h⟩:=denRL1 l;exact⟨x,y,rfl,by rw[B6 h],q _ H (Same.refl H) C5⟩
 ·cases e
theorem a4R (ho:QX X o f)(ha:QA X (e::es) fa)(hbase:attributeBase o "startswith" X.env (eval o X.env)=eval o X.env:=by rfl)
  (hfew:((backTo pos (starEach (e::es) X.env)).all (fun x=>!x.1)&&(backToKw pos (keywordEach [] X.env)).all (fun x=>x.1.isSome)&&decide ((e::es).length+([]:List Keyword).length+(if([]:List Keyword).isEmpty then 0 else 1)<30))=true:=by rfl)
  (hline:(apos.endLine==pos.line)=true:=by rfl) (hs:starEach (e::es) X.env=(false,eval e X.env)::starEach es X.env:=by rfl) (hpl:(backTo pos (starEach es X.env)).any (·.1)=false:=by rfl):QX X (.Call (.Attribute o "startswith" apos) (e::es) [] pos) (fMeth mStarts f fa):=
 a2B PySem.F.slot_str_startswith PySem.F.type_str_startswith a8K a8w ho ha hbase hfew hline hs hpl
end
theorem a1o:∀(l:List (Str×Tok)),Vals ((l.map (·.1)).map V.str) (strValues l)
 | []=>.nil
 | (x,t)::l=>.cons ⟨t,rfl⟩ (a1o l)
theorem a18:∀{xs:List Str} {its:List Value},Vals (xs.map V.str) its->∃l:List (Str×Tok),its=strValues l/\l.map (·.1)=xs
 | [],_,r=>by cases r;exact⟨[],rfl,rfl⟩
 | x::xs,_,r=>by
  rw[zR] at r;cases r with
  | cons h t=>
   obtain⟨tk,rfl⟩:=h;obtain⟨l,rfl,rfl⟩:=a18 t;exact⟨(x,tk)::l,rfl,rfl⟩
theorem a2W {K:PySem.W.Frag}{A:Av}{H:Hp}:∀(xs:List Str),DenL K A H (xs.map .str) (xs.map V.str)
 | []=>A8
 | x::xs=>z9 (V8.mpr rfl) (a2W xs)
theorem a2f {K:PySem.W.Frag}{A:Av}{H:Hp}:∀{xs:List Str} {vs:List V},DenL K A H (xs.map .str) vs->vs=xs.map V.str
 | [],_,l=>by rw[jZ,DenL] at l;rw[l];rfl
 | x::xs,_,l=>by
  rw[zR,DenL] at l;obtain⟨v,r,rfl,h,l⟩:=l;rw[V8.mp h,a2f l];rfl
section
variable {X:Cx}{a o e:Expr}{es:List Expr}{apos pos p2:Pos}{f:FX}{fa:FA}{lo hi:Option Expr}{fl fu:FO}
def partS (x y:Str):List Str:=match Builtin.Str.occurrences x y 0 x.length 1 with
 | i::_=>[Builtin.Str.strSub x 0 i,y,Builtin.Str.strSub x (i+y.length) x.length]
 | []=>[x,Str.empty,Str.empty]
def mPart (x:Str):List D->Option W
 | [.str y]=>if(y.length==0)=false/\x.length<=lim then some (.v (.tup ((partS x y).map .str))) else none
 | _=>none
def rPart:V->List V->Hp->VK->Prop:=fun v vs H Q=>∃x y,v= .str x/\vs=[.str y]/\(y.length==0)=false/\x.length<=sizeLine/\∀p,H p=none->Q (.ref p) (upd H p (.tup ((partS x y).map V.str)))
theorem b1x:MtR X "str.partition" rPart:=by
 intro pins s σ H x vs v us Q I rx rv ⟨x0,y,ex,ev,hy,hx,q⟩;subst ex ev;obtain⟨t,rfl⟩:=rx;obtain⟨u,rfl,t',rfl⟩:=rv.one;refine call_meets PySem.F.slot_str_partition (xX _ _ _) PySem.F.entry_str_partition (PySem.F.args_str_partition_2 _ _) (meets_str_partition x0 y t t' hy hx) ?_;unfold partS at q;cases hoc:Builtin.Str.occurrences x0 y 0 x0.length 1 with
 | nil=>
  rw[hoc] at q;exact⟨.ref s.heap.objs.size,_,I.laid (o:=.tup ([x0,Str.empty,Str.empty].map V.str)) (fun b ob q=>zN _ q) (zI _) ⟨(show(3:Nat)<=sizeLine by decide),_,.cons ⟨t,rfl⟩ (.cons ⟨s.toks,rfl⟩ (.cons ⟨s.toks,rfl⟩ .nil)),TupN.new _ _⟩,rfl,q _ I.fresh⟩
 | cons i r=>
  rw[hoc] at q;exact⟨.ref s.heap.objs.size,_,I.laid (o:=.tup ([Builtin.Str.strSub x0 0 i,y,Builtin.Str.strSub x0 (i+y.length) x0.length].map V.str)) (fun b ob q=>zN _ q) (zI _) ⟨(show(3:Nat)<=sizeLine by decide),_,.cons ⟨s.toks,rfl⟩ (.cons ⟨t',rfl⟩ (.cons ⟨s.toks+1,rfl⟩ .nil)),TupN.new _ _⟩,rfl,q _ I.fresh⟩
theorem b1B:PrMt X mPart rPart:=fun A x ds w vs H Q _ e l q=>by
 unfold mPart at e;split at e
 ·rename_i y;split at e
  ·rename_i hc;cases e;obtain⟨v,rfl,h⟩:=denRL1 l;exact⟨x,y,rfl,by rw[B6 h],hc.1,zO hc.2 B5,fun p hp=>q _ _ (A4 hp _) (Y7 hp (a2W _))⟩
  ·cases e
 ·cases e
theorem a2u (ho:QX X o f)(ha:QA X (e::es) fa)(hbase:attributeBase o "partition" X.env (eval o X.env)=eval o X.env:=by rfl)
  (hfew:((backTo pos (starEach (e::es) X.env)).all (fun x=>!x.1)&&(backToKw pos (keywordEach [] X.env)).all (fun x=>x.1.isSome)&&decide ((e::es).length+([]:List Keyword).length+(if([]:List Keyword).isEmpty then 0 else 1)<30))=true:=by rfl)
  (hline:(apos.endLine==pos.line)=true:=by rfl) (hs:starEach (e::es) X.env=(false,eval e X.env)::starEach es X.env:=by rfl) (hpl:(backTo pos (starEach es X.env)).any (·.1)=false:=by rfl):QX X (.Call (.Attribute o "partition" apos) (e::es) [] pos) (fMeth mPart f fa):=
 a2B PySem.F.slot_str_partition PySem.F.type_str_partition b1x b1B ho ha hbase hfew hline hs hpl
def mSplit (x:Str):List D->Option W
 | [.str y]=>if(y.length==0)=false/\x.length<=lim/\(Builtin.Str.partsBetween x (Builtin.Str.occurrences x y 0 x.length (x.length+1)) y.length).length<=lim then some (.o (.lst ((Txt.split x y).map .str))) else none
 | _=>none
def rSplit:V->List V->Hp->VK->Prop:=fun v vs H Q=>∃x y,v= .str x/\vs=[.str y]/\(y.length==0)=false/\x.length<=sizeLine/\(Builtin.Str.partsBetween x (Builtin.Str.occurrences x y 0 x.length (x.length+1)) y.length).length<=sizeLine/\∀p,H p=none->Q (.ref p) (upd H p (.lst ((Txt.split x y).map V.str)))
theorem b0O:MtR X "str.split" rSplit:=by
 intro pins s σ H x vs v us Q I rx rv ⟨x0,y,ex,ev,hy,hx,hp,q⟩;subst ex ev;obtain⟨t,rfl⟩:=rx;obtain⟨u,rfl,t',rfl⟩:=rv.one;unfold Txt.split at q;cases h1:(decide (x0.length<y.length)||decide (Builtin.Str.strKind x0<Builtin.Str.strKind y))
 ·rw[h1,if_neg zW] at q;cases hf:(Builtin.Str.occurrences x0 y 0 x0.length (x0.length+1)).isEmpty
  ·rw[hf,if_neg zW] at q;refine call_meets yA (xX _ _ _) PySem.F.entry_str_split (PySem.F.args_str_split_2 _ _) (meets_str_split_sep x0 y t t' h1 hy hf hx hp) ?_;rw[strsFrom_eq];have hv:=a1o (numbered s.toks (Builtin.Str.partsBetween x0 (Builtin.Str.occurrences x0 y 0 x0.length (x0.length+1)) y.length));rw[numbered_texts] at hv;exact⟨.ref s.heap.objs.size,_,I.lnew hv (by rw[zD];exact hp),rfl,q _ I.fresh⟩
  ·rw[hf,if_pos rfl] at q;exact call_meets yA (xX _ _ _) PySem.F.entry_str_split (PySem.F.args_str_split_2 _ _) (meets_str_split_not_found x0 y t t' h1 hy hf) ⟨.ref s.heap.objs.size,_,I.lnew (t':=s.toks) (a1o [(x0,t)]) (show(1:Nat)<=sizeLine by decide),rfl,q _ I.fresh⟩
 ·rw[h1,if_pos rfl] at q;exact call_meets yA (xX _ _ _) PySem.F.entry_str_split (PySem.F.args_str_split_2 _ _) (meets_str_split_cannot_occur x0 y t t' h1) ⟨.ref s.heap.objs.size,_,I.lnew (t':=s.toks) (a1o [(x0,t)]) (show(1:Nat)<=sizeLine by decide),rfl,q _ I.fresh⟩
theorem b0P:PrMt X mSplit rSplit:=fun A x ds w vs H Q _ e l q=>by
 unfold mSplit at e;split at e
 ·rename_i y;split at e
  ·rename_i hc;cases e;obtain⟨v,rfl,h⟩:=denRL1 l;exact⟨x,y,rfl,by rw[B6 h],hc.1,zO hc.2.1 B5,zO hc.2.2 B5,fun p hp=>q _ _ (A4 hp _) (a2h hp (a2W _))⟩
  ·cases e
 ·cases e
theorem K0 (ho:QX X o f)(ha:QA X (e::es) fa)(hbase:attributeBase o "split" X.env (eval o X.env)=eval o X.env:=by rfl)
  (hfew:((backTo pos (starEach (e::es) X.env)).all (fun x=>!x.1)&&(backToKw pos (keywordEach [] X.env)).all (fun x=>x.1.isSome)&&decide ((e::es).length+([]:List Keyword).length+(if([]:List Keyword).isEmpty then 0 else 1)<30))=true:=by rfl)
  (hline:(apos.endLine==pos.line)=true:=by rfl) (hs:starEach (e::es) X.env=(false,eval e X.env)::starEach es X.env:=by rfl) (hpl:(backTo pos (starEach es X.env)).any (·.1)=false:=by rfl):QX X (.Call (.Attribute o "split" apos) (e::es) [] pos) (fMeth mSplit f fa):=
 a2B yA PySem.F.type_str_split b0O b0P ho ha hbase hfew hline hs hpl
def strsOf:List D->Option (List Str)
 | []=>some []
 | .str x::ds=>(strsOf ds).map fun xs=>x::xs
 | _=>none
theorem a4U:∀{ds:List D} {xs:List Str},strsOf ds=some xs->ds=xs.map .str
 | [],xs,e=>by cases e;rfl
 | .str x::ds,xs,e=>by
  rw[strsOf] at e;obtain⟨ys,e1,rfl⟩:=oms e;rw[a4U e1];rfl
 | .non::_,_,e=>by cases e
 | .bl _::_,_,e=>by cases e
 | .int _::_,_,e=>by cases e
 | .tup _::_,_,e=>by cases e
 | .lst _::_,_,e=>by cases e
 | .dT _ _::_,_,e=>by cases e
 | .dK _ _::_,_,e=>by cases e
 | .exn _::_,_,e=>by cases e
 | .fn _::_,_,e=>by cases e
theorem a3W:∀xs:List Str,strsOf (xs.map .str)=some xs
 | []=>rfl
 | x::xs=>by rw[zR,strsOf,a3W xs];rfl
def mJoin (x:Str):List D->Option W
 | [.lst ds]=>(strsOf ds).bind fun xs=>if JoinOk x xs=true then some (.v (.str (Txt.join x xs))) else none
 | _=>none
def rJoin (K:PySem.W.Frag):V->List V->Hp->VK->Prop:=fun v vs H Q=>∃x p xs,v= .str x/\vs=[.ref p]/\SqL K H p (xs.map V.str)/\JoinOk x xs=true/\Q (.str (Txt.join x xs)) H
theorem b2d:MtR X "str.join" (rJoin X.K):=by
 intro pins s σ H x vs v us Q I rx rv ⟨x0,p,xs,ex,ev,hq,hj,q⟩;subst ex ev;obtain⟨t,rfl⟩:=rx;obtain⟨u,rfl,ru⟩:=rv.one;cases ru;obtain⟨its,r,pl,_⟩:=I.list hq;obtain⟨l,rfl,hl⟩:=a18 r;exact SC.join pl.isList hl hj fun t' k=>⟨.str _,H,I.tok _,⟨t',rfl⟩,q⟩
theorem b2a:PrMt X mJoin (rJoin X.K):=fun A x ds w vs H Q _ e l q=>by
 unfold mJoin at e;split at e
 ·rename_i ds;obtain⟨xs,e1,e⟩:=obs e;split at e
  ·rename_i hc;cases e;obtain⟨v,rfl,h⟩:=denRL1 l;obtain⟨a,us,rfl,hq,lz⟩:=h;rw[a4U e1] at lz;rw[a2f lz] at hq;exact⟨x,a,xs,rfl,rfl,hq,hc,q _ H (Same.refl H) N5⟩
  ·cases e
 ·cases e
theorem a2r (ho:QX X o f)(ha:QA X (e::es) fa)(hbase:attributeBase o "join" X.env (eval o X.env)=eval o X.env:=by rfl)
  (hfew:((backTo pos (starEach (e::es) X.env)).all (fun x=>!x.1)&&(backToKw pos (keywordEach [] X.env)).all (fun x=>x.1.isSome)&&decide ((e::es).length+([]:List Keyword).length+(if([]:List Keyword).isEmpty then 0 else 1)<30))=true:=by rfl)
  (hline:(apos.endLine==pos.line)=true:=by rfl) (hs:starEach (e::es) X.env=(false,eval e X.env)::starEach es X.env:=by rfl) (hpl:(backTo pos (starEach es X.env)).any (·.1)=false:=by rfl):QX X (.Call (.Attribute o "join" apos) (e::es) [] pos) (fMeth mJoin f fa):=
 a2B PySem.F.slot_str_join PySem.F.type_str_join b2d b2a ho ha hbase hfew hline hs hpl
def rSlS:V->Option Int->Option Int->Hp->VK->Prop:=fun v lo hi H Q=>∃x,v= .str x/\x.length<=sizeLine/\Q (.str (Txt.slice x lo hi)) H
theorem b4I:SlR X rSlS:=by
 intro pins s σ H x v vl vu lo hi sl Q I rx hs pl pu h;obtain⟨x0,rfl,hz,q⟩:=h;obtain⟨t,rfl⟩:=rx;refine⟨"str",_,PySem.F.slot_str_getitem.lookup,xX _ _ _,?_⟩;cases pl with
 | none=>
  cases pu with
  | none=>exact xT (l:=none) (u:=none) (st:=none) hs rfl (post_val_or_str ⟨zO (Txt.slice_le x0 _ _) hz,fun t' k=>⟨.str _,H,I.tok _,⟨t',rfl⟩,q⟩⟩)
  | int j uj=>exact xT (l:=none) (u:=some (j,uj)) (st:=none) hs rfl (post_val_or_str ⟨zO (Txt.slice_le x0 _ _) hz,fun t' k=>⟨.str _,H,I.tok _,⟨t',rfl⟩,q⟩⟩)
 | int i ui=>
  cases pu with
  | none=>exact xT (l:=some (i,ui)) (u:=none) (st:=none) hs rfl (post_val_or_str ⟨zO (Txt.slice_le x0 _ _) hz,fun t' k=>⟨.str _,H,I.tok _,⟨t',rfl⟩,q⟩⟩)
  | int j uj=>exact xT (l:=some (i,ui)) (u:=some (j,uj)) (st:=none) hs rfl (post_val_or_str ⟨zO (Txt.slice_le x0 _ _) hz,fun t' k=>⟨.str _,H,I.tok _,⟨t',rfl⟩,q⟩⟩)
def slS (x:D) (lo hi:Option Int):Option W:=match x with
 | .str x=>if x.length<=lim then some (.v (.str (Txt.slice x lo hi))) else none
 | _=>none
def fSlS (f:FX) (lo hi:FO):FX:=fun ρ=>(f ρ).bind fun p=>(lo p.2).bind fun l=>(hi l.2).bind fun u=>(dr u.2 p.1.fz).bind fun x=>(slS x l.1 u.1).map fun w=>(w,u.2)
theorem C7 (ha:QX X a f)(hl:QO X lo fl)(hu:QO X hi fu):QX X (.Subscript a (.Slice lo hi none p2) pos) (fSlS f fl fu):=⟨PE.weak (a6U b4I ha.to hl.to hu.to) fun σ H Q h0=>tXe h0 fun P O L ρ w ρ' r e q=>by
 unfold fSlS at e;obtain⟨⟨w1,ρ1⟩,e1,e⟩:=obs e;dsimp only at e;obtain⟨⟨l,ρ2⟩,e2,e⟩:=obs e;dsimp only at e;obtain⟨⟨u,ρ3⟩,e3,e⟩:=obs e;dsimp only at e;refine⟨P,O,L,ρ,w1,ρ1,r,e1,fun v H1 H1' r1 s1 d1=>?_⟩;obtain⟨P',r1',k1⟩:=hold (r1.grow s1) (d1.fz r1 s1);refine⟨P',O,L,ρ1,l,ρ2,r1',e2,fun H2 r2=>⟨P',O,L,ρ2,u,ρ3,r2,e3,fun H3 r3=>?_⟩⟩;obtain⟨r4,d4⟩:=k1 ρ3 H3 r3;cases e4:dr ρ3 w1.fz with
 | none=>rw[e4] at e;cases e
 | some x=>
  rw[e4] at e;simp only[bind_some] at e;have dx:=P7 r4 e4 d4;cases x with
  | str x=>
   simp only[slS] at e;split at e
   ·rename_i hz;cases e;exact⟨x,B6 dx,zO hz B5,q _ H3 H3 r4 (Same.refl _) N5⟩
   ·cases e
  | _=>cases e⟩
end
section
variable {X:Cx}{b c e tg:Expr}{f g:FX}
def fParV (i j:Nat) (f:FX) (g:FP):FS:=fun ρ=>(f ρ).bind fun p=>match p.1 with
 | .v d=>(g p.2).bind fun w=>match w with
  | .o d'=>if(freeSlot p.2 i=true/\freeSlot (p.2.set i (some (.v d))) j=true)/\lfC d'=true then some (.nx ((p.2.set i (some (.v d))).set j (some (.o d')))) else none
  | _=>none
 | _=>none
def fFs (c:Str) (f g:FX):FX:=fun ρ=>(f ρ).bind fun p=>match p.1 with
 | .v (.str i)=>if i.length+c.length<=lim then(g p.2).bind fun q=>match q.1 with
  | .v (.str j)=>if i.length+c.length+j.length<=lim then some (.v (.str (i++c++j)),q.2) else none
  | _=>none else none
 | _=>none
def Its (z:Str):It:=⟨fun i _=>i<z.cps.size,fun i H x H'=>H'=H/\∃c,z.cps[i]? =some c/\x= .str ⟨#[c]⟩,fun i _=>z.cps.size<=i⟩
theorem b0a {P:Program}{w:World}{K:PySem.W.Frag}(z:Str)(t:Tok)(it:Addr):Turn P w K tg (Its z) [it] it (fun i h=>h.IsStrIter it "str_ascii_iterator" z t i) where
 mem:=by simp
 obj:=fun i h st b hb=>by
  have e:b=it:=by simpa using hb
  subst e;obtain⟨o,e,c,d⟩:=st;exact⟨o,e,fun v z=>by rw[d] at z;cases z⟩
 keep:=fun i h h' st k=>by
  obtain⟨o,e,r⟩:=st;exact⟨o,k it (by simp) o e,r⟩
 item:=by
  intro X hP hw hK hc i pins s σ H E I hf st hg;subst hP hw hK;obtain⟨f0,f1,f2,f3,f4,f5⟩:=hf it (by simp)
  have hg:i<z.cps.size:=hg;refine wpAny_pyNext_ascii_item st (c:=z.cps[i]) (by simp[hg]) fun h' st' sb=>?_
  have I1:Inv X pins σ H {s with heap:=h',toks:=s.toks+1}:=I.turned (fun b o hb e=>(sb.2 b hb).trans e) f0 f1 f3 f4 f5
  obtain⟨o,e,c,d⟩:=id st';exact⟨_,rfl,a8a (s:={s with heap:=h',toks:=s.toks+1}) e c d (by decide) ⟨.str ⟨#[z.cps[i]]⟩,H,I1,⟨_,rfl⟩,⟨rfl,_,by simp[hg],rfl⟩,st',fun b hb=>(hf b hb).1⟩⟩
 done:=by
  intro X hP hw hK hc i pins s σ H E I hf st hg;subst hP hw hK;obtain⟨f0,f1,f2,f3,f4,f5⟩:=hf it (by simp)
  exact wpAny_pyNext_ascii_end (I.ok.hd hc) st (Array.getElem?_eq_none hg) fun h' eb=>⟨rfl,I.turned (t':=s.toks) (fun b o hb e=>eb b o hb e) f0 f1 f3 f4 f5⟩
 self:=fun _ _ _ _ _ st h=>wpAny_pyIter_striter_ascii st h
def iStr (tl:TE):TI:=fun σ H R=>tl σ H fun x H1=>∃z,x= .str z/\z.cps.all (· < 128)=true/\R (Its z) H1
theorem b2K {tl:TE}(hl:PE X e tl):PI X tg e (iStr tl):=by
 intro pins s σ H R I h;refine thn (hl pins s σ H _ I h) fun v s1 ⟨x,H1,I1,r1,z,ex,ha,q⟩=>?_;subst ex;obtain⟨t,rfl⟩:=(show ∃t,v=Value.str z t from r1);refine wpAny_pyIter_ascii ha ?_;have I2:=I1.kept (t':=s1.toks) (h':=s1.heap.push {cls:=.type "str_ascii_iterator",data:=.fields #[.str z t,.int 0 0]}) fun b o e=>zN _ e;refine⟨s1.heap.objs.size,[s1.heap.objs.size],_,_,H1,rfl,I2,b0a z t _,⟨_,qB _ rfl,rfl,rfl⟩,fun b hb=>?_,q⟩;have e:b=s1.heap.objs.size:=by simpa using hb
 subst e;exact I1.fpOk (zI _) (I1.hok.fresh (zI _))
def signs (z:Str):List D:=z.cps.toList.map fun c=>.str ⟨#[c]⟩
def fiStr (f:FX):FI:=fun ρ=>(f ρ).bind fun p=>match p.1 with
 | .v (.str z)=>if z.cps.all (· < 128)=true then some (signs z,p.2) else none
 | _=>none
theorem b3b (hl:QX X e f):QI X tg e (fiStr f):=⟨PI.weak (b2K hl.to) fun σ H R h0=>tIe h0 fun P O L ρ xs ρ' r e q=>by
 unfold fiStr at e;obtain⟨⟨w,ρ1⟩,e1,e⟩:=obs e;dsimp only at e;split at e
 ·rename_i z;split at e
  ·rename_i ha;cases e;refine⟨P,O,L,ρ,_,_,r,e1,fun v H1 H' r1 s1 d1=>?_⟩;have d1:Den X.K (AvO O ρ' σ) H' (.str z) v:=d1;refine⟨z,V8.mp d1,ha,q _ H' P (r1.grow s1) (fun p hp=>hp) fun Y O' L' ρ' σ' Hh hY rr=>⟨fun i x ex=>?_,?_⟩⟩
   ·unfold signs at ex;rw[qU,Array.getElem?_toList] at ex;cases hc:z.cps[i]? with
    | none=>rw[hc] at ex;cases ex
    | some c=>
     rw[hc] at ex;cases ex;refine⟨(Array.getElem?_eq_some_iff.mp hc).1,fun w H'' ⟨y1,c',y2,y3⟩=>?_⟩;subst y1 y3;rw[hc] at y2;cases y2;exact⟨Same.refl _,V8.mpr rfl⟩
   ·show z.cps.size<=(signs z).length;unfold signs;rw[zD,jB];exact zI _
  ·cases e
 ·cases e⟩
theorem a8O:CallR X (.type "int") (fun xs H Q=>∃x n,xs=[.str x]/\x.length<=640/\PySem.intText? x=some n/\Q (.int n) H):=by
 intro pins s σ H xs us Q I r h;obtain⟨x,n,rfl,hl,hn,q⟩:=h;obtain⟨u,rfl,rx⟩:=vals1 r;obtain⟨t,rfl⟩:=(show ∃t,u=Value.str x t from rx);exact PySem.W.KIN.call_text hn hl ⟨.int _,H,I.tok _,⟨_,rfl⟩,q⟩
def gIntT:D->Option W
 | .str x=>if x.length<=640 then(PySem.intText? x).map fun n=>.v (.int n) else none
 | d=>gInt d
theorem a1l:CallR X (.type "int") (fun xs H Q=>(∃b,xs=[.bl b]/\Q (.int (if b then 1 else 0)) H)\/∃x n,xs=[.str x]/\x.length<=640/\PySem.intText? x=some n/\Q (.int n) H):=a8B.or a8O
theorem a3F:PrA X (k1 gIntT) (fun xs H Q=>(∃b,xs=[.bl b]/\Q (.int (if b then 1 else 0)) H)\/∃x n,xs=[.str x]/\x.length<=640/\PySem.intText? x=some n/\Q (.int n) H):=fun A ds w vs H Q hA e l q=>by
 match ds,e,l with
 | [d],e,l=>
  have e:gIntT d=some w:=e;cases d with
  | str x=>
   obtain⟨v,rfl,h⟩:=denRL1 l;simp only[gIntT] at e;split at e
   ·rename_i hl;obtain⟨n,e1,rfl⟩:=oms e;exact .inr ⟨x,n,by rw[B6 h],hl,e1,q _ H (Same.refl H) K9⟩
   ·cases e
  | _=>exact .inl (b2H A [_] w vs H Q hA e l q)
end
section
variable {ρ:Ev}{f g:FX}{fa:FA}{op:Str->List D->Option W}{x y c:Str}{ws:List W}{ds:List D}{w:W}{d d':D}{lo hi:FO}{l u:Option Int}{i j:Nat}{gp:FP}{b:Bool}
def me4 (op:Str->List D->Option W) (x:Str) (ρ:Ev):Option (List D)->Option (W×Ev)
 | some ds=>withE ρ (op x ds)
 | none=>none
def me3 (op:Str->List D->Option W) (x:Str):Option (List W×Ev)->Option (W×Ev)
 | some (ws,ρ)=>me4 op x ρ (drs ρ ws)
 | none=>none
def me2 (op:Str->List D->Option W) (fa:FA):Option (W×Ev)->Option (W×Ev)
 | some (.v (.str x),ρ)=>me3 op x (fa ρ)
 | _=>none
theorem r_me:fMeth op f fa ρ=me2 op fa (f ρ):=by
 unfold fMeth;cases f ρ with
 | none=>rfl
 | some p=>
  obtain⟨w,ρ1⟩:=p;cases w with
  | v d=>cases d with
   | str x=>
    show(fa ρ1).bind _=me3 op x (fa ρ1);cases fa ρ1 with
    | none=>rfl
    | some q=>
     obtain⟨ws,ρ2⟩:=q;show(drs ρ2 ws).bind _=me4 op x ρ2 (drs ρ2 ws);cases drs ρ2 ws with
     | none=>rfl
     | some ds=>show(op x ds).map _=withE ρ2 (op x ds);unfold withE;cases op x ds<;>rfl
   | _=>rfl
  | _=>rfl
theorem r_me2:me2 op fa (some (.v (.str x),ρ))=me3 op x (fa ρ):=id rfl
theorem r_me3:me3 op x (some (ws,ρ))=me4 op x ρ (drs ρ ws):=id rfl
theorem r_me4:me4 op x ρ (some ds)=withE ρ (op x ds):=id rfl
theorem r_ms:mStarts x [.str y]=some (.v (.bl (Txt.startswith x y))):=id rfl
def ss5 (l u:Option Int) (ρ:Ev):Option D->Option (W×Ev)
 | some x=>withE ρ (slS x l u)
 | none=>none
def ss4 (w:W) (l:Option Int):Option (Option Int×Ev)->Option (W×Ev)
 | some (u,ρ)=>ss5 l u ρ (dr ρ w.fz)
 | none=>none
def ss3 (w:W) (hi:FO):Option (Option Int×Ev)->Option (W×Ev)
 | some (l,ρ)=>ss4 w l (hi ρ)
 | none=>none
def ss2 (lo hi:FO):Option (W×Ev)->Option (W×Ev)
 | some (w,ρ)=>ss3 w hi (lo ρ)
 | none=>none
theorem r_ss:fSlS f lo hi ρ=ss2 lo hi (f ρ):=by
 unfold fSlS;cases f ρ with
 | none=>rfl
 | some p=>
  obtain⟨w,ρ1⟩:=p;show(lo ρ1).bind _=ss3 w hi (lo ρ1);cases lo ρ1 with
  | none=>rfl
  | some q=>
   obtain⟨l,ρ2⟩:=q;show(hi ρ2).bind _=ss4 w l (hi ρ2);cases hi ρ2 with
   | none=>rfl
   | some q=>
    obtain⟨u,ρ3⟩:=q;show(dr ρ3 w.fz).bind _=ss5 l u ρ3 (dr ρ3 w.fz);cases dr ρ3 w.fz with
    | none=>rfl
    | some x=>show(slS x l u).map _=withE ρ3 (slS x l u);unfold withE;cases slS x l u<;>rfl
theorem r_ss2:ss2 lo hi (some (w,ρ))=ss3 w hi (lo ρ):=id rfl
theorem r_ss3:ss3 w hi (some (l,ρ))=ss4 w l (hi ρ):=id rfl
theorem r_ss4:ss4 w l (some (u,ρ))=ss5 l u ρ (dr ρ w.fz):=id rfl
theorem r_ss5:ss5 l u ρ (some d)=withE ρ (slS d l u):=id rfl
def pv3 (i j:Nat) (d:D) (ρ:Ev):Option W->Option R
 | some (.o d')=>if(freeSlot ρ i=true/\freeSlot (ρ.set i (some (.v d))) j=true)/\lfC d'=true then some (.nx ((ρ.set i (some (.v d))).set j (some (.o d')))) else none
 | _=>none
def pv2 (i j:Nat) (g:FP):Option (W×Ev)->Option R
 | some (.v d,ρ)=>pv3 i j d ρ (g ρ)
 | _=>none
theorem r_pv:fParV i j f gp ρ=pv2 i j gp (f ρ):=by
 unfold fParV;cases f ρ with
 | none=>rfl
 | some p=>
  obtain⟨w,ρ1⟩:=p;cases w with
  | v d=>
   show(gp ρ1).bind _=pv3 i j d ρ1 (gp ρ1);cases gp ρ1 with
   | none=>rfl
   | some w=>cases w<;>rfl
  | _=>rfl
theorem r_pv2:pv2 i j gp (some (.v d,ρ))=pv3 i j d ρ (gp ρ):=id rfl
theorem r_pv3:pv3 i j d ρ (some (.o d'))=if(freeSlot ρ i=true/\freeSlot (ρ.set i (some (.v d))) j=true)/\lfC d'=true then some (.nx ((ρ.set i (some (.v d))).set j (some (.o d')))) else none:=id rfl
def fs3 (c i:Str):Option (W×Ev)->Option (W×Ev)
 | some (.v (.str j),ρ)=>if i.length+c.length+j.length<=lim then some (.v (.str (i++c++j)),ρ) else none
 | _=>none
def fs2 (c:Str) (g:FX):Option (W×Ev)->Option (W×Ev)
 | some (.v (.str i),ρ)=>if i.length+c.length<=lim then fs3 c i (g ρ) else none
 | _=>none
theorem r_fs:fFs c f g ρ=fs2 c g (f ρ):=by
 unfold fFs;cases f ρ with
 | none=>rfl
 | some p=>
  obtain⟨w,ρ1⟩:=p;cases w with
  | v d=>cases d with
   | str i=>
    show(if _ then(g ρ1).bind _ else _)=(if _ then fs3 c i (g ρ1) else _)
    split
    ·cases g ρ1 with
     | none=>rfl
     | some q=>
      obtain⟨w,ρ2⟩:=q;cases w with
      | v d=>cases d<;>rfl
      | _=>rfl
    ·rfl
   | _=>rfl
  | _=>rfl
theorem r_fs2:fs2 c g (some (.v (.str x),ρ))=if x.length+c.length<=lim then fs3 c x (g ρ) else none:=id rfl
theorem r_fs3:fs3 c x (some (.v (.str y),ρ))=if x.length+c.length+y.length<=lim then some (.v (.str (x++c++y)),ρ) else none:=id rfl
def isg2:Option (W×Ev)->Option (List D×Ev)
 | some (.v (.str z),ρ)=>if z.cps.all (· < 128)=true then some (signs z,ρ) else none
 | _=>none
theorem r_isg:fiStr f ρ=isg2 (f ρ):=by
 unfold fiStr;cases f ρ with
 | none=>rfl
 | some p=>
  obtain⟨w,ρ1⟩:=p;cases w with
  | v d=>cases d<;>rfl
  | _=>rfl
theorem b3a:isg2 (some (.v (.str x),ρ))=if x.cps.all (· < 128)=true then some (signs x,ρ) else none:=id rfl
theorem o_inS:oInS b (.str x) (.str y)=some (.v (.bl (if b then !inS x y else inS x y))):=id rfl
theorem b3I:oAddS (.str x) (.str y)=if x.length+y.length<=lim then some (.v (.str (x++y))) else none:=id rfl
theorem b4c:gLenG (.str x)=if x.length<=lim then some (.v (.int x.length)) else none:=id rfl
theorem b3Y:gLenG (.lst ds)=gLen (.lst ds):=id rfl
theorem b4R:gLenG (.tup ds)=gLen (.tup ds):=id rfl
theorem b4o:gIntT (.str x)=if x.length<=640 then(PySem.intText? x).map fun n=>.v (.int n) else none:=id rfl
theorem b3q:gIntT (.bl b)=some (.v (.int (if b then 1 else 0))):=id rfl
theorem o_slS:slS (.str x) l u=if x.length<=lim then some (.v (.str (Txt.slice x l u))) else none:=id rfl
theorem o_ixS {n:Int}:oIx (.str x) (.int n)=strAt x n:=id rfl
end
open PySem L2 PySem.NumText PySem.StrLaws PyProof.Rows
abbrev numS (n:Int):Str:=Str.ofString (toString n)
def dgs (m:Nat):List Nat:=(Nat.toDigits 10 m).map Char.toNat
theorem b4F (m:Nat):(numS (m:Int)).cps.toList=dgs m:=PySem.W.KIN.signs_num m
theorem b24 (m:Nat):(numS (-((m+1:Nat):Int))).cps.toList=45::dgs (m+1):=by
 show(Str.ofString (toString (Int.negSucc m))).cps.toList=_;rw[signs_ofString];show(("-" ++ Nat.repr (m+1):String).toList).map Char.toNat=_;rw[String.toList_append,map_append,Nat.toList_repr];rfl
theorem N8 {a b:Str}(h:a.cps.toList=b.cps.toList):a=b:=Str.ext' (by
 have:=jF List.toArray h
 simpa using this)
theorem M9 (x:Str):x.length=x.cps.toList.length:=by simp[Str.length]
theorem a8g {m:Nat}(h:m<10^60):(numS (m:Int)).length<=60:=toString_length_le (Int.natCast_nonneg m) (by decide) (by exact_mod_cast h)
theorem a80 (n:Int):(∃m:Nat,n=m)\/∃m:Nat,n= -((m+1:Nat):Int):=by
 cases n with
 | ofNat m=>exact .inl ⟨m,rfl⟩
 | negSucc m=>exact .inr ⟨m,rfl⟩
theorem b0b {n:Int}(h:n.natAbs<10^60):(numS n).length<=61:=by
 rcases a80 n with ⟨m,rfl⟩|⟨m,rfl⟩
 ·exact Nat.le_succ_of_le (a8g (by walk_at "o"))
 ·rw[M9,b24]
  have:=a8g (m:=m+1) (by walk_at "o")
  rw[M9,b4F] at this;rw[zU];walk_at "o"
theorem a9Y (c:Nat)(n:Int)(hc:c≠45/\(c<48\/57<c)):c∉(numS n).cps.toList:=int_text_free' c hc n
theorem a8r (n:Int):(numS n).cps.all (· < 128)=true:=by
 rw[xR];intro c hc;have hc:c∈(numS n).cps.toList:=by simpa using hc
 by_cases h:c=45\/(48<=c/\c<=57)
 ·simp;walk_at "o"
 ·exact absurd hc (a9Y c n (by walk_at "o"))
theorem a9P (c:Nat)(x:Str):inS ⟨#[c]⟩ x=decide (c∈x.cps.toList):=found_one x c
theorem a7A (x:Str)(c:Nat):Txt.startswith x ⟨#[c]⟩=(x.cps.toList.head? == some c):=by
 unfold Txt.startswith;rw[jN,qF,qP,beq_iff_eq,subAt_one x c 0,List.head?_eq_getElem?]
theorem b0c {a b:Str}{c:Nat}(h:c∉a.cps.toList):partS (a++⟨#[c]⟩++b) ⟨#[c]⟩=[a,⟨#[c]⟩,b]:=by
 have hl:(a++⟨#[c]⟩++b:Str).cps.toList=a.cps.toList++c::b.cps.toList:=by
  rw[xN,xN,jI,jI];simp
 have la:a.length=a.cps.toList.length:=M9 a;have lw:(a++⟨#[c]⟩++b:Str).length=a.cps.toList.length+(b.cps.toList.length+1):=by rw[M9,hl];simp
 have at_:∀i,At (a++⟨#[c]⟩++b) ⟨#[c]⟩ (a++⟨#[c]⟩++b:Str).length i↔(a.cps.toList++c::b.cps.toList)[i]? =some c:=fun i=>by
  unfold At;rw[subAt_one,hl]
 have first:∃r,Builtin.Str.occurrences (a++⟨#[c]⟩++b) ⟨#[c]⟩ 0 (a++⟨#[c]⟩++b:Str).length 1=a.cps.toList.length::r:=by
  have h0:(a.cps.toList++c::b.cps.toList)[a.cps.toList.length]? =some c:=by rw[qI (zI _),jV];rfl
  rcases occ_head (a++⟨#[c]⟩++b) ⟨#[c]⟩ 1 (zI 1) with ⟨_,hn⟩|⟨i,r,e,hi,hn⟩
  ·exact absurd ((at_ _).mpr h0) (hn _)
  ·have hi':=(at_ i).mp hi
   have:¬i<a.cps.toList.length:=fun q=>by
    rw[qC q] at hi';exact h (qS hi')
   have:¬a.cps.toList.length<i:=fun q=>hn _ q ((at_ _).mpr h0)
   have:i=a.cps.toList.length:=by walk_at "o"
   subst this;exact⟨r,e⟩
 obtain⟨r,e⟩:=first;unfold partS;rw[e];dsimp only
 have e1:Builtin.Str.strSub (a++⟨#[c]⟩++b) 0 a.cps.toList.length=a:=N8 (by
  rw[strSub_toList,hl];simp)
 have e2:Builtin.Str.strSub (a++⟨#[c]⟩++b) (a.cps.toList.length+(⟨#[c]⟩:Str).length) (a++⟨#[c]⟩++b:Str).length=b:=N8 (by
  rw[strSub_toList,hl,lw];show((a.cps.toList++c::b.cps.toList).drop (a.cps.toList.length+1)).take (a.cps.toList.length+(b.cps.toList.length+1)-(a.cps.toList.length+1))=_;rw[List.drop_append,xZ (Nat.le_succ _),nil_append,show a.cps.toList.length+1-a.cps.toList.length=1 by walk_at "o"]
  exact yE (by show b.cps.toList.length<=_;walk_at "o"))
 rw[e1,e2]
theorem a85 (y x:Str)(z:Str)(r:List Str):Str.join y (x::z::r)=x++y++Str.join y (z::r):=rfl
theorem a61 {c:Nat}:∀{a b r s:List Nat},c∉a->c∉b->a++c::r=b++c::s->a=b/\r=s
 | [],[],r,s,_,_,e=>by simpa using e
 | [],y::b,r,s,_,hb,e=>by
  have:c=y:=by simpa using jF List.head? e
  exact absurd (this▸zG) hb
 | x::a,[],r,s,ha,_,e=>by
  have:x=c:=by simpa using jF List.head? e
  exact absurd (this▸zG) ha
 | x::a,y::b,r,s,ha,hb,e=>by
  rw[xM,xM,List.cons.injEq] at e;obtain⟨e1,e2⟩:=a61 (fun m=>ha (zH _ m)) (fun m=>hb (zH _ m)) e.2;exact⟨by rw[e.1,e1],e2⟩
theorem M8 (c:Nat)(x z:Str)(r:List Str):(Str.join ⟨#[c]⟩ (x::z::r)).cps.toList=x.cps.toList++c::(Str.join ⟨#[c]⟩ (z::r)).cps.toList:=by
 rw[a85,xN,xN,jI,jI];simp
theorem a5m {c:Nat}:∀{xs ys:List Str},xs≠[]->ys≠[]->(∀x∈xs,c∉x.cps.toList)->(∀x∈ys,c∉x.cps.toList)->Str.join ⟨#[c]⟩ xs=Str.join ⟨#[c]⟩ ys->xs=ys
 | [],_,h,_,_,_,_=>absurd rfl h
 | _::_,[],_,h,_,_,_=>absurd rfl h
 | [x],[y],_,_,_,_,e=>by rw[show x=y from e]
 | [x],y::z::r,_,_,hx,_,e=>by
  have e:x.cps.toList=_:=(jF (fun s:Str=>s.cps.toList) e).trans (M8 c y z r);exact absurd (by rw[e];simp) (hx x zG)
 | x::z::r,[y],_,_,_,hy,e=>by
  have e:_=y.cps.toList:=(M8 c x z r).symm.trans (jF (fun s:Str=>s.cps.toList) e);exact absurd (by rw[<-e];simp) (hy y zG)
 | x::z::r,y::u::s,_,_,hx,hy,e=>by
  have e:=jF (fun s:Str=>s.cps.toList) e;rw[M8,M8] at e;obtain⟨e1,e2⟩:=a61 (hx x zG) (hy y zG) e;rw[N8 e1,a5m (by simp) (by simp) (fun q h=>hx q (zH _ h)) (fun q h=>hy q (zH _ h)) (N8 e2)]
theorem a98 (x y:Str):Txt.split x y≠[]:=by
 unfold Txt.split
 split
 ·simp
 ·split
  ·simp
  ·intro h
   have:=length_partsBetween x (Builtin.Str.occurrences x y 0 x.length (x.length+1)) y.length
   rw[h] at this;simp at this
theorem a7w {c:Nat}{xs:List Str}(h0:xs≠[])(h:∀x∈xs,c∉x.cps.toList):Txt.split (Txt.join ⟨#[c]⟩ xs) ⟨#[c]⟩=xs:=by
 have e:Txt.join ⟨#[c]⟩ xs=Str.join ⟨#[c]⟩ xs:=PySem.StrLaws.glued_eq_join _ _;exact a5m (a98 _ _) h0 (split_free _ c) h ((join_split _ _).trans e)
theorem a8A (x:Str)(c:Nat):(Builtin.Str.partsBetween x (Builtin.Str.occurrences x ⟨#[c]⟩ 0 x.length (x.length+1)) (⟨#[c]⟩:Str).length).length<=x.length+2:=by
 rw[length_partsBetween]
 have:=occ_length_le_len x ⟨#[c]⟩ 0 (x.length+1)
 exact zO (Nat.succ_le_succ (occ_length_le_len x ⟨#[c]⟩ 0 x.length (x.length+1))) (by walk_at "o")
theorem g_ix_s {x:Str}{d:D}:oIxG (.str x) d=oIx (.str x) d:=rfl
structure FnV (P:Program) (w:World) (K:PySem.W.Frag) (mg:Str->Option Value) (base:Heap) (f:Addr) (k:Nat) (g:List D->Option W):Prop where
 ex:∃(fd:FuncData) (ps:List Str),FnOk P w K mg base CX0 k f fd ps (spF K g)/\Binds K fd ps []/\PySem.W.keepIn K (.ref f)=true
theorem a9O {P:Program}{w:World}{K:PySem.W.Frag}{mg:Str->Option Value}{base:Heap}{x:Str}{k:Nat}{g:List D->Option W}(F:Fn P w K mg base x k g){f:Addr}(hm:mg x=some (.ref f)):FnV P w K mg base f k g:=by
 obtain⟨f',fd,ps,a,b,c,d⟩:=F.ex;rw[hm] at d;cases d;exact⟨fd,ps,a,b,c⟩
section
variable {X:Cx}{e:Expr}{es:List Expr}{pos p:Pos}{fa:FA}{x:Str}{k:Nat}
theorem b0q {f:Addr}(hm:X.mg x=some (.ref f))(hg:Gl X x:=by rfl)(hdb:(x==("__debug__":Str))=false:=by decide):QX X (.Name x pos) (fC (.fn f)):=
 ⟨PE.weak (t:=tC (.ref f)) (fun pins s σ H Q I h=>W1 I hg hm ⟨.ref f,H,I,rfl,h⟩ hdb) (a3l fun A H=>by rw[Den])⟩
theorem b2j {E:Value->Shared->Prop}{pins:List (Addr×PySem.Obj)}{s:Shared}{σ:L2.St}{H:Hp}{i:Nat}{v:V}{Q:Value->Shared->Prop}(I:Inv X pins σ H s)(hN:X.N[i]? =some x)(hv:Vis X.env.scope x)(hd:(x==("__debug__":Str))=false)(hcd:(x==("__classdict__":Str))=false)
  (e:σ[i]? =some (some v)) (h:∀u,RelV v u->Q u s):wpAny (model X.prog X.w) X.A (eval (.Name x pos) X.env) Q E s:=by
 obtain⟨m,hn,hl⟩:=I.loc;obtain⟨u,r,l⟩:=hl i x v hN e hv;have fin:=h u r;rcases l with ⟨hk,hm⟩|⟨hk,c,hc,hcell⟩
 ·exact wpAny_Name (wpAny_loadName_local I.ok.kind hk hn hm fin) hd
 ·rcases hk with hk|hk
  ·exact wpAny_Name (wpAny_loadName_cell I.ok.kind hk hc hcell fin) hd
  ·exact wpAny_Name (wpAny_loadName_free I.ok.kind hk hc hcell fin hcd) hd
def fCallV (i:Nat) (φ:Addr->Option (List D->Option W)) (fa:FA):FX:=fun ρ=>match ρ[i]? with
 | some (some (.v (.fn f)))=>(φ f).bind fun g=>fDef g fa ρ
 | _=>none
theorem a9T (i:Nat){φ:Addr->Option (List D->Option W)}(hF:∀f g,φ f=some g->FnV X.prog X.w X.K X.mg X.base f k g)(hr:Room k X.A)(ha:QA X (e::es) fa)(hN:X.N[i]? =some x:=by rfl)(hv:Vis X.env.scope x:=by first|exact Or.inl rfl|exact Or.inr (Or.inl rfl)|exact Or.inr (Or.inr rfl))
  (hdb:(x==("__debug__":Str))=false:=by decide) (hcd:(x==("__classdict__":Str))=false:=by decide) (he:starEach (e::es) X.env=(false,eval e X.env)::starEach es X.env:=by rfl) (hpl:(backTo pos (starEach es X.env)).any (·.1)=false:=by rfl):
  QX X (.Call (.Name x p) (e::es) [] pos) (fCallV i φ fa):=by
 refine⟨fun pins s σ H Q I h=>?_⟩;obtain⟨P,O,L,ρ,w,ρ',r,e0,q⟩:=h;unfold fCallV at e0;split at e0
 ·rename_i f ef;obtain⟨g,e1,e0⟩:=obs e0;obtain⟨v,h1,h2⟩:=r.slot i _ ef;have h2:Den X.K (AvO O ρ σ) H (.fn f) v:=h2;rw[Den] at h2;subst h2;obtain⟨fd,ps,F,hb,hk⟩:=(hF f g e1).ex;refine jK (b2j I hN hv hdb hcd h1 fun u ru=>?_);cases(show u=Value.ref f from ru);refine PySem.W.callWith_K (h₀:=X.base) I.ok.mod.kin hk (thn (ha.to pos pins s σ H _ I (a6p σ H Q ⟨P,O,L,ρ,w,ρ',r,e0,q⟩)) fun us s1 h0=>ex5 h0 fun vs H1 I1 r q=>⟨I1.kIn,?_⟩) he hpl;exact a7H F hr hb .nil pass0 I1 r q
 ·cases e0
end
section
variable {fa:FA}{ρ:Ev}{i:Nat}{φ:Addr->Option (List D->Option W)}{f:Addr}
def cv1 (φ:Addr->Option (List D->Option W)) (fa:FA) (ρ:Ev):Option (Option W)->Option (W×Ev)
 | some (some (.v (.fn f)))=>(φ f).bind fun g=>fDef g fa ρ
 | _=>none
def cv2 (fa:FA) (ρ:Ev):Option (List D->Option W)->Option (W×Ev)
 | some g=>fDef g fa ρ
 | none=>none
theorem r_cv:fCallV i φ fa ρ=cv1 φ fa ρ ρ[i]?:=by
 unfold fCallV cv1;rcases ρ[i]? with _|_|_|_|_|_<;>rfl
theorem r_cv1:cv1 φ fa ρ (some (some (.v (.fn f))))=cv2 fa ρ (φ f):=by unfold cv1 cv2;dsimp only;cases φ f<;>rfl
theorem r_cv2 {g:List D->Option W}:cv2 fa ρ (some g)=fDef g fa ρ:=rfl
end
section
variable {X:Cx}{a o e:Expr}{es:List Expr}{apos pos:Pos}{f:FX}{fa:FA}
def mStrip (x:Str):List D->Option W
 | [.str y]=>if x.length<=lim then some (.v (.str (Txt.stripChars x y))) else none
 | _=>none
def rStrip:V->List V->Hp->VK->Prop:=fun v vs H Q=>∃x y,v= .str x/\vs=[.str y]/\x.length<=sizeLine/\Q (.str (Txt.stripChars x y)) H
theorem b0l:MtR X "str.strip" rStrip:=by
 intro pins s σ H x vs v us Q I rx rv ⟨a,b,ex,ev,hl,q⟩;subst ex ev;obtain⟨t,rfl⟩:=rx;obtain⟨u,rfl,t',rfl⟩:=rv.one;exact SC.stripChars (fun t' k=>⟨.str _,H,I.tok _,⟨_,rfl⟩,q⟩) hl
theorem a9n:PrMt X mStrip rStrip:=fun A x ds w vs H Q _ e l q=>by
 unfold mStrip at e;split at e
 ·rename_i y;split at e
  ·rename_i hl;cases e;obtain⟨v,rfl,h⟩:=denRL1 l;exact⟨x,y,rfl,by rw[B6 h],zO hl B5,q _ H (Same.refl H) N5⟩
  ·cases e
 ·cases e
theorem b0L (ho:QX X o f)(ha:QA X (e::es) fa)(hbase:attributeBase o "strip" X.env (eval o X.env)=eval o X.env:=by rfl)
  (hfew:((backTo pos (starEach (e::es) X.env)).all (fun x=>!x.1)&&(backToKw pos (keywordEach [] X.env)).all (fun x=>x.1.isSome)&&decide ((e::es).length+([]:List Keyword).length+(if([]:List Keyword).isEmpty then 0 else 1)<30))=true:=by rfl)
  (hline:(apos.endLine==pos.line)=true:=by rfl) (hs:starEach (e::es) X.env=(false,eval e X.env)::starEach es X.env:=by rfl) (hpl:(backTo pos (starEach es X.env)).any (·.1)=false:=by rfl):QX X (.Call (.Attribute o "strip" apos) (e::es) [] pos) (fMeth mStrip f fa):=
 a2B PySem.F.slot_str_strip PySem.F.type_str_strip b0l a9n ho ha hbase hfew hline hs hpl
end
section
variable {X:Cx}{a b:Expr}{f g:FX}{pos:Pos}
def repS (x:Str) (k:Nat):Str:=⟨List.foldl (fun x1 x2=>x1++x2) #[] (List.replicate k x.cps)⟩
theorem a6P (a:Array Nat):∀(k:Nat) (c:Array Nat),(List.foldl (fun x1 x2=>x1++x2) c (List.replicate k a)).size=c.size+a.size*k
 | 0,c=>by simp
 | k+1,c=>by rw[List.replicate_succ,List.foldl_cons,a6P a k,Array.size_append,Nat.mul_succ];walk_at "o"
theorem a6m (x:Str)(k:Nat):(repS x k).length=x.length*k:=by
 show(List.foldl (fun x1 x2=>x1++x2) #[] (List.replicate k x.cps)).size=x.cps.size*k;rw[a6P];exact Nat.zero_add _
theorem a8l:OpR X (binaryOp .Mult) (fun x y H Q=>∃l k,x= .str l/\y= .int k/\2<=k/\k<2^62/\l.length≠0/\l.length*k.toNat<=sizeLine/\Q (.str (repS l k.toNat)) H):=by
 intro pins s σ H x y v u Q I rx ry h;obtain⟨l,k,rfl,rfl,h1,h2,h3,h4,q⟩:=h;obtain⟨t,rfl⟩:=rx;obtain⟨u,rfl⟩:=ry;have big:¬(l.length:Int)>(2^63-1)/k:=fun z=>by
  have h5:(l.length:Int)*k<=sizeLine:=by
   have:((l.length*k.toNat:Nat):Int)<=(sizeLine:Nat):=by exact_mod_cast h4
   rwa [Int.natCast_mul,Int.toNat_of_nonneg (by walk_at "o")] at this
  have h6:((sizeLine:Nat):Int)<=2^63-1:=by rw[sizeLine_eq];decide
  have:=(Int.lt_ediv_iff_mul_lt (a:=(2:Int)^63-1) (b:=(l.length:Int)) (c:=k) (by walk_at "o"))
  exact absurd (Int.le_ediv_of_mul_le (by walk_at "o") (by walk_at "o":(l.length:Int)*k<=2^63-1)) (by walk_at "o")
 have n1:¬k<1:=by walk_at "o"
 have n2:(k==1||l.length==0)=false:=by
  rw[Bool.or_eq_false_iff];exact⟨by simpa using(by walk_at "o":k≠1),by simpa using h3⟩
 refine wpAny_binaryOp_repeat (T:="str") (U:="int") (by decide) (fun s'=>xX s' l t) (fun s'=>typeIs_int s' k u) noFill_str_mul F.fills_int_mul F.slot_int_rmul repeat_str F.slot_int_index.lookup
  (call_gives F.slot_int_rmul (typeIs_int s k u) F.entry_int_rmul (F.args_int_rmul_2 _ _) (AutoIntG1.int___rmul___int_str_0 k u l t) ⟨rfl,call_gives F.slot_str_mul (xX _ l t) F.entry_str_mul (F.args_str_mul_2 _ _) (gives_str_mul l k t u ?_ (fun _ _=>big) (fun _ _=>?_)) ?_⟩)
 ·rw[Bool.or_eq_false_iff];exact⟨zB (by walk_at "o"),zB (by walk_at "o")⟩
 ·unfold Builtin.Str.tooLong
  first|exact zB (by walk_at "o")|(simp;walk_at "o")
 ·rw[if_neg n1,n2];refine⟨?_,⟨.str _,H,I.tok _,⟨_,rfl⟩,q⟩⟩;rw[show(⟨List.foldl (fun x1 x2=>x1++x2) #[] (List.replicate k.toNat l.cps)⟩:Str)=repS l k.toNat from rfl,a6m];exact h4
def oRepS (x y:D):Option W:=match x,y with
 | .str l,.int k=>if(2<=k/\k<2^62)/\l.length≠0/\l.length*k.toNat<=lim then some (.v (.str (repS l k.toNat))) else none
 | _,_=>none
theorem a6e (ha:QX X a f)(hb:QX X b g):QX X (.BinOp a .Mult b pos) (fBin oRepS f g):=a0C a8l (by
 intro A x y w v u H Q _ e hx hy q;unfold oRepS at e;split at e
 ·split at e
  ·rename_i l k hc;cases e;have h1:=B6 hx;have h2:=u6 hy;exact⟨l,k,h1,h2,hc.1.1,hc.1.2,hc.2.1,zO hc.2.2 B5,q _ H (Same.refl H) N5⟩
  ·cases e
 ·cases e) ha hb
end
theorem a53 {p:Nat->Bool}:∀{l:List Nat},(l.takeWhile p).length=l.length↔∀c∈l,p c=true
 | []=>by simp
 | x::l=>by
  rw[takeWhile_cons];cases h:p x with
  | false=>simp[h]
  | true=>simp[h,a53 (p:=p) (l:=l)]
theorem a8X {x y:Str}:Txt.stripChars x y=Str.ofString ""↔∀c∈x.cps.toList,c∈y.cps.toList:=by
 have hp:∀c,y.cps.contains c=true↔c∈y.cps.toList:=fun c=>by simp
 unfold Txt.stripChars;rw[PyProof.Rows.stripBy_eq];generalize hg:y.cps.contains=p at *;have lo:stripLo p true x=(x.cps.toList.takeWhile p).length:=by unfold stripLo;rw[if_pos rfl]
 rw[lo];have hi:stripHi p true x (x.cps.toList.takeWhile p).length=x.length-(List.takeWhile p (List.drop (x.cps.toList.takeWhile p).length x.cps.toList).reverse).length:=by unfold stripHi;rw[if_pos rfl]
 rw[hi];have le:(x.cps.toList.takeWhile p).length<=x.cps.toList.length:=(List.takeWhile_prefix p).length_le;constructor
 ·intro e;have e1:=jF (fun s:Str=>s.cps.toList.length) e;simp only[PySem.StrLaws.strSub_toList] at e1;have z:(Str.ofString "").cps.toList.length=0:=rfl;rw[z,length_take,qW,M9] at e1;have l2:(List.takeWhile p (List.drop (x.cps.toList.takeWhile p).length x.cps.toList).reverse).length<=(List.drop (x.cps.toList.takeWhile p).length x.cps.toList).reverse.length:=(List.takeWhile_prefix p).length_le;rw[List.length_reverse,qW] at l2
  by_cases q:(x.cps.toList.takeWhile p).length=x.cps.toList.length
  ·intro c hc;exact(hp c).mp (a53.mp q c hc)
  ·
   exfalso
   have l3:(List.takeWhile p (List.drop (x.cps.toList.takeWhile p).length x.cps.toList).reverse).length=(List.drop (x.cps.toList.takeWhile p).length x.cps.toList).reverse.length:=by
    rw[List.length_reverse,qW];walk_at "o"
   have al:=a53.mp l3
   have ne:x.cps.toList.dropWhile p≠[]:=fun e2=>q (by
    have:=jF List.length (jL (p:=p) (l:=x.cps.toList))
    rw[e2,jT] at this;exact this)
   have dd:List.drop (x.cps.toList.takeWhile p).length x.cps.toList=x.cps.toList.dropWhile p:=by
    conv=>lhs;rw[<-jL (p:=p) (l:=x.cps.toList)]
    rw[jL]
    conv=>lhs;rhs;rw[<-jL (p:=p) (l:=x.cps.toList)]
    exact List.drop_left
   rw[dd] at al;have h1:=List.head_dropWhile_not p ne;have h2:=al _ (List.mem_reverse.mpr (List.head_mem ne));rw[h1] at h2;cases h2
 ·intro h;have q:(x.cps.toList.takeWhile p).length=x.cps.toList.length:=a53.mpr fun c hc=>(hp c).mpr (h c hc);apply N8;rw[PySem.StrLaws.strSub_toList,q,drop_length,List.take_nil];rfl
section
variable {X:Cx}{e tg iter:Expr}{body:List Stmt}{pos:Pos}{re:FRe}{r:FR}{fi:FI}{gf:FG}{F:FS}
theorem a52 (h:PRe X e re):PR X (.Return (some e) pos) (fRE re):=by
 refine⟨fun pins s σ H P O ρ C I rp hr hx=>?_⟩;obtain⟨⟨C',ρ'⟩,e1,e2⟩:=oms hr;dsimp only at e2;subst e2;refine wpAny_Return_some (zJ (h.to pins s σ H P O ρ ρ' C' I rp e1) (fun _ _ z=>z.elim) fun v s' ⟨x,H1,s1,H',ev,I1,r1,s2,F⟩=>?_);exact hx _ _ ⟨pins,σ,x,H1,s1,ev,I1,r1.same0,.inr (.inl ⟨H',s2,F⟩)⟩
def turnR (F:FS) (r:FR) (k:Ev->Option Addr) (ρ:Ev):Option Addr:=match r ρ with
 | some C=>some C
 | none=>match F ρ with
  | some (.nx ρ')=>k ρ'
  | _=>none
def loopR (gf:FG) (F:FS) (r:FR):List D->Ev->Option Addr
 | [],_=>none
 | x::xs,ρ=>(gf x ρ).bind (turnR F r (loopR gf F r xs))
def fRFor (fi:FI) (gf:FG) (F:FS) (r:FR):FR:=fun ρ=>(fi ρ).bind fun p=>loopR gf F r p.1 p.2
theorem b3G (hp:PassesOwn (model X.prog X.w) X.A X.env X.xe)(hc:X.calm=true)(hi:QI X tg iter fi)(hg:QG X tg gf)(hb:QSs X body F)(hr:PRs X body r)(hs:∀x,foldedSetIterable iter X.env x=pure x:=by intro _;rfl):
  PR X (.For tg iter body [] pos) (fRFor fi gf F r):=by
 refine⟨fun pins s σ H P O ρ C I rp he hx=>?_⟩;obtain⟨g,pg,kg⟩:=hg.to;unfold fRFor at he;obtain⟨⟨xs,ρ1⟩,e1,e⟩:=obs he;dsimp only at e;have both:PSs X body (fun D σ H=>tS X F D σ H\/∃P O ρ,Rep X P O [] ρ σ H/\r ρ=some C):=by
  intro pins s σ H D I h;rcases h with h|⟨P,O,ρ,rp,e⟩
  ·exact hb.to pins s σ H D I h
  ·exact zJ (hr.to pins s σ H P O ρ C I rp e hx) (fun _ _ z=>z.elim) fun _ _ z=>z
 have key:=b0D hp hc hi.to pg both hs (pos:=pos) pins s σ H {nx:=fun _ _=>False,rt:=fun _ _=>False} I ⟨P,O,[],ρ,xs,ρ1,rp,e1,fun J H1 P' r1 hh wk=>by
  refine⟨fun i m σ H=>m=xs.length-i/\i<=xs.length/\∃ρ,Rep X P' O [] ρ σ H/\loopR gf F r (xs.drop i) ρ=some C,⟨xs.length,by simp,qK _,ρ1,r1,by simpa using e⟩,?_⟩
  rintro i m σ H ⟨rfl,hi,ρ,rp,e⟩;obtain⟨wi,ws⟩:=wk X O [] ρ σ H rfl rp
  by_cases hlt:i<xs.length
  ·obtain⟨go,yl⟩:=wi i xs[i] (by simp[hlt])
   refine .inr ⟨go,fun σ' H'=>∃ρ,Rep X P' O [] ρ σ' H'/\loopR gf F r (xs.drop (i+1)) ρ=some C,fun σ' H' h=>⟨xs.length-(i+1),by walk_at "o",rfl,hlt,h⟩,fun v H' y=>?_⟩
   obtain⟨sm,dv⟩:=yl v H' y;rw[xE hlt,loopR] at e;obtain⟨ρ2,e2,e3⟩:=obs e;refine kg P' O [] xs[i] v ρ ρ2 σ _ _ (rp.grow sm) dv e2 fun σ' H2 rp'=>?_;unfold turnR at e3;split at e3
   ·rename_i C' hC;cases e3;exact .inr ⟨P',O,ρ2,rp',hC⟩
   ·split at e3
    ·rename_i ρ3 hF;exact .inl ⟨P',O,[],ρ2,.nx ρ3,rp',hF,fun σ2 H2 rp2=>⟨ρ3,rp2,e3⟩⟩
    ·cases e3
  ·have ei:i=xs.length:=by walk_at "o"
   subst ei;rw[drop_length,loopR] at e
   cases e⟩
 refine zJ key (fun fl s' q=>?_) fun _ _ z=>z;cases fl with
 | next=>obtain⟨_,_,_,z⟩:=q;exact z
 | ret v=>obtain⟨_,_,_,_,_,z⟩:=q;exact z
 | brk=>obtain⟨_,_,_,z⟩:=q;exact z
 | cont=>obtain⟨_,_,_,z⟩:=q;exact z
end
section
variable {r:FR}{F:FS}{gf:FG}{fi:FI}{ρ:Ev}{xs:List D}
def rf1 (gf:FG) (F:FS) (r:FR):Option (List D×Ev)->Option Addr
 | some p=>loopR gf F r p.1 p.2
 | none=>none
theorem r_rf:fRFor fi gf F r ρ=rf1 gf F r (fi ρ):=by unfold fRFor rf1;cases fi ρ<;>rfl
theorem r_rf1:rf1 gf F r (some (xs,ρ))=loopR gf F r xs ρ:=rfl
end
def optD:Option Int->D
 | none=>.non
 | some i=>.int i
section
variable {X:Cx}{elt tg iter:Expr}{ifs:List Expr}{scope:Scope}{pos pos1 pos2:Pos}{re:FRe}{x:Str}
theorem a6V (h:PRe X iter re)(hs:swapsWith (.ListComp elt [⟨tg,iter,ifs,0⟩] scope pos) (some (.Name x pos1)) pos2.line X.env=pure true:=by rfl):PR X (.Assign [.Name x pos1] (.ListComp elt [⟨tg,iter,ifs,0⟩] scope pos) pos2) (fRE re):=by
 refine⟨fun pins s σ H P O ρ C I rp hr hx=>?_⟩;obtain⟨⟨C',ρ'⟩,e1,e2⟩:=oms hr;dsimp only at e2;subst e2;rw[exec_Assign_Name_used _ _ _ _ hs];refine zA (xA (zA ?_));show wpAny _ _ (do let _ <-comprehension (.ListComp elt [⟨tg,iter,ifs,0⟩] scope pos) scope X.env (firstIterPos [⟨tg,iter,ifs,0⟩] pos) (newList []) false (eval iter X.env) (some _)) _ _ s
 refine zA ?_;unfold comprehension;refine zA (zJ (h.to pins s σ H P O ρ ρ' C' I rp e1) (fun _ _ z=>z.elim) fun v s' ⟨x,H1,s1,H',ev,I1,r1,s2,F⟩=>?_);exact hx _ _ ⟨pins,σ,x,H1,s1,ev,I1,r1.same0,.inr (.inl ⟨H',s2,F⟩)⟩
end
def dgB (c:Nat):Bool:=decide (48<=c/\c<=57)
def okN (l:List Nat):Bool:=decide (1<=l.length/\l.length<=60)&&l.all dgB&&(!(l.head? == some 48)||decide (l=[48]))
def numL (l:List Nat):Option Int:=if okN l=true then some ((digitsVal l:Nat):Int) else none
def numI:List Nat->Option Int
 | 45::w=>if okN w=true/\w≠[48] then some (-((digitsVal w:Nat):Int)) else none
 | l=>numL l
theorem T1 {l:List Nat}(h:l.head? ≠some 45):numI l=numL l:=by
 unfold numI
 split
 ·exact absurd rfl h
 ·rfl
theorem a5R {l:List Nat}(h:okN l=true):∀c∈l,48<=c/\c<=57:=by
 unfold okN at h;rw[qF,qF] at h;intro c hc
 have:=qX.mp h.1.2 c hc
 unfold dgB at this;exact qP.mp this
theorem a9p {l:List Nat}{c:Nat}(hc:c∈l)(h:c<48\/57<c):okN l=false:=by
 cases q:okN l with
 | false=>rfl
 | true=>have:=a5R q c hc;walk_at "o"
theorem a7V {l:List Nat}{c:Nat}(hc:c∈l)(h:c<48\/57<c):numL l=none:=by
 unfold numL;rw[a9p hc h];rfl
theorem a5J {l:List Nat}{c:Nat}(hc:c∈l)(h:(c<48/\c≠45)\/57<c):numI l=none:=by
 unfold numI
 split
 ·rename_i w
  have:c∈w:=by
   rcases zT.mp hc with z|z
   ·walk_at "o"
   ·exact z
  rw[a9p this (by walk_at "o")];simp
 ·exact a7V hc (by walk_at "o")
theorem a3H {l:List Nat}{n:Int}(h:numL l=some n):0<=n:=by
 unfold numL at h;split at h
 ·cases h;exact Int.natCast_nonneg _
 ·cases h
theorem b0u:numI []=none:=rfl
theorem a9S:∀(l:List Nat) {v:Nat},0<v->0<l.foldl (fun v c=>v*10+(c-48)) v
 | [],_,h=>h
 | c::l,v,h=>a9S l (v:=v*10+(c-48)) (by walk_at "o")
theorem b3e {l:List Nat}{a:Nat}(h:48<a):digitsVal (a::l)≠0:=by
 have:=a9S l (v:=0*10+(a-48)) (by walk_at "o")
 exact Nat.ne_of_gt this
theorem a8s {l:List Nat}(h:okN l=true):digitsVal l=0↔l=[48]:=by
 constructor
 ·intro e;cases l with
  | nil=>unfold okN at h;simp at h
  | cons a r=>
   by_cases ha:a=48
   ·subst ha;unfold okN at h;rw[qF] at h;simpa using h.2
   ·have:=a5R h a zG
    exact absurd e (b3e (by walk_at "o"))
 ·rintro rfl;rfl
def cutL (c:Nat):List Nat->List (List Nat)
 | []=>[[]]
 | x::r=>if x=c then[]::cutL c r else match cutL c r with
  | a::t=>(x::a)::t
  | []=>[[x]]
theorem E1 (c:Nat):∀l:List Nat,cutL c l≠[]
 | []=>fun h=>nomatch h
 | x::r=>by
  unfold cutL
  split
  ·exact fun h=>nomatch h
  ·split<;>exact fun h=>nomatch h
theorem Q4 {c:Nat}:∀{l:List Nat},c∉l->cutL c l=[l]
 | [],_=>rfl
 | x::r,h=>by
  have h1:x≠c:=fun e=>h (e▸zG);unfold cutL;rw[if_neg h1,Q4 fun m=>h (zH _ m)]
theorem a13 {c:Nat}:∀{a b:List Nat},c∉a->cutL c (a++c::b)=a::cutL c b
 | [],b,_=>by rw[nil_append,cutL,if_pos rfl]
 | x::a,b,h=>by
  have h1:x≠c:=fun e=>h (e▸zG);rw[xM,cutL,if_neg h1,a13 fun m=>h (zH _ m)]
theorem Z1 (c:Nat):∀l:List Nat,c∉l\/∃a b,c∉a/\l=a++c::b
 | []=>.inl (by simp)
 | x::r=>by
  by_cases h:x=c
  ·exact .inr ⟨[],r,by simp,by rw[h];rfl⟩
  ·rcases Z1 c r with q|⟨a,b,q,rfl⟩
   ·exact .inl (by simp[qA h,q])
   ·exact .inr ⟨x::a,b,by simp[qA h,q],rfl⟩
theorem a6n {c:Nat}:∀{l:List Nat},c∈l->2<=(cutL c l).length:=by
 intro l h;rcases Z1 c l with q|⟨a,b,q,rfl⟩
 ·exact absurd h q
 ·rw[a13 q,zU]
  have:=E1 c b
  have:(cutL c b).length≠0:=fun e=>this (List.length_eq_zero_iff.mp e)
  walk_at "o"
def gcdI (a b:Int):Int:=(Int.gcd a b:Nat)
def ratI (l:List Nat):Option (Int×Int):=
 if 47∈l then match numI (l.takeWhile (·≠47)),numI ((l.dropWhile (·≠47)).drop 1) with
  | some t,some b=>if(0<b/\gcdI t b=1)/\1<b then some (t,b) else none
  | _,_=>none
 else(numI l).map fun w=>(w,1)
def ratB (s:Int) (ps:List (List Nat)):Option (Int×Int):=match ps.map numL with
 | [some n]=>if s<0/\n=0 then none else some (s*n,1)
 | [some n,some m]=>if(s<0/\n=0)\/m<2\/gcdI n m≠1 then none else some (s*n,m)
 | _=>none
def ratL:List Nat->Option (Int×Int)
 | 45::w=>ratB (-1) (cutL 47 w)
 | l=>ratB 1 (cutL 47 l)
theorem a4Y {s:Int}{a b c:List Nat}{r:List (List Nat)}:ratB s (a::b::c::r)=none:=by
 unfold ratB;simp only[zR];cases numL a<;>cases numL b<;>rfl
theorem tw_at {a b:List Nat}(h:47∉a):(a++47::b).takeWhile (·≠47)=a:=by
 induction a with
 | nil=>simp
 | cons x a ih=>
  have h1:x≠47:=fun e=>h (e▸zG);rw[xM,takeWhile_cons,if_pos (by simpa using h1),ih fun m=>h (zH _ m)]
theorem dw_at {a b:List Nat}(h:47∉a):((a++47::b).dropWhile (·≠47)).drop 1=b:=by
 induction a with
 | nil=>simp
 | cons x a ih=>
  have h1:x≠47:=fun e=>h (e▸zG);rw[xM,List.dropWhile_cons,if_pos (by simpa using h1),ih fun m=>h (zH _ m)]
theorem a35 {w:List Nat}:numI (45::w)=(numL w).bind fun n=>if n=0 then none else some (-n):=by
 unfold numI numL;cases q:okN w with
 | false=>simp[q]
 | true=>
  simp only[qT,bind_some];have z:=a8s q
  by_cases e:w=[48]
  ·rw[if_neg (fun h=>h.2 e),if_pos (by exact_mod_cast z.mpr e)]
  ·rw[if_pos ⟨q,e⟩,if_neg (fun h=>e (z.mp (by exact_mod_cast h)))]
theorem a5Z {l:List Nat}{b:Int}(h:l.head? =some 45)(e:numI l=some b):b<=0:=by
 cases l with
 | nil=>cases h
 | cons x r=>
  have:x=45:=by simpa using h
  subst this;rw[a35] at e;cases q:numL r with
  | none=>rw[q] at e;cases e
  | some n=>
   rw[q] at e;simp only[bind_some] at e
   have:=a3H q
   split at e
   ·cases e
   ·cases e;walk_at "o"
theorem a2G {l:List Nat}(h:l.head? =some 45):numL l=none:=by
 cases l with
 | nil=>cases h
 | cons x r=>
  have:x=45:=by simpa using h
  subst this;exact a7V zG (by walk_at "o")
theorem a9C (b:List Nat)(P:Int->Option (Int×Int))(hP:∀m,m<=1->P m=none):(numI b).bind P=(numL b).bind P:=by
 by_cases h:b.head? =some 45
 ·rw[a2G h];cases q:numI b with
  | none=>rfl
  | some m=>exact hP m (by have:=a5Z h q;walk_at "o")
 ·rw[T1 h]
theorem a96 (a b:Int):gcdI (-a) b=gcdI a b:=by unfold gcdI;rw[Int.neg_gcd]
theorem a7O {a b:List Nat}(h:47∉a):ratI (a++47::b)=(numI a).bind fun t=>(numI b).bind fun m=>if(0<m/\gcdI t m=1)/\1<m then some (t,m) else none:=by
 unfold ratI;rw[if_pos (by simp),tw_at h,dw_at h]
 cases numI a<;>cases numI b<;>rfl
theorem a6z {s:Int}{a b:List Nat}:ratB s [a,b]=(numL a).bind fun n=>(numL b).bind fun m=>if(s<0/\n=0)\/m<2\/gcdI n m≠1 then none else some (s*n,m):=by
 unfold ratB;simp only[zR,jZ];cases numL a<;>cases numL b<;>rfl
theorem a6D {s:Int}{a:List Nat}:ratB s [a]=(numL a).bind fun n=>if s<0/\n=0 then none else some (s*n,1):=by
 unfold ratB;simp only[zR,jZ];cases numL a<;>rfl
theorem a3e {b:List Nat}(h:47∈b):∃x y r,cutL 47 b=x::y::r:=by
 have:=a6n h
 match cutL 47 b,this with
 | x::y::r,_=>exact⟨x,y,r,rfl⟩
theorem a6H (l:List Nat):ratI l=ratL l:=by
 by_cases hm:l.head? =some 45
 ·cases l with
  | nil=>cases hm
  | cons x w=>
   have:x=45:=by simpa using hm
   subst this;show _=ratB (-1) (cutL 47 w);rcases Z1 47 w with q|⟨a,b,q,rfl⟩
   ·rw[Q4 q,a6D];unfold ratI;rw[if_neg (by simp[q]),a35]
    cases numL w with
    | none=>rfl
    | some n=>
     simp only[bind_some]
     by_cases e:n=0
     ·rw[if_pos e,if_pos ⟨by decide,e⟩];rfl
     ·rw[if_neg e,if_neg (fun z=>e z.2)];show some (-n,(1:Int))=some (-1*n,1);rw[Int.neg_mul,Int.one_mul]
   ·rw[a13 q,<-xM,a7O (by simp[q]),a35]
    by_cases hb:47∈b
    ·obtain⟨u,v,r,e⟩:=a3e hb;rw[e,a4Y,a5J hb (by walk_at "o")]
     cases numL a with
     | none=>rfl
     | some n=>simp only[bind_some];split<;>rfl
    ·rw[Q4 hb,a6z];cases numL a with
     | none=>rfl
     | some n=>
      simp only[bind_some]
      by_cases e:n=0
      ·rw[if_pos e];cases numL b with
       | none=>rfl
       | some m=>simp only[bind_some,bind_none];rw[if_pos (.inl ⟨by decide,e⟩)]
      ·rw[if_neg e,bind_some,a9C _ _ (fun m hm=>if_neg (by walk_at "o"))]
       cases numL b with
       | none=>rfl
       | some m=>
        simp only[bind_some,a96]
        by_cases g:1<m/\gcdI n m=1
        ·rw[if_pos (by walk_at "o"),if_neg (by walk_at "o"),Int.neg_mul,Int.one_mul]
        ·rw[if_neg (by walk_at "o"),if_pos (by walk_at "o")]
 ·have e1:ratL l=ratB 1 (cutL 47 l):=by
   unfold ratL
   split
   ·exact absurd rfl hm
   ·rfl
  rw[e1];rcases Z1 47 l with q|⟨a,b,q,rfl⟩
  ·rw[Q4 q,a6D];unfold ratI;rw[if_neg q,T1 hm];cases numL l with
   | none=>rfl
   | some n=>simp
  ·have ha:a.head? ≠some 45:=by
    cases a with
    | nil=>exact fun z=>nomatch z
    | cons x a=>simpa using hm
   rw[a13 q,a7O q,T1 ha]
   by_cases hb:47∈b
   ·obtain⟨u,v,r,e⟩:=a3e hb;rw[e,a4Y,a5J hb (by walk_at "o")]
    cases numL a<;>rfl
   ·rw[Q4 hb,a6z];cases numL a with
    | none=>rfl
    | some n=>
     simp only[bind_some];rw[a9C _ _ (fun m hm=>if_neg (by walk_at "o"))]
     cases numL b with
     | none=>rfl
     | some m=>
      simp only[bind_some]
      by_cases g:1<m/\gcdI n m=1
      ·rw[if_pos (by walk_at "o"),if_neg (by walk_at "o"),Int.one_mul]
      ·rw[if_neg (by walk_at "o"),if_pos (by walk_at "o")]
theorem a6Q {c:Nat}:∀{l p:List Nat},p∈cutL c l->c∉p:=by
 intro l
 induction l with
 | nil=>
  intro p h;obtain rfl:p=[]:=(by simpa [cutL] using h);simp
 | cons x r ih=>
  intro p h;unfold cutL at h
  by_cases e:x=c
  ·rw[if_pos e] at h;rcases zT.mp h with z|z
   ·subst z;simp
   ·exact ih z
  ·rw[if_neg e] at h;cases q:cutL c r with
   | nil=>exact absurd q (E1 c r)
   | cons a t=>
    rw[q] at h ih;rcases zT.mp h with z|z
    ·subst z
     have:=ih (zG (a:=a) (l:=t))
     simp[this,qA e]
    ·exact ih (zH _ z)
theorem a9h {l:List Nat}(h:45∉l):numI l=numL l:=T1 fun e=>by
 cases l with
 | nil=>cases e
 | cons x r=>
  have:x=45:=by simpa using e
  exact h (this▸zG)
def parI (l:List Nat):Option (List Int):=match(cutL 45 l).map numI with
 | [some a]=>if 0<=a/\a<8 then some [a] else none
 | [some a,some b]=>if((0<=a/\a<8)/\0<=b/\b<8)/\a<b then some [a,b] else none
 | _=>none
def parL (l:List Nat):Option (List Int):=match(cutL 45 l).map numL with
 | [some a]=>if 7<a then none else some [a]
 | [some a,some b]=>if 7<max a b\/b<=a then none else some [a,b]
 | _=>none
theorem a2j (l:List Nat):parI l=parL l:=by
 have e:(cutL 45 l).map numI=(cutL 45 l).map numL:=List.map_congr_left fun p hp=>a9h (a6Q hp);unfold parI parL;rw[e];generalize hps:(cutL 45 l).map numL=ps;have nn:∀i,some i∈ps->0<=i:=fun i hi=>by
  rw[<-hps] at hi;obtain⟨p,_,q⟩:=zY.mp hi;exact a3H q
 match ps,nn with
 | [],_=>rfl
 | [none],_=>rfl
 | [some a],nn=>
  have:=nn a (by simp)
  dsimp only
  by_cases h:a<8
  ·rw[if_pos ⟨this,h⟩,if_neg (by walk_at "o")]
  ·rw[if_neg (by walk_at "o"),if_pos (by walk_at "o")]
 | [none,_],_=>rfl
 | [some _,none],_=>rfl
 | [some a,some b],nn=>
  have h1:=nn a (by simp)
  have h2:=nn b (by simp)
  dsimp only
  by_cases h:b<8/\a<b
  ·rw[if_pos (by walk_at "o"),if_neg (by walk_at "o")]
  ·rw[if_neg (by walk_at "o"),if_pos (by walk_at "o")]
 | none::_::_::_,_=>rfl
 | some _::none::_::_,_=>rfl
 | some _::some _::_::_,_=>rfl
theorem a5B {l:List Nat}{ps:List Int}(h:parL l=some ps):(∃a,ps=[a]/\0<=a/\a<8)\/∃a b,ps=[a,b]/\0<=a/\a<b/\b<8:=by
 rw[<-a2j] at h;unfold parI at h;split at h
 ·split at h
  ·cases h;rename_i a _ z;exact .inl ⟨a,rfl,z.1,z.2⟩
  ·cases h
 ·split at h
  ·cases h;rename_i a b _ z;exact .inr ⟨a,b,rfl,z.1.1.1,z.2,z.1.2.2⟩
  ·cases h
 ·cases h
abbrev T3:=Int×Int×Int
def headC (c:Nat) (l:List Nat):List Nat:=l.takeWhile (·≠c)
def restC (c:Nat) (l:List Nat):List Nat:=(l.dropWhile (·≠c)).drop 1
theorem a6q {c:Nat}{a b:List Nat}(h:c∉a):headC c (a++c::b)=a:=by
 unfold headC
 induction a with
 | nil=>simp
 | cons x a ih=>
  have h1:x≠c:=fun e=>h (e▸zG);rw[xM,takeWhile_cons,if_pos (by simpa using h1),ih fun m=>h (zH _ m)]
theorem a6I {c:Nat}{a b:List Nat}(h:c∉a):restC c (a++c::b)=b:=by
 unfold restC
 induction a with
 | nil=>simp
 | cons x a ih=>
  have h1:x≠c:=fun e=>h (e▸zG);rw[xM,List.dropWhile_cons,if_pos (by simpa using h1),ih fun m=>h (zH _ m)]
theorem a4j {c:Nat}{a:List Nat}(h:c∉a):headC c a=a:=by
 unfold headC
 induction a with
 | nil=>rfl
 | cons x a ih=>
  have h1:x≠c:=fun e=>h (e▸zG);rw[takeWhile_cons,if_pos (by simpa using h1),ih fun m=>h (zH _ m)]
theorem a34 {c:Nat}{a:List Nat}(h:c∉a):restC c a=[]:=by
 unfold restC
 induction a with
 | nil=>rfl
 | cons x a ih=>
  have h1:x≠c:=fun e=>h (e▸zG);rw[List.dropWhile_cons,if_pos (by simpa using h1),ih fun m=>h (zH _ m)]
def tieI (l:List Nat):Option T3:=match parI (headC 58 l),numI (restC 58 l) with
 | some [p,q],some g=>some (p,q,g)
 | _,_=>none
def gainOk (g:Int):Prop:=1<=g/\g<=10^12
instance (g:Int):Decidable (gainOk g):=inferInstanceAs (Decidable (_/\_))
def tieL (l:List Nat):Option T3:=match cutL 58 l with
 | [a,b]=>match parL a,numL b with
  | some [p,q],some g=>if gainOk g then some (p,q,g) else none
  | _,_=>none
 | _=>none
theorem a9I (l:List Nat):((tieI l).bind fun t=>if gainOk t.2.2 then some t else none)=tieL l:=by
 unfold tieI tieL;rcases Z1 58 l with q|⟨a,b,q,rfl⟩
 ·rw[Q4 q,a4j q,a34 q,b0u];cases parI l with
  | none=>rfl
  | some ps=>match ps with
   | []=>rfl
   | [_]=>rfl
   | [_,_]=>rfl
   | _::_::_::_=>rfl
 ·rw[a6q q,a6I q,a13 q,a2j]
  by_cases hb:58∈b
  ·have:=a6n hb
   rw[a5J hb (by walk_at "o")]
   match cutL 58 b,this with
   | x::y::r,_=>
    cases parL a with
    | none=>rfl
    | some ps=>match ps with
     | []=>rfl
     | [_]=>rfl
     | [_,_]=>rfl
     | _::_::_::_=>rfl
  ·rw[Q4 hb];dsimp only;cases parL a with
   | none=>rfl
   | some ps=>match ps with
    | []=>rfl
    | [_]=>rfl
    | [p,r]=>
     by_cases h:b.head? =some 45
     ·rw[a2G h];cases e:numI b with
      | none=>rfl
      | some g=>
       have:=a5Z h e
       show(if gainOk g then _ else none)=none;rw[if_neg (by unfold gainOk;walk_at "o")]
     ·rw[T1 h];cases numL b with
      | none=>rfl
      | some g=>rfl
    | _::_::_::_=>rfl
def pairLt (s t:T3):Prop:=s.1<t.1\/(s.1=t.1/\s.2.1<t.2.1)
instance (s t:T3):Decidable (pairLt s t):=inferInstanceAs (Decidable (_\/_))
def allS:List (Option T3)->Option (List T3)
 | []=>some []
 | some t::r=>(allS r).map (t :: ·)
 | none::_=>none
def triOk (n:Int) (t:T3):Prop:=((0<=t.1/\t.1<n)/\(0<=t.2.1/\t.2.1<n)/\t.1≠t.2.1)/\gainOk t.2.2/\t.1<t.2.1
instance (n:Int) (t:T3):Decidable (triOk n t):=inferInstanceAs (Decidable (_/\_))
def risesT:List T3->Prop
 | s::t::r=>pairLt s t/\risesT (t::r)
 | _=>True
def decR:∀ts:List T3,Decidable (risesT ts)
 | []=>Decidable.isTrue trivial
 | [_]=>Decidable.isTrue trivial
 | s::t::r=>match(inferInstance:Decidable (pairLt s t)),decR (t::r) with
  | Decidable.isTrue h,Decidable.isTrue k=>Decidable.isTrue ⟨h,k⟩
  | Decidable.isFalse h,_=>Decidable.isFalse fun z=>h z.1
  | _,Decidable.isFalse k=>Decidable.isFalse fun z=>k z.2
instance (ts:List T3):Decidable (risesT ts):=decR ts
def tiesI (n:Int) (ws:List (List Nat)):Option (List T3):=(allS (ws.map tieI)).bind fun ts=>if(∀t∈ts,triOk n t)/\risesT ts then some ts else none
def stepOk (n:Int) (last:Option T3) (t:T3):Prop:=t.2.1<n/\∀s,last=some s->pairLt s t
instance (n:Int) (last:Option T3) (t:T3):Decidable (stepOk n last t):=match last with
 | none=>if h:t.2.1<n then Decidable.isTrue ⟨h,fun _ z=>nomatch z⟩ else Decidable.isFalse fun z=>h z.1
 | some s=>if h:t.2.1<n/\pairLt s t then Decidable.isTrue ⟨h.1,fun _ z=>by cases z;exact h.2⟩ else Decidable.isFalse fun z=>h ⟨z.1,z.2 s rfl⟩
def goL (n:Int):Option T3->List (List Nat)->Option (List T3)
 | _,[]=>some []
 | last,w::r=>(tieL w).bind fun t=>if stepOk n last t then(goL n (some t) r).map (t :: ·) else none
theorem b05 {l:List Nat}{t:T3}(h:tieL l=some t):(0<=t.1/\t.1<t.2.1)/\gainOk t.2.2:=by
 unfold tieL at h;split at h
 ·split at h
  ·split at h
   ·cases h;rename_i _ a b p q g e1 e2 hg;rcases a5B e1 with ⟨x,e,_⟩|⟨x,y,e,h1,h2,_⟩
    ·cases e
    ·cases e;exact⟨⟨h1,h2⟩,hg⟩
   ·cases h
  ·cases h
 ·cases h
theorem a6E (n:Int):∀(ws:List (List Nat)) (last:Option T3),goL n last ws=(allS (ws.map tieI)).bind fun ts=>if(∀t∈ts,triOk n t)/\(∀s,last=some s->risesT (s::ts))/\(last=none->risesT ts) then some ts else none
 | [],last=>by
  show some []=(if _ then some [] else none);rw[if_pos ⟨fun _ h=>(nomatch h),fun _ _=>trivial,fun _=>trivial⟩]
 | w::r,last=>by
  have ts:=a9I w;show(tieL w).bind _=(allS (tieI w::r.map tieI)).bind _;cases e:tieI w with
  | none=>
   rw[e] at ts;rw[<-ts];rfl
  | some t=>
   rw[e] at ts;simp only[bind_some] at ts;show _=((allS (r.map tieI)).map (t :: ·)).bind _
   by_cases hg:gainOk t.2.2
   ·rw[if_pos hg] at ts;have ok:=b05 ts.symm;rw[<-ts,bind_some,a6E n r (some t)];cases allS (r.map tieI) with
    | none=>simp only[bind_none,qN];split<;>rfl
    | some tt=>
     simp only[bind_some,qH]
     by_cases hs:stepOk n last t
     ·rw[if_pos hs]
      by_cases hr:(∀u∈tt,triOk n u)/\risesT (t::tt)
      ·rw[if_pos ⟨hr.1,fun s z=>by cases z;exact hr.2,fun z=>nomatch z⟩,if_pos]
       ·rfl
       ·refine⟨fun u hu=>?_,fun s z=>⟨hs.2 s z,hr.2⟩,fun _=>hr.2⟩;rcases zT.mp hu with z|z
        ·subst z
         have:=hs.1
         exact⟨⟨⟨ok.1.1,by walk_at "o"⟩,⟨by walk_at "o",this⟩,by walk_at "o"⟩,hg,ok.1.2⟩
        ·exact hr.1 u z
      ·rw[if_neg (fun z=>hr ⟨z.1,z.2.1 t rfl⟩),if_neg]
       ·rfl
       ·intro z;refine hr ⟨fun u hu=>z.1 u (zH _ hu),?_⟩;cases last with
        | none=>exact z.2.2 rfl
        | some s=>exact(z.2.1 s rfl).2
     ·rw[if_neg hs,if_neg];intro z;refine hs ⟨(z.1 t zG).1.2.1.2,fun s e=>(z.2.1 s e).1⟩
   ·rw[if_neg hg] at ts;rw[<-ts];cases allS (r.map tieI) with
    | none=>rfl
    | some tt=>
     show none=if _ then _ else none;rw[if_neg fun z=>hg (z.1 t zG).2.1]
def webC:List Nat:=[119,101,98]
def webI (l:List Nat):Option (Int×List T3):=match cutL 32 l with
 | w::v::r=>if w=webC then(numI v).bind fun n=>if 1<=n/\n<=8 then(tiesI n r).map fun ts=>(n,ts) else none else none
 | _=>none
def webL (l:List Nat):Option (Int×List T3):=match cutL 32 l with
 | w::v::r=>if w=webC then(numL v).bind fun n=>if 1<=n/\n<=8 then(goL n none r).map fun ts=>(n,ts) else none else none
 | _=>none
theorem a95 (l:List Nat):webI l=webL l:=by
 unfold webI webL
 split
 ·rename_i w v r _
  split
  ·by_cases h:v.head? =some 45
   ·rw[a2G h];cases e:numI v with
    | none=>rfl
    | some n=>
     have:=a5Z h e
     show(if _ then _ else none)=none;rw[if_neg (by walk_at "o")]
   ·rw[T1 h];cases numL v with
    | none=>rfl
    | some n=>
     simp only[bind_some];rw[a6E n r none];unfold tiesI;congr 2;cases allS (r.map tieI) with
     | none=>rfl
     | some ts=>
      simp only[bind_some]
      by_cases q:(∀t∈ts,triOk n t)/\risesT ts
      ·rw[if_pos q,if_pos ⟨q.1,fun _ z=>(nomatch z),fun _=>q.2⟩]
      ·rw[if_neg q,if_neg fun z=>q ⟨z.1,z.2.2 (by trivial)⟩]
  ·rfl
 ·rfl
abbrev sO (l:List Nat):Str:=⟨l.toArray⟩
theorem a4m (x:Str):sO x.cps.toList=x:=N8 rfl
theorem k7 (l:List Nat):(sO l).length=l.length:=M9 _
theorem W9 (a b:List Nat):sO a++sO b=sO (a++b):=N8 (by rw[xN,jI])
theorem P4 (a b:List Nat):(sO a==sO b)=decide (a=b):=by
 rw[jN,beq_iff_eq,qP];exact⟨fun e=>jF (fun s:Str=>s.cps.toList) e,fun e=>by rw[e]⟩
structure Tx (l:List Nat):Prop where
 n:l.length<=300000
 a:∀c∈l,c<128
theorem Tx.lim {l:List Nat}(h:Tx l):(sO l).length<=lim:=by rw[k7];have:=h.n;unfold Z.lim;walk_at "o"
theorem Tx.lim' {l:List Nat}(h:Tx l):(sO l).length<=1000000:=by rw[k7];have:=h.n;walk_at "o"
theorem Tx.asc {l:List Nat}(h:Tx l):(sO l).cps.all (· < 128)=true:=by
 rw[xR];intro c hc;have hc:c∈l:=by simpa using hc
 simpa using h.a c hc
theorem Tx.sub {l m:List Nat}(h:Tx l)(hl:m.length<=l.length)(hm:∀c∈m,c∈l):Tx m:=⟨zO hl h.n,fun c hc=>h.a c (hm c hc)⟩
theorem Tx.drop {l:List Nat}(h:Tx l)(k:Nat):Tx (l.drop k):=h.sub (by rw[qW];walk_at "o") fun c hc=>mem_of_mem_drop hc
theorem Tx.take {l:List Nat}(h:Tx l)(k:Nat):Tx (l.take k):=h.sub (by rw[length_take];walk_at "o") fun c hc=>List.mem_of_mem_take hc
theorem a6R {c:Nat}:∀{l p:List Nat},p∈cutL c l->p.length<=l.length/\∀x∈p,x∈l:=by
 intro l
 induction l with
 | nil=>
  intro p h;obtain rfl:p=[]:=(by simpa [cutL] using h);exact⟨zI _,fun _ h=>h⟩
 | cons x r ih=>
  intro p h;unfold cutL at h;have up:∀{p},p∈cutL c r->p.length<=(x::r).length/\∀y∈p,y∈x::r:=fun z=>⟨Nat.le_succ_of_le (ih z).1,fun y hy=>zH _ ((ih z).2 y hy)⟩
  by_cases e:x=c
  ·rw[if_pos e] at h;rcases zT.mp h with z|z
   ·subst z;exact⟨qK _,fun _ h=>nomatch h⟩
   ·exact up z
  ·rw[if_neg e] at h;cases q:cutL c r with
   | nil=>exact absurd q (E1 c r)
   | cons a t=>
    rw[q] at h;rcases zT.mp h with z|z
    ·subst z
     have:=ih (p:=a) (by rw[q];exact zG)
     refine⟨Nat.succ_le_succ this.1,fun y hy=>?_⟩;rcases zT.mp hy with z|z
     ·subst z;exact zG
     ·exact zH _ (this.2 y z)
    ·exact up (by rw[q];exact zH _ z)
theorem Tx.cut {l p:List Nat}{c:Nat}(h:Tx l)(hp:p∈cutL c l):Tx p:=h.sub (a6R hp).1 (a6R hp).2
theorem J5 {c:Nat}:∀l:List Nat,(cutL c l).length<=l.length+1
 | []=>zI _
 | x::r=>by
  have:=J5 (c:=c) r
  unfold cutL
  split
  ·exact Nat.succ_le_succ this
  ·cases q:cutL c r with
   | nil=>simp
   | cons a t=>rw[q] at this;exact Nat.le_succ_of_le this
theorem a2A {c:Nat}:∀l:List Nat,(Str.join ⟨#[c]⟩ ((cutL c l).map sO)).cps.toList=l
 | []=>rfl
 | x::r=>by
  have ih:=a2A (c:=c) r;unfold cutL
  by_cases e:x=c
  ·rw[if_pos e];cases q:cutL c r with
   | nil=>exact absurd q (E1 c r)
   | cons a t=>
    rw[q] at ih;rw[zR] at ih ⊢;rw[zR,M8,ih,e];rfl
  ·rw[if_neg e];cases q:cutL c r with
   | nil=>exact absurd q (E1 c r)
   | cons a t=>
    rw[q] at ih;cases t with
    | nil=>
     have:a=r:=ih
     rw[this];rfl
    | cons b t=>
     rw[zR,zR,M8] at ih ⊢;rw[<-ih];rfl
theorem a8t {c:Nat}(l:List Nat):Txt.split (sO l) ⟨#[c]⟩=(cutL c l).map sO:=by
 have h:=a7w (c:=c) (xs:=(cutL c l).map sO) (by simp[E1]) (by
  intro x hx;obtain⟨p,hp,rfl⟩:=zY.mp hx
  exact a6Q hp)
 have e:Txt.join ⟨#[c]⟩ ((cutL c l).map sO)=sO l:=(PySem.StrLaws.glued_eq_join _ _).trans (N8 (a2A l))
 rwa [e] at h
theorem P0 {l:List Nat}{c:Nat}(h:Tx l):mSplit (sO l) [.str ⟨#[c]⟩]=some (.o (.lst ((cutL c l).map fun p=>.str (sO p)))):=by
 simp only[mSplit];have sl:=a8A (sO l) c;have hl:=h.n
 have:=k7 l
 rw[if_pos ⟨rfl,h.lim,by unfold Z.lim;walk_at "o"⟩,a8t,zQ]
 rfl
theorem a9v {l:List Nat}{c:Nat}(h:Tx l):∃y,mPart (sO l) [.str ⟨#[c]⟩]=some (.v (.tup [.str (sO (headC c l)),.str y,.str (sO (restC c l))])):=by
 simp only[mPart];rw[if_pos ⟨rfl,h.lim⟩];rcases Z1 c l with q|⟨a,b,q,rfl⟩
 ·refine⟨Str.empty,?_⟩;rw[a4j q,a34 q];unfold partS;rcases occ_head (sO l) ⟨#[c]⟩ 1 (zI 1) with ⟨e,_⟩|⟨i,r,e,hi,_⟩
  ·rw[e];rfl
  ·have hi':=hi;unfold At at hi';rw[subAt_one] at hi';exact absurd (qS hi') q
 ·refine⟨⟨#[c]⟩,?_⟩;have e:sO (a++c::b)=sO a++⟨#[c]⟩++sO b:=N8 (by rw[xN,xN,jI,jI];simp)
  rw[a6q q,a6I q,e,b0c (a:=sO a) (b:=sO b) q];rfl
theorem a6B {l:List Nat}{j:Int}(h:0<=j):Txt.slice (sO l) none (some j)=sO (l.take j.toNat):=by
 by_cases hj:j<=l.length
 ·refine Eq.trans (PySem.StrLaws.sliceText_to (x:=sO l) ⟨h,hj⟩) ?_;rw[drop_zero,Int.sub_zero]
 ·rw[slice_to_beyond (by rw[k7];walk_at "o"),yE (by walk_at "o")]
  refine Eq.trans (PySem.StrLaws.sliceText_to (x:=sO l) ⟨by rw[k7];walk_at "o",by rw[k7];exact Int.le_refl _⟩) (N8 ?_)
  rw[k7,Int.sub_zero,drop_zero];exact yE (zI _)
theorem a0s {l:List Nat}{i:Int}(h:0<=i):Txt.slice (sO l) (some i) none=sO (l.drop i.toNat):=by
 by_cases hj:i<=l.length
 ·refine Eq.trans (PySem.StrLaws.sliceText_from (x:=sO l) ⟨h,hj⟩) (N8 ?_);exact yE (by rw[qW];show l.length-i.toNat<=((l.length:Int)-i).toNat;walk_at "o")
 ·rw[slice_from_beyond (by rw[k7];walk_at "o"),xZ (by walk_at "o")]
theorem a8L {l:List Nat}{u v:Option Int}{c:Nat}(h:c∈(Txt.slice (sO l) u v).cps.toList):c∈l:=by
 unfold Txt.slice at h;split at h
 ·exact h
 ·rw[mem_filterMap] at h;obtain⟨i,_,e⟩:=h
  have:l[i]? =some c:=by simpa using e
  exact qS this
theorem a8j (l:List Nat)(u v:Option Int):∃m:List Nat,Txt.slice (sO l) u v=sO m/\m.length<=l.length/\∀c∈m,c∈l:=
 ⟨(Txt.slice (sO l) u v).cps.toList,(a4m _).symm,by rw[<-M9];exact zO (Txt.slice_le _ _ _) (Nat.le_of_eq (k7 l)),fun c hc=>a8L hc⟩
theorem a6t {l:List Nat}(h:okN l=true):PySem.intText? (sO l)=some ((digitsVal l:Nat):Int):=by
 have n:=h;unfold okN at n;rw[qF,qF,qP] at n;exact intText_digits (x:=sO l) (a5R h) (by intro e;rw[show(sO l).cps.toList=l from rfl] at e;rw[e] at n;simp at n) (zO (by rw[k7];exact n.1.1.2) (by decide:60<=_))
theorem b0M {l:List Nat}(h:okN l=true):PySem.intText? (sO (45::l))=some (-((digitsVal l:Nat):Int)):=by
 have n:=h;unfold okN at n;rw[qF,qF,qP] at n;exact intText_neg (x:=sO (45::l)) rfl (a5R h) (by intro e;rw[e] at n;simp at n) (zO (by rw[k7,zU];exact Nat.succ_le_succ n.1.1.2) (by decide:61<=_))
theorem a41:(Str.ofString "0123456789").cps.toList=[48,49,50,51,52,53,54,55,56,57]:=by decide +kernel
theorem a4z (c:Nat):c∈[48,49,50,51,52,53,54,55,56,57]↔dgB c=true:=by
 unfold dgB;rw[qP];simp only[zT,not_mem_nil,or_false];walk_at "o"
theorem a7u (l:List Nat):(Txt.stripChars (sO l) (Str.ofString "0123456789")==Str.ofString "")=l.all dgB:=by
 rw[jN,beq_iff_eq,a8X,qX,a41];exact⟨fun h c hc=>(a4z c).mp (h c hc),fun h c hc=>(a4z c).mpr (h c hc)⟩
theorem b1M (c:Nat):inS ⟨#[c]⟩ (Str.ofString "0123456789")=dgB c:=by
 rw[a9P,a41,jN,qP];exact a4z c
theorem a5S {c:Nat}{r:List Nat}(h:Tx (c::r)):strAt (sO (c::r)) 0=some (.v (.str (sO [c]))):=by
 unfold strAt atI;rw[if_pos h.lim,zU,ix_0];rfl
theorem a4x:Str.ofString "0"=sO [48]:=by decide +kernel
theorem a29:Str.ofString "-"=sO [45]:=by decide +kernel
theorem a2C:Str.ofString "/"=sO [47]:=by decide +kernel
theorem S2:Str.ofString " "=sO [32]:=by decide +kernel
theorem b0d:Str.ofString "."=sO [46]:=by decide +kernel
theorem a6g:Str.ofString ":"=sO [58]:=by decide +kernel
theorem a9R:Str.ofString "web"=sO [119,101,98]:=by decide +kernel
theorem a0S:Str.ofString ""=sO []:=by decide +kernel
structure PReL (X:Cx) (e:Expr) (r:FRe):Prop where
 to:∀(pins:List (Addr×PySem.Obj)) (s:Shared) (σ:L2.St) (H:Hp) (P:List (D×V)) (O:Av) (L:List (Option Nat×Addr)) (ρ ρ':Ev) (C:Addr),Inv X pins σ H s->Rep X P O L ρ σ H->r ρ=some (C,ρ')->
  wpAny (model X.prog X.w) X.A (eval e X.env) (fun _ _=>False) (fun v s'=>∃x H1 s1 H',v= .ref x/\Inv X pins σ H1 s1/\Rep X P O L ρ' σ H1/\Same H1 H'/\Fly X.prog X.w X.stack H1 s1 C x H' s') s
section
variable {X:Cx}{e:Expr}{es:List Expr}{pos p:Pos}{fa:FA}{x:Str}{k:Nat}
theorem a93 {gx:List D->Option Addr}(F:FnR X.prog X.w X.K X.mg X.base x k gx)(hr:Room k X.A)(ha:QA X.nox (e::es) fa)(hg:Gl X x:=by rfl)(hdb:(x==("__debug__":Str))=false:=by decide)
  (he:starEach (e::es) X.env=(false,eval e X.env)::starEach es X.env:=by rfl) (hpl:(backTo pos (starEach es X.env)).any (·.1)=false:=by rfl):PReL X (.Call (.Name x p) (e::es) [] pos) (fRCall gx fa):=by
 refine⟨fun pins s σ H P O L ρ ρ' C I rp hc=>?_⟩;unfold fRCall at hc;obtain⟨⟨ws,ρ1⟩,e1,hc⟩:=obs hc;dsimp only at hc;obtain⟨ds,e2,hc⟩:=obs hc;obtain⟨C',e3,hc⟩:=oms hc;cases hc;obtain⟨f,fd,ps,F,b,kp,hm⟩:=F.ex;have h:=ha.to pos pins s σ H (fun vs H1=>Rep X P O L ρ' σ H1/\DenA X.K (AvO O ρ' σ) σ H1 ws vs) (I.wish _) ⟨P,O,L,ρ,ws,ρ',rp.wish,e1,fun vs H1 r1 l1=>⟨r1.unwish,l1⟩⟩;refine jK (W1 I hg hm ?_ hdb);refine PySem.W.callWith_K (h₀:=X.base) I.ok.mod.kin kp (zJ h (fun us s1 ⟨vs,H1,I1,rel,r1,l1⟩=>⟨I1.kIn,?_⟩) fun _ _ z=>z.elim) he hpl;have I2:=I1.unwish;have sp:spR X.K gx vs H1 (fun _ _=>False) (fun v oc H'=>oc=some C/\Same H1 H'):=⟨fun b=>AvO O ρ' σ b/\¬Handed ρ' σ ws b,ds,C,fun b z=>r1.there z.1,a1p r1 (fun b z=>z.1) (fun b z=>z.2) e2 l1,e3,fun v H' s2=>⟨rfl,s2⟩⟩;have hl:us.length=ps.length:=by rw[<-rel.length];exact F.len _ _ _ _ sp
 have bb:=b s1 us I2.kIn (by rw[jT];exact hl)
 rw[jT] at bb;refine wpAny_call (codeAny_mono (F.run X.A X.stack s1 H1 ⟨us,[]⟩ us vs _ _ hr I2.env0 bb rel sp) fun r s' hq=>?_);cases r with
 | error v=>
  obtain⟨C',x',H',ev,fl,ec,s2⟩:=hq;cases ec;exact⟨x',H1,s1,H',ev,I2,r1,s2,fl⟩
 | ok fl=>
  cases fl with
  | ret u=>obtain⟨_,_,_,_,_,_,_,z⟩:=hq;exact z.elim
  | next=>exact False.elim hq
  | brk=>exact False.elim hq
  | cont=>exact False.elim hq
end
section
variable {prog:Program}{w:World}{A:Around}{R:Result->Shared->Prop}{s:Shared}
theorem a7J {elt tg iter:Expr}{scope:Scope}{pos:Pos}{it acc:Value}{env:Env}(I:Nat->Shared->Prop)(Er:Value->Shared->Prop)
  (turn:∀n s,I n s->wpAny (model prog w) A (pyNext it) (fun r s1=>match r with
   | none=>R (.ok .next) s1
   | some v=>wpAny (model prog w) A (letOwnedTupleGo tg it v) (fun _ s2=>wpAny (model prog w) A (assign tg env v) (fun _ s3=>
     wpAny (model prog w) A (eval elt env) (fun x s5=>wpAny (model prog w) A (call (.builtin "list.append") [acc,x]) (fun _ s6=>∃m,m<n/\I m s6) Fa s5) Er s3) Fa s2) Fa s1) Fa s)
  (hn:∀v s',Er v s'->notedBy (model prog w) A env (fun v s''=>R (.error v) s'') v s')
  (n:Nat) (h:I n s):codeAny (model prog w) A (.compLoop (.ListComp elt [⟨tg,iter,[],0⟩] scope pos) 0 it acc env) R s:=by
 refine codeAny_loop rfl I (fun n s hI=>?_) n h;show wpAny _ A ((compTurn (.ListComp elt [⟨tg,iter,[],0⟩] scope pos) 0 it acc env).onRaise (fun x=>do noteFrame x env;theTreesLotGoes x)) _ _ s
 refine wpAny_noted ?_;rw[compTurn_list];refine zA (xA (zA (zJ (turn n s hI) (fun r s1 h1=>?_) fun _ _ z=>z.elim)));cases r with
 | none=>exact zK h1
 | some v=>
  refine zA (zJ h1 (fun _ s2 h2=>zA (zJ h2 (fun _ s3 h3=>zA (wpAny_tests_nil ?_)) fun _ _ z=>z.elim)) fun _ _ z=>z.elim);rw[if_pos rfl];exact zA (zA (zJ h3 (fun x s5 h5=>zA (zJ h5 (fun _ s6 h6=>zK (zK ⟨rfl,h6⟩)) fun _ _ z=>z.elim)) hn))
end
section
variable {M:Model}{A:Around}{E:Value->Shared->Prop}{s:Shared}{env:Env}
def ErrC (M:Model) (A:Around) (E:Value->Shared->Prop) (cenv:Env) (r:Result) (s':Shared):Prop:=
 ∃v m,r= .error v/\s'.heap.Ns cenv.locals m/\∀h',Heap.SameBut cenv.locals s'.heap h'->wpAny M A (PySem.passOn "comprehension.variables-let-go" v cenv:Sem Value) (fun _ _=>False) E {s' with heap:=h'}
theorem a7t {e:Expr}{scope:Scope}{pos:Pos}{newAcc fst0:Sem Value}{g:Comprehension}{gs:List Comprehension}{cl:List (Str×Addr)}{use:Option (Value->Sem Unit)}
  (hcl:clausesOf e=g::gs) (hs:∀x,foldedSetIterable g.iter env x=pure x) (hclos:closureFor scope env=pure cl)
  (hkind:scope.kind= .function) (hnames:∀x∈scope.names,x.2= .local->scope.names.lookup x.1=some .local)
  (h:wpAny M A fst0 (fun x s₁=>wpAny M A (pyIter x) (fun it s₂=>wpAny M A newAcc (fun acc s₃=>
   wpAny M A (newFunctionEnv scope env.globals cl [] env.qual none .none (some env)) (fun cenv s₄=>
    codeAny M A (.compStart e 0 it acc {cenv with scope:=relabel scope env}) (ErrC M A E {cenv with scope:=relabel scope env}) s₄) E s₃) E s₂) E s₁) E s):
  wpAny M A (comprehension e scope env pos newAcc false fst0 use) (fun _ _=>False) E s:=by
 unfold comprehension;rw[hclos,hcl]
 refine zA (zJ h (fun x s₁ h₁=>zA (xA (zA (wpAny_of_eq (hs x) (zA (jP (zJ h₁ (fun it s₂ h₂=>
  wpAny_standIf (zA (zJ h₂ (fun acc s₃ h₃=>zA (zK (zA (zJ h₃ (fun cenv s₄ h₄=>?_) fun _ _ h'=>h')))) fun _ _ h'=>h')))
   fun _ _ h'=>h'))))))) fun _ _ h'=>h')
 dsimp only;have hv:∀x∈(scope.names.filter fun x=>(x.2 == .local||x.2 == .cell)&&x.1 != (".0":Str)).reverse,x.2= .local->
   Env.kindOf {cenv with scope:=relabel scope env} x.1=some .local:=fun x hx hl=>lookup_relabel_local (hnames x (mem_filter.mp (List.mem_reverse.mp hx)).1 hl)
 refine jP (zA (wpAny_attempt (jP (wpAny_run (codeAny_mono h₄ fun r s' hr=>?_)))));obtain⟨v,m,rfl,hn,hr⟩:=hr;exact zA (jP (wpAny_comp_letGo (cenv:={cenv with scope:=relabel scope env}) hkind _ s' m hv hn fun h' m' _ hs'=>hr h' hs'))
theorem a6u {base:Heap}{l:List Env}{e L:Addr}{cls a0:Value}{what:String}(hf:env.frame=some L)(hh:Heap.HeldW base l e cls a0 L s.heap)(h:E (.ref e) s):wpAny M A (PySem.passOn what (.ref e) env:Sem Value) (fun _ _=>False) E s:=by
 obtain⟨_,_,_,oe,vs,T,oT,ts,he,hcls,hd,h1,hnT,hTe,hT,hdT,h3⟩:=hh;unfold PySem.passOn setFlight;refine zA (qO he hd h1 ?_);rw[if_neg (show ¬((Value.ref T==Value.none)=true) from by simp)]
 refine zA (zA (qO he hd h1 ?_));rw[if_pos (show(Value.ref T != Value.none)=true from by simp),hf]
 refine wpAny_setField hT hdT (Array.getElem?_eq_some_iff.mp h3).1 ?_;rw[show(Option.elim (some L) Value.none fun f=>rawInt f)=rawInt L from rfl,Heap.update_setField_same s.heap T oT ts 3 (rawInt L) hT hdT h3];exact wpAny_throw h
theorem a7S {h B B':Heap}(k:∀b,B.get? b=none->B'.get? b=none):∀{l:List Env},h.FunFrames B l->h.FunFrames B' l
 | [],_=>trivial
 | env::rest,⟨hk,⟨L,o,hf,hn,ho,hd⟩,hr⟩=>⟨hk,⟨L,o,hf,k L hn,ho,hd⟩,a7S k hr⟩
theorem b2u {h h' B:Heap}:∀{l:List Env},(∀b∈frs l,h'.get? b=h.get? b)->h.FunFrames B l->h'.FunFrames B l
 | [],_,_=>trivial
 | env::rest,k,⟨hk,⟨L,o,hf,hn,ho,hd⟩,hr⟩=>by
  have kk:∀b∈frs rest,h'.get? b=h.get? b:=fun b hb=>k b (by unfold frs at hb ⊢;rw[jQ,hf];exact zH _ hb)
  exact⟨hk,⟨L,o,hf,hn,(k L (by unfold frs;rw[jQ,hf];exact zG)).trans ho,hd⟩,b2u kk hr⟩
end
def loopCR (st:D->Ev->Option Ev) (rs:D->Ev->Option Addr):List D->Ev->Option Addr
 | [],_=>none
 | x::xs,ρ=>match rs x ρ with
  | some C=>some C
  | none=>(st x ρ).bind (loopCR st rs xs)
def rsC (gf:FG) (re:FRe):D->Ev->Option Addr:=fun x ρ=>(gf x ρ).bind fun ρ1=>(re ρ1).map (·.1)
abbrev ttF:FT:=fun ρ=>some (true,ρ)
def fCompR (fi:FI) (js:List (Option Nat)) (gf:FG) (fe:FX) (re:FRe):FR:=fun ρ=>(fi ρ).bind fun p=>loopCR (turnC js.length gf ttF fe) (rsC gf re) p.1 (capE none js p.2++[some (.l (.lst []))])
section
variable {X:Cx}{pins:List (Addr×PySem.Obj)}{σ:L2.St}{H2:Hp}{s2:Shared}{scope:Scope}{cl:List (Str×Addr)}{N:List Str}{js:List (Option Nat)}{fp:List Addr}{it:Addr}{tn:Nat->Heap->Prop}{J:It}{elt tg iter:Expr}{pos pos1 pos2:Pos}{P:List (D×V)}{O:Av}{ρ:Ev}{xs:List D}{gf:FG}{fe:FX}{re:FRe}{Ce:Addr}{fi:FI}{x:Str}
theorem a8q (hcalm:X.calm=true)(hst:X.stack=X.env::X.outer)(hf:X.env.frame=some X.env.locals)(hex:X.ex=[])
  (I2:Inv X pins σ H2 s2) (T:Turn X.prog X.w X.K tg J fp it tn) (st2:tn 0 s2.heap) (f2:∀y∈fp,FpOk X pins H2 y) (b:Blk X scope cl N js) (r:Rep X P O [] ρ σ H2) (wk:WksB none X.K P O ρ σ H2 xs J)
  (hg:∀C,QG (blk X scope cl s2 H2 fp C (N++[accN])) tg gf) (he:∀C,QX (blk X scope cl s2 H2 fp C (N++[accN])) elt fe) (hr:∀C,PReL (blk X scope cl s2 H2 fp C (N++[accN])) elt re)
  (e:loopCR (turnC js.length gf ttF fe) (rsC gf re) xs (capE none js ρ++[some (.l (.lst []))])=some Ce)
  (hx:∀v s',Thr X Ce v s'->X.xe v s'):
  wpAny (model X.prog X.w) X.A (newList []) (fun acc s3=>wpAny (model X.prog X.w) X.A (newFunctionEnv scope X.env.globals cl [] X.env.qual none .none (some X.env)) (fun cenv s4=>
   codeAny (model X.prog X.w) X.A (.compStart (.ListComp elt [⟨tg,iter,[],0⟩] scope pos) 0 (.ref it) acc {cenv with scope:=relabel scope X.env}) (ErrC (model X.prog X.w) X.A X.xe {cenv with scope:=relabel scope X.env}) s4) X.xe s3) X.xe s2:=by
 have fl:∀y∈fp,y<s2.heap.objs.size:=fun y hy=>by obtain⟨o,eo,_⟩:=T.obj _ _ st2 y hy;exact zV eo
 have hl:LiOk none js ρ:=⟨nofun,nofun,nofun⟩
 have hok:HOk X.prog X.w (upd H2 s2.heap.objs.size (.lst [])) (s2.heap.push {cls:=.type "list",dict:=none,data:=.seq ([]:List Value).toArray}):=I2.hok.laid (fun y o e=>zN _ e) (zI _) ⟨qK _,[],0,.nil,qB _ rfl⟩;refine qZ (wpAny_newFunctionEnv b.cell (by intro y hy;simp at hy) (fun h' hns hsb=>?_) b.kind)
 dsimp only at hns hsb ⊢;generalize hH:s2.heap.push {cls:=.type "list",dict:=none,data:=.seq ([]:List Value).toArray}=H3 at hok hns hsb ⊢;have hC:H3.objs.size=s2.heap.objs.size+1:=by rw[<-hH,size_push]
 have ne:s2.heap.objs.size≠H3.objs.size:=by rw[hC];exact zS (Nat.lt_succ_self _)
 have leC:s2.heap.objs.size<=H3.objs.size:=by rw[hC];exact Nat.le_succ _
 have kp3:∀y o,s2.heap.get? y=some o->H3.get? y=some o:=fun y o e=>hH▸zN _ e;have kp4:∀y o,H3.get? y=some o->h'.get? y=some o:=fun y o e=>hsb.extBut y o (zS (zV e)) (zN _ e);have hDn:H2 s2.heap.objs.size=none:=I2.hok.fresh (zI _);have I4:=a8h (s4:={s2 with heap:=h',toks:=s2.toks+([]:List (Str×Value)).length}) (Dd:=s2.heap.objs.size) (C:=H3.objs.size) I2 b f2 fl leC (zI _) ne rfl I2.bare (fun y o e=>kp4 y o (kp3 y o e)) hns (hok.kept kp4)
 have R4:=a7Y (d0:=.lst []) (o0:=.lst []) (fun A H e=>⟨[],e,A8⟩) (scope:=scope) (cl:=cl) (N:=N) (s2:=s2) (fp:=fp) (C:=H3.objs.size) (Dd:=s2.heap.objs.size) r hl hDn;have hfree:∀{H':Hp},(∀y∈fp,H' y=none)->∀y∈fp,FpOk (blk X scope cl s2 H2 fp H3.objs.size (N++[accN])) [] H' y:=fun hn y hy=>
  ⟨hn y hy,zS (zF (fl y hy) leC),fun z=>(zT.mp (I2.stkSub y z)).elim (f2 y hy).2.1 (f2 y hy).2.2.1,.inl hy,fun x c ec=>(f2 y hy).2.2.2.2.1 x c (b.sub x c ec),fun p hp=>absurd (show p∈([]:List (Addr×PySem.Obj)) from hp) (by simp)⟩
 obtain⟨gg,pg,kg⟩:=(hg H3.objs.size).to;have loop:∀s5:Shared,s5={s2 with heap:=h',toks:=s2.toks+([]:List (Str×Value)).length}->
   codeAny (model X.prog X.w) X.A (.compLoop (.ListComp elt [⟨tg,iter,[],0⟩] scope pos) 0 (.ref it) (.ref s2.heap.objs.size) (compEnvC scope cl H3.objs.size X.env))
    (ErrC (model X.prog X.w) X.A X.xe (compEnvC scope cl H3.objs.size X.env)) s5:=by
  rintro s5 rfl
  let Y:=blk X scope cl s2 H2 fp H3.objs.size (N++[accN])
  let O':Av:=fun b=>AvO O ρ σ b/\¬Capd ρ σ js b
  let L':=(some js.length,s2.heap.objs.size)::lentL none σ
  refine a7J (fun n s=>∃i σ' H' ρ',n=xs.length-i/\i<=xs.length/\Inv Y [] σ' H' s/\tn i s.heap/\(∀y∈fp,H' y=none)/\Rep Y P O' L' ρ' σ' H'/\loopCR (turnC js.length gf ttF fe) (rsC gf re) (xs.drop i) ρ'=some Ce)
   (fun v s'=>∃σ' H7 s7 H8 ρ' x h0,v= .ref x/\Inv Y ([]++pinsAt fp h0) σ' H7 s7/\Rep Y P O' L' ρ' σ' H7/\Same H7 H8/\Fly Y.prog Y.w Y.stack H7 s7 Ce x H8 s') ?_ ?_ xs.length
   ⟨0,_,_,_,by simp,qK _,I4,T.keep 0 _ _ st2 fun y hy o eo=>kp4 y o (kp3 y o eo),fun y hy=>by rw[k8 (zS (fl y hy))];exact(f2 y hy).1,R4,by simpa using e⟩
  ·rintro n s ⟨i,σ',H',ρ',rfl,hi,I,st,fr,rp,el⟩;obtain⟨wi,ws⟩:=wk Y O' L' ρ' σ' H' rfl rfl rp (fun b z=>z.1) (fun z i b m=>(zT.mp m).elim (fun m=>by cases m;exact hDn) (fun m=>by cases m))
   by_cases hlt:i<xs.length
   ·obtain⟨go,yl⟩:=wi i xs[i] (by simp[hlt])
    refine zJ (T.item Y rfl rfl rfl hcalm i [] s σ' H' Fa I (hfree fr) st go) (fun r s1 ⟨u,hr',h1⟩=>?_) fun _ _ z=>z;subst hr';refine zJ h1 (fun _ s3 ⟨x,H5,I5,r5,y5,st5,fr5⟩=>?_) fun _ _ z=>z;obtain⟨sm5,dx⟩:=yl x H5 y5
    replace rp:=rp.grow sm5
    rw[xE hlt,loopCR] at el;have I5':=I5.pinned (hfree fr5) (T.obj _ _ st5);cases e1:rsC gf re xs[i] ρ' with
    | some C0=>
     rw[e1] at el;cases el;obtain⟨ρ1,e2,e3⟩:=obs e1;obtain⟨⟨C',ρ2⟩,e4,e5⟩:=oms e3;dsimp only at e5;subst e5;have gq:=kg P O' L' xs[i] x ρ' ρ1 σ' H5 (fun σ2 Hh=>Rep Y P O' L' ρ1 σ2 Hh) rp dx e2 (fun σ2 H2' rp2=>rp2);refine zJ (pg _ s3 σ' H5 x u _ I5' r5 gq) (fun _ s6 ⟨σ6,H6,I6,rp6⟩=>?_) fun _ _ z=>z;exact zJ ((hr _).to _ s6 σ6 H6 P O' L' ρ1 ρ2 _ I6 rp6 e4) (fun _ _ z=>z.elim) fun v s' ⟨x,H1,s1,H8,ev,I1,r1,sm,F⟩=>⟨σ6,H1,s1,H8,ρ2,x,s3.heap,ev,I1,r1,sm,F⟩
    | none=>
     rw[e1] at el;obtain⟨ρt,e2,el⟩:=obs el;unfold turnC at e2;obtain⟨ρ1,e3,e2⟩:=obs e2;obtain⟨⟨k,ρ2⟩,e4,e2⟩:=obs e2;cases e4;dsimp only at e2;rw[if_pos rfl] at e2;obtain⟨⟨w,ρ3⟩,e4,e2⟩:=obs e2;have gq:=kg P O' L' xs[i] x ρ' ρ1 σ' H5 (fun σ2 Hh=>Rep Y P O' L' ρ1 σ2 Hh) rp dx e3 (fun σ2 H2' rp2=>rp2);refine zJ (pg _ s3 σ' H5 x u _ I5' r5 gq) (fun _ s7 ⟨σ6,H7,I7,rp7⟩=>?_) fun _ _ z=>z;have back:∀{s7:Shared} {H7:Hp} {ρ7:Ev},Inv Y ([]++pinsAt fp s3.heap) σ6 H7 s7->Rep Y P O' L' ρ7 σ6 H7->loopCR (turnC js.length gf ttF fe) (rsC gf re) (xs.drop (i+1)) ρ7=some Ce->
       ∃m,m<xs.length-i/\∃i σ' H' ρ',m=xs.length-i/\i<=xs.length/\Inv Y [] σ' H' s7/\tn i s7.heap/\(∀y∈fp,H' y=none)/\Rep Y P O' L' ρ' σ' H'/\loopCR (turnC js.length gf ttF fe) (rsC gf re) (xs.drop i) ρ'=some Ce:=fun{s7 H7 ρ7} I7 rp7 e7=>by
      refine⟨xs.length-(i+1),by walk_at "o",i+1,σ6,H7,ρ7,rfl,hlt,I7.unpinned,T.keep _ _ _ st5 fun y hy o eo=>(I7.pin (y,o) (qD _ (qD _ (Q2 hy eo)))).1,fun y hy=>?_,rp7,e7⟩
      obtain⟨o,eo,_⟩:=T.obj _ _ st5 y hy;exact(I7.pin (y,o) (qD _ (qD _ (Q2 hy eo)))).2.1
     simp only[appTo] at e2;obtain⟨⟨ds,ρ4⟩,e5,e2⟩:=obs e2;dsimp only at e2;split at e2
     ·rename_i d zs e6;split at e2
      ·rename_i hl';cases e2;refine zJ ((he _).to _ s7 σ6 H7 (fun v H8=>Rep Y P O' L' ρ4 σ6 H8/\Den X.K (AvO O' ρ4 σ6) H8 d v) I7 ⟨P,O',L',ρ1,w,ρ3,rp7,e4,fun v H8 H8' r8 s8 d8=>?_⟩) (fun u8 s8 ⟨v8,H8,I8,r8,rp8,d8⟩=>?_) fun _ _ z=>False.elim z
       ·obtain⟨r9,l9,_⟩:=D7 (vs:=[v]) (r8.grow s8) e5 ⟨v,[],rfl,d8.fz r8 s8,rfl⟩;obtain⟨v',ev,h'⟩:=denL1 l9;cases ev;exact⟨r9,h'⟩
       ·obtain⟨d0,q1,q2⟩:=rp8.lnd js.length _ zG;have e6':=e6;unfold ownAt at e6';rw[q1] at e6';cases e6';obtain⟨a,h1,vs,h4,lz⟩:=rp8.obj q1 rfl;rw[q2] at h1;cases h1;have h9:=a2I _ s8 σ6 H8 (.ref _) [v8] (.ref _) [u8] (fun v H9=>H9=upd H8 s2.heap.objs.size (.lst (vs++[v8]))) I8 rfl (.cons r8 .nil) ⟨_,vs,v8,rfl,rfl,h4,by rw[<-g8 lz];exact zF hl' B5,rfl⟩
        refine zJ h9 (fun _ s9 ⟨v9,H9,I9,_,e9⟩=>?_) fun _ _ z=>z;subst e9;have g0:Go (AvO O' ρ4 σ6) (AvO O' ρ4 σ6) (fun b=>b=s2.heap.objs.size) H8 (upd H8 s2.heap.objs.size (.lst (vs++[v8]))):=⟨fun b o eb nb=>by rw[k8 nb];exact eb,fun b z=>by rw[z];exact⟨.inr ⟨js.length,_,_,q1,rfl,q2⟩,_,h4,trivial⟩,fun b z=>.inl z⟩
        exact back I9 (rp8.mut (d:=.lst (zs++[d])) e6 q2 (fun b o eb nb=>by rw[k8 nb];exact eb) ⟨_,C3,F2 g0 _ _ (M7 lz (z9 d8 A8))⟩) el
      ·cases e2
     ·cases e2
   ·have hie:i=xs.length:=by walk_at "o"
    subst hie;rw[xZ (zI _),loopCR] at el;cases el
  ·rintro v s' ⟨σ',H7,s7,H8,ρ',x,h0,rfl,I7,r7,sm,F⟩;have I8:=(F.inv I7).unpinned;obtain⟨m,hm,_⟩:=id I8.loc;have hm:s'.heap.Ns H3.objs.size m:=hm;obtain⟨B,a0,hfl,hB⟩:=F.fly;have hfl:Heap.FlyingW B (X.env::X.outer) x (.ref Ce) a0 s'.heap:=hst▸hfl;have hB':∀b,B.get? b=none->(PySem.W.hideAll B [H3.objs.size]).get? b=none:=fun b e=>by
    cases q:(PySem.W.hideAll B [H3.objs.size]).get? b with
    | none=>rfl
    | some o=>rw[PySem.W.of_hideAll _ q] at e;cases e
   have fl':Heap.FlyingW (PySem.W.hideAll B [H3.objs.size]) (X.env::X.outer) x (.ref Ce) a0 s'.heap:=by
    obtain⟨f1,f2,f3,oe,vs,T,oT,ts,q1,q2,q3,q4,q5,q6⟩:=hfl;exact⟨fun b o e=>f1 b o (PySem.W.of_hideAll _ e),hB' _ f2,a7S hB' f3,oe,vs,T,oT,ts,q1,q2,q3,q4,hB' _ q5,q6⟩
   have fr:X.A.frames=some (X.env::X.outer):=by rw[I2.ok.frames,hst]
   show wpAny _ X.A (noteFrame (.ref x) X.env) _ _ s';refine wpAny_looks_onW fr hf fl' fun h1 hh up=>⟨.ref x,m,rfl,up.ns hm,fun h2 hs2=>?_⟩;have nC:∀b o vs,h1.get? b=some o->o.data= .fields vs->b≠H3.objs.size:=fun b o vs e d z=>by
    subst z;obtain⟨o',es,ep,e',d',_⟩:=up.ns hm;rw[e] at e';cases e';rw[d] at d';cases d'
   have frC:∀b∈frs (X.env::X.outer),b≠H3.objs.size:=fun b hb=>by
    rw[<-hst] at hb;obtain⟨_,o,eo,_⟩:=I2.stack.mem hb;exact zS (zF (zV eo) leC)
   have hh2:Heap.HeldW (PySem.W.hideAll B [H3.objs.size]) (X.env::X.outer) x (.ref Ce) a0 X.env.locals h2:=by
    obtain⟨g1,g2,g3,oe,vs,T,oT,ts,q1,q2,q3,q4,q5,q6,q7,q8,q9⟩:=hh;exact⟨fun b o e=>(hs2.2 b (fun z=>by rw[z,PySem.W.hideAll_none _ (by simp[compEnvC])] at e;cases e)).trans (g1 b o e),g2,b2u (fun b hb=>hs2.2 b (frC b hb)) g3,oe,vs,T,oT,ts,(hs2.2 _ (nC _ _ _ q1 q3)).trans q1,q2,q3,q4,q5,q6,(hs2.2 _ (nC _ _ _ q7 q8)).trans q7,q8,q9⟩
   refine a6u (L:=X.env.locals) hf hh2 (hx _ _ ⟨pins,σ,x,H8,s',rfl,a6o I2 f2 leC I8 (h9:=s'.heap) (fun _ _=>rfl),?_,.inr (.inr ⟨h2,_,a0,rfl,hst▸hh2,?_,?_⟩)⟩)
   ·refine r.same0.trans fun b o e=>sm b o (r7.same b o e fun i m=>?_);rcases zT.mp m with m|m
    ·cases m;rw[hDn] at e;cases e
    ·cases m
   ·intro b o e hb;have hb':b∈frs (X.env::X.outer):=by
     unfold frs at hb ⊢;rw[jQ,hf];exact zH _ hb
    obtain⟨_,o',e',nf⟩:=fl'.2.2.1.mem hb';rw[e] at e';cases e';obtain⟨t,e1⟩:=up b o e nf;exact⟨t,(hs2.2 b (frC b hb')).trans e1⟩
   ·intro b o e hn hc;have nC:b≠H3.objs.size:=by
     rcases hc with ⟨o0,e0⟩|z
     ·obtain⟨o1,e1⟩:=I2.base.there b o0 e0 (fun z=>by rw[hex] at z;cases z)
      exact zS (zF (zV e1) leC)
     ·exact fun q=>z (by rw[q];exact I8.free)
    refine PySem.W.hideAll_get _ (hB b o e hn (hc.imp (fun⟨o0,e0⟩=>?_) id)) (by simpa using nC)
    obtain⟨o1,e1⟩:=I2.base.there b o0 e0 (fun z=>by rw[hex] at z;cases z)
    refine I7.base.there b o1 e1 fun z=>?_;rcases(f2 b z).2.2.2.1 with y|y
    ·rw[hex] at y;cases y
    ·exact absurd (zF (zV e0) y) (jO _)
 exact codeAny_compStart_list (loop _ rfl) (T.self _ 0 _ _ _ (T.keep 0 _ _ st2 fun y hy o eo=>kp4 y o (kp3 y o eo)) (loop _ rfl))
theorem a9m (hc:X.calm=true)(b:Blk X scope cl N js)(hi:QIB X.nox none tg iter fi)(hg:∀s2 H2 fp C,QG (blk X scope cl s2 H2 fp C (N++[accN])) tg gf)(he:∀s2 H2 fp C,QX (blk X scope cl s2 H2 fp C (N++[accN])) elt fe)(hr:∀s2 H2 fp C,PReL (blk X scope cl s2 H2 fp C (N++[accN])) elt re)
  (hst:X.stack=X.env::X.outer:=by rfl) (hf:X.env.frame=some X.env.locals:=by rfl) (hex:X.ex=[]:=by rfl) (hs:∀x,foldedSetIterable iter X.env x=pure x:=by intro _;rfl)
  (hw:swapsWith (.ListComp elt [⟨tg,iter,[],0⟩] scope pos) (some (.Name x pos1)) pos2.line X.env=pure true:=by rfl):PR X (.Assign [.Name x pos1] (.ListComp elt [⟨tg,iter,[],0⟩] scope pos) pos2) (fCompR fi js gf fe re):=by
 refine⟨fun pins s σ H P O ρ C I rp e hx=>?_⟩;unfold fCompR at e;obtain⟨⟨xs,ρ1⟩,e1,e⟩:=obs e;dsimp only at e;rw[exec_Assign_Name_used _ _ _ _ hw];refine zA (xA (zA ?_));show wpAny _ _ (do let _ <-comprehension (.ListComp elt [⟨tg,iter,[],0⟩] scope pos) scope X.env (firstIterPos [⟨tg,iter,[],0⟩] pos) (newList []) false (eval iter X.env) (some _)) _ _ s
 refine zA (zJ (a7t (E:=X.xe) rfl hs b.clos b.kind b.nms ?_) (fun _ _ z=>z.elim) fun _ _ z=>z);refine zJ (hi.to pins s σ H _ (I.wish _) ⟨P,O,[],ρ,xs,ρ1,rp.wish,e1,fun J H1 P' r1 hh wk=>(⟨P',r1.unwish,wk⟩:∃P',Rep X P' O [] ρ1 σ H1/\WksB none X.K P' O ρ1 σ H1 xs J)⟩) (fun v s1 h1=>zJ h1 (fun itv s2 h2=>?_) fun _ _ z=>z.elim) fun _ _ z=>z.elim;obtain⟨it,fp,tn,J,H2,rfl,I2,T,st2,f2,P',r1,wk⟩:=h2;exact a8q hc hst hf hex I2.unwish T st2 f2 b r1 wk (hg s2 H2 fp) (he s2 H2 fp) (hr s2 H2 fp) e hx
end
end Z
set_option maxHeartbeats 1000000
namespace HT
open PySem PyProof.Rows
def lexGe:List Int->List Int->Bool
 | [],[]=>true
 | [],_::_=>false
 | _::_,[]=>true
 | x::xs,y::ys=>if x=y then lexGe xs ys else decide (y<=x)
theorem lexGe_cons (x y:Int)(xs ys:List Int):lexGe (x::xs) (y::ys)=if x=y then lexGe xs ys else decide (y<=x):=rfl
theorem lexGe_nil_nil:lexGe [] []=true:=rfl
theorem a38 (y:Int)(ys:List Int):lexGe [] (y::ys)=false:=rfl
theorem a4A (x:Int)(xs:List Int):lexGe (x::xs) []=true:=rfl
theorem b0i (A:Around)(s:Shared)(a:Int)(t:Tok)(c:Int)(u:Tok)(prog:Program)(w:World)(E:Value->Shared->Prop)(Q:Value->Shared->Prop)(h:Q (.bool (decide (a≥c))) s):
  wpAny (model prog w) A (richCompare .GtE (.int a t) (.int c u)) Q E s:=
 (PyProof.Rows.ge_int h:wpAny (model prog w) A (compareOp .GtE (.int a t) (.int c u)) Q E s)
section
open PySem.SeqAt
open PySem.MeetsSeq PySem.MeetsSeq2 PySem.MeetsSeq3
theorem a4I (l b:Addr)(items items2:Array Value)(n n2:Nat)(dd dd2:Option Addr)(sl sl2:Array (Option Value))(ns ms:List Int)(hi:IntsAre items.toList ns)(hj:IntsAre items2.toList ms):
  Meets (Builtin.«tuple.__ge__» ⟨[.ref l,.ref b],[]⟩)
   (fun _ R s=>s.heap.get? l=some {cls:=.type "tuple",dict:=dd,data:=.seq items n,slots:=sl}/\s.heap.get? b=some {cls:=.type "tuple",dict:=dd2,data:=.seq items2 n2,slots:=sl2}/\
    R (.ok (.ret (.bool (lexGe ns ms)))) s):=
 .of_wp fun prog w A R s h=>by
  obtain⟨hp,g,d,tk,os⟩:=s;obtain⟨hl,hb,h⟩:=h;have f2:=AutoSeq1.sub_tuple_tuple;have z1:items.size=ns.length:=by rw[<-hi.length];simp
  have z2:items2.size=ms.length:=by rw[<-hj.length];simp
  wp_walk using xV hl,xV hb,wpAny_forIn_list _ (fun rest b s'=>b.1=none/\s'=⟨hp,g,d,tk,os⟩/\∃(vs ws:List Value) (ns' ms':List Int),rest=vs.zip ws/\
   IntsAre vs ns'/\IntsAre ws ms'/\ns'.length+items2.size=ms'.length+items.size/\R (.ok (.ret (.bool (lexGe ns' ms')))) ⟨hp,g,d,tk,os⟩) _
  case turn=>
   rintro⟨y,x⟩ rest b s' ⟨hb',rfl,vs,ws,ns',ms',hz,hvi,hwi,hlen,hR⟩;cases hvi with
   | nil=>rw[List.zip_nil_left] at hz;cases hz
   | cons a t hvi'=>
    cases hwi with
    | nil=>rw[List.zip_nil_right] at hz;cases hz
    | cons c u hwi'=>
     rw[zip_cons_cons] at hz;injection hz with hyx hrest
     injection hyx with hy hx
     subst hy hx;rw[lexGe_cons] at hR;simp only[zU] at hlen;obtain⟨e,he,hiff⟩:=a63 A.in1 ⟨hp,g,d,tk,os⟩ a t c u;refine zA (he prog w _ _ ?_);cases e with
     | true=>
      rw[if_pos (hiff.mp rfl)] at hR
      wp_walk
      exact⟨rfl,rfl,_,_,_,_,hrest,hvi',hwi',by walk_at "o",hR⟩
     | false=>
      rw[if_neg (fun q=>absurd (hiff.mpr q) zW)] at hR;have hri:=b0i A.in1 ⟨hp,g,d,tk,os⟩ a t c u prog w
      wp_walk using hri
      exact⟨_,rfl,by simpa using hR⟩
  case fin=>
   rintro⟨b1,b2⟩ s' ⟨hb',rfl,vs,ws,ns',ms',hz,hvi,hwi,hlen,hR⟩;simp only at hb';subst hb';have hv:lexGe ns' ms'=decide (items2.size<=items.size):=by
    cases hvi with
    | nil=>
     cases hwi with
     | nil=>
      simp only[xW] at hlen;rw[lexGe_nil_nil];exact(zC (by walk_at "o")).symm
     | cons c u hw=>
      simp only[xW,zU] at hlen;rw[a38];exact(zB (by walk_at "o")).symm
    | cons a t hv=>
     cases hwi with
     | nil=>
      simp only[xW,zU] at hlen;rw[a4A];exact(zC (by walk_at "o")).symm
     | cons c u hw=>
      rw[zip_cons_cons] at hz;cases hz
   rw[hv] at hR
   wp_walk
   exact⟨_,rfl,by simpa [Builtin.Tuple.tupleCompareSizes] using hR⟩
  case h=>
   exact⟨rfl,rfl,items.toList,items2.toList,ns,ms,rfl,hi,hj,by walk_at "o",h⟩
end
section
variable {prog:Program}{w:World}{A:Around}{E:Value->Shared->Prop}{s:Shared}
theorem ge_tupInts {l b:Addr}{items items2:Array Value}{ns ms:List Int}{Q:Value->Shared->Prop}(hl:IsTup s.heap l items)(hb:IsTup s.heap b items2)(hi:IntsAre items.toList ns)(hj:IntsAre items2.toList ms)
  (hu:A.units<cLine) (h:Q (.bool (lexGe ns ms)) s):wpAny (model prog w) A (compareOp .GtE (.ref l) (.ref b)) Q E s:=by
 obtain⟨⟨cls,dd,data,sl⟩,ho,hc,n,hd⟩:=id hl;obtain⟨⟨cls2,dd2,data2,sl2⟩,ho2,hc2,n2,hd2⟩:=id hb;simp only at hc hd hc2 hd2;subst hc hd hc2 hd2;exact richCompare_meets_room (op:=.GtE) ⟨_,ho,rfl⟩ ⟨_,ho2,rfl⟩ PySem.F.slot_tuple_ge PySem.F.entry_tuple_ge (PySem.F.args_tuple_ge_2 _ _) (a4I l b items items2 n n2 dd dd2 sl sl2 ns ms hi hj)
  ⟨ho,ho2,show Value.bool (lexGe ns ms)≠Value.notImplemented/\Q (.bool (lexGe ns ms)) s from⟨(fun x=>nomatch x),h⟩⟩ hu
end
end HT
namespace L2
open PySem PySem.Spec PyProof.Rows
section
variable {X:Cx}
def rGeT (K:PySem.W.Frag):R2:=fun x y H Q=>∃a b ns ms,x= .ref a/\y= .ref b/\SqT K H a (ns.map V.int)/\SqT K H b (ms.map V.int)/\Q (.bl (HT.lexGe ns ms)) H
theorem b3z (hu:X.A.units<cLine):OpR X (compareOp .GtE) (rGeT X.K):=by
 intro pins s σ H x y v u Q I rx ry h;obtain⟨a,b,ns,ms,rfl,rfl,ha,hb,q⟩:=h;cases rx;cases ry;obtain⟨its,r1,p1,_⟩:=I.tuple ha;obtain⟨its2,r2,p2,_⟩:=I.tuple hb;exact HT.ge_tupInts p1 p2 (a0o r1) (a0o r2) hu ⟨.bl (HT.lexGe ns ms),H,I,rfl,q⟩
end
end L2
set_option maxHeartbeats 1000000
namespace Z
open PySem PySem.Spec PyProof.Rows L2
def isNonV (y:Value):Bool:=match y with
 | .none=>true
 | _=>false
def noneOf:List D->Option Bool
 | []=>some false
 | .non::ds=>(noneOf ds).map fun _=>true
 | .int _::ds=>noneOf ds
 | .tup _::ds=>noneOf ds
 | _::_=>none
def isOpt:D->Bool
 | .int _=>true
 | .tup _=>true
 | _=>false
theorem a1P {α:Type}{f:Option α->D}(h0:f none= .non)(h1:∀a,isOpt (f (some a))=true):∀os:List (Option α),noneOf (os.map f)=some (os.any Option.isNone)
 | []=>rfl
 | none::os=>by rw[zR,h0,noneOf,a1P h0 h1 os];rfl
 | some a::os=>by
  have:=h1 a
  have ih:=a1P h0 h1 os;rw[zR];cases q:f (some a) with
  | int i=>rw[noneOf,ih];rfl
  | tup xs=>rw[noneOf,ih];rfl
  | _=>rw[q] at this;cases this
def rInO (K:PySem.W.Frag):R2:=fun x y H Q=>∃(A:Av) (ds:List D) (k:Bool) (p:Addr) (vs:List V),x= .non/\y= .ref p/\(SqL K H p vs\/SqT K H p vs)/\DenL K A H ds vs/\noneOf ds=some k/\Q (.bl k) H
section
variable {X:Cx}{a b:Expr}{f g:FX}{pos:Pos}
theorem a0A {A:Av}(hu:X.A.in1.units<cLine){pins:List (Addr×PySem.Obj)}{σ:L2.St}{H:Hp}{s:Shared}(I:Inv X pins σ H s):∀{ds:List D} {vs:List V} {us:List Value} {k:Bool},noneOf ds=some k->DenL X.K A H ds vs->Vals vs us->
  (∀y∈us,SeqAt.EqAt X.A.in1 s y .none (isNonV y))/\us.any isNonV=k
 | [],vs,us,k,e,l,r=>by
  rw[DenL] at l;subst l;cases r;cases e;exact⟨fun y hy=>by simp at hy,rfl⟩
 | d::ds,vs,us,k,e,l,r=>by
  rw[DenL] at l;obtain⟨v,vs,rfl,hd,l⟩:=l;cases r with
  | cons r1 r2=>
   rename_i u us;cases d with
   | non=>
    obtain⟨k',e1,e2⟩:=oms (show(noneOf ds).map _=some k from e);obtain⟨i1,i2⟩:=a0A hu I e1 l r2;rw[Den] at hd;subst hd;cases(show u=Value.none from r1);refine⟨fun y hy=>?_,by rw[<-e2];rfl⟩
    rcases zT.mp hy with rfl|hy
    ·exact .same _
    ·exact i1 y hy
   | int i=>
    obtain⟨i1,i2⟩:=a0A hu I (show noneOf ds=some k from e) l r2;rw[Den] at hd;subst hd;obtain⟨t,z⟩:=(show ∃t,u=Value.int i t from r1);subst z;refine⟨fun y hy=>?_,by rw[any_cons,i2];rfl⟩
    rcases zT.mp hy with rfl|hy
    ·exact .int_none _ _
    ·exact i1 y hy
   | tup xs=>
    obtain⟨i1,i2⟩:=a0A hu I (show noneOf ds=some k from e) l r2;rw[Den] at hd;obtain⟨c,ws,rfl,hq,_⟩:=hd;cases(show u=Value.ref c from r1);obtain⟨its,_,hp,_⟩:=I.tuple hq;refine⟨fun y hy=>?_,by rw[any_cons,i2];rfl⟩
    rcases zT.mp hy with rfl|hy
    ·exact .tuple_none hp hu
    ·exact i1 y hy
   | _=>cases e
theorem b4q {k0:Nat}(hr:Room k0 X.A):OpR X (compareOp .In) (rInO X.K):=by
 intro pins s σ H x y v u Q I rx ry ⟨A,ds,k,p,vs,ex,ey,hq,l,e,q⟩;subst ex ey;cases ry;cases(show v=Value.none from rx);have hu:X.A.in1.units<cLine:=by have:=hr.units;show X.A.units+1<_;walk_at "o"
 rcases hq with hq|hq
 ·obtain⟨its,r,pl,hz⟩:=I.list hq;obtain⟨c1,c2⟩:=a0A hu I e l r;refine SeqAt.in_listAt isNonV pl.isList (fun w hw=>c1 w (by simpa using hw)) ⟨.bl _,H,I,rfl,?_⟩
  rw[show its.toArray.any isNonV=its.any isNonV by simp,c2]
  exact q
 ·obtain⟨its,r,pl,hz⟩:=I.tuple hq;obtain⟨c1,c2⟩:=a0A hu I e l r;refine SeqAt.in_tupleAt isNonV pl (fun w hw=>c1 w (by simpa using hw)) ⟨.bl _,H,I,rfl,?_⟩
  rw[show its.toArray.any isNonV=its.any isNonV by simp,c2]
  exact q
def oInO (x y:D):Option W:=match x with
 | .non=>(items y).bind fun ys=>(noneOf ys).map fun k=>.v (.bl k)
 | _=>none
theorem kInO:Pr2 X oInO (rInO X.K):=by
 intro A x y w v u H Q _ e hx hy q;cases x with
 | non=>
  simp only[oInO] at e;obtain⟨ys,e1,e⟩:=obs e;obtain⟨k,e2,e⟩:=oms e;cases e;obtain⟨p,vs,rfl,hq,l⟩:=a2X e1 hy;exact⟨A,ys,k,p,vs,a2g hx,rfl,hq,l,e2,q _ H (Same.refl H) C5⟩
 | _=>cases e
theorem a7l {k:Nat}(hr:Room k X.A)(ha:QX X a f)(hb:QX X b g)(hm:behindInMarks .In b=false:=by rfl):QT X (.Compare a [.In] [b] pos) (fTest (fBin oInO f g)):=X1 (b4q hr) kInO ha hb hm
theorem a54 {α:Type}{h:Option α->D}{os:List (Option α)}(h0:h none= .non:=by rfl)(h1:∀a,isOpt (h (some a))=true:=by intro _;rfl):oInO .non (.lst (os.map h))=some (.v (.bl (os.any Option.isNone))):=by
 unfold oInO;dsimp only;rw[show items (.lst (os.map h))=some (os.map h) from rfl,bind_some,a1P h0 h1];rfl
def oGeT:D->D->Option W
 | .tup xs,.tup ys=>(intsOf xs).bind fun ns=>(intsOf ys).map fun ms=>.v (.bl (HT.lexGe ns ms))
 | _,_=>none
theorem kGeT:Pr2 X oGeT (rGeT X.K):=by
 intro A x y w v u H Q _ e hx hy q;unfold oGeT at e;split at e
 ·rename_i xs ys;obtain⟨ns,e1,e⟩:=obs e;obtain⟨ms,e2,e⟩:=oms e;cases e;obtain⟨a,vs,rfl,h1,l1⟩:=L6 hx;obtain⟨b,us,rfl,h2,l2⟩:=L6 hy;rw[T5 e1] at l1;rw[T5 e2] at l2;rw[K6 l1] at h1;rw[K6 l2] at h2;exact⟨a,b,ns,ms,rfl,rfl,h1,h2,q _ H (Same.refl H) C5⟩
 ·cases e
theorem b2F {k:Nat}(hr:Room k X.A)(ha:QX X a f)(hb:QX X b g):QT X (.Compare a [.GtE] [b] pos) (fTest (fBin oGeT f g)):=X1 (b3z (by have:=hr.units;walk_at "o")) kGeT ha hb
end
def orR (r1 r2:FR):FR:=fun ρ=>match r1 ρ with
 | some C=>some C
 | none=>r2 ρ
section
variable {X:Cx}{rest:List Stmt}{r1 r2:FR}{e:Expr}{pos:Pos}{r:FRe}
theorem a0m (h1:PRs X rest r1)(h2:PRs X rest r2):PRs X rest (orR r1 r2):=⟨fun pins s σ H P O ρ C I rp hr hx=>by
 unfold orR at hr;cases q:r1 ρ with
 | some C'=>rw[q] at hr;cases hr;exact h1.to pins s σ H P O ρ _ I rp q hx
 | none=>rw[q] at hr;exact h2.to pins s σ H P O ρ C I rp hr hx⟩
theorem b1T {x:Str}{pos':Pos}(h:PRe X e r)(hs:swapsWith e (some (.Name x pos')) pos.line X.env=pure false:=by rfl):PRt X (.Assign [.Name x pos'] e pos) r:=
 ⟨fun pins s σ H P O ρ ρ' C I rp hr=>wpAny_Assign_Name (zJ (h.to pins s σ H P O ρ ρ' C I rp hr) (fun _ _ z=>z.elim) fun v s' z=>z) hs⟩
end
section
variable {r r1 r2:FR}{re:FRe}{t:FT}{fa:FA}{F:FS}{ρ:Ev}{C:Addr}{w:W}{np n:Nat}{ds:List D}{fi:FI}{js:List (Option Nat)}{gf:FG}{fe:FX}{xs:List D}
def orR1 (r2:FR) (ρ:Ev):Option Addr->Option Addr
 | some C=>some C
 | none=>r2 ρ
theorem rr_or:orR r1 r2 ρ=orR1 r2 ρ (r1 ρ):=by unfold orR orR1;cases r1 ρ<;>rfl
theorem b1n:orR1 r2 ρ (some C)=some C:=rfl
theorem b1v:orR1 r2 ρ none=r2 ρ:=rfl
def rif1 (r1 r2:FR):Option (Bool×Ev)->Option Addr
 | some p=>if p.1=true then r1 p.2 else r2 p.2
 | none=>none
theorem rr_if:fRIf t r1 r2 ρ=rif1 r1 r2 (t ρ):=by unfold fRIf rif1;cases t ρ<;>rfl
theorem b0Z:rif1 r1 r2 (some (true,ρ))=r1 ρ:=rfl
theorem b16:rif1 r1 r2 (some (false,ρ))=r2 ρ:=rfl
def rr1 (C:Addr):Option (List W×Ev)->Option Addr
 | some p=>if p.1.length<=lim then some C else none
 | none=>none
theorem rr_ra:fRaise C fa ρ=rr1 C (fa ρ):=by unfold fRaise rr1;cases fa ρ<;>rfl
theorem b3f:rr1 C (some ([w],ρ))=some C:=by
 show(if 1<=lim then some C else none)=some C;exact if_pos (by decide)
def rn1 (r:FR):Option R->Option Addr
 | some (.nx ρ)=>r ρ
 | _=>none
theorem rr_n:fRN F r ρ=rn1 r (F ρ):=by
 unfold fRN rn1;cases F ρ with
 | none=>rfl
 | some q=>cases q<;>rfl
theorem rr_nn:rn1 r (some (.nx ρ))=r ρ:=rfl
theorem rr_nr:rn1 r (some (.rt w ρ))=none:=rfl
def re1:Option (Addr×Ev)->Option Addr
 | some p=>some p.1
 | none=>none
theorem rr_e:fRE re ρ=re1 (re ρ):=by unfold fRE re1;cases re ρ<;>rfl
theorem rr_es:re1 (some (C,ρ))=some C:=rfl
theorem rr_en:re1 none=none:=rfl
theorem b4D:runR np n r ds=if ds.length=np then r (start0 n ds) else none:=rfl
theorem a5k {gf:FG}{F:FS}{r:FR}{C:Addr}(B:Ev->Prop)(bad:D->Bool):∀{xs:List D} {ρ:Ev},B ρ->
  (∀x∈xs,∀ρ,B ρ->∃ρ1,gf x ρ=some ρ1/\(bad x=true->r ρ1=some C)/\(bad x=false->r ρ1=none/\∃ρ2,F ρ1=some (.nx ρ2)/\B ρ2))->loopR gf F r xs ρ=if xs.any bad=true then some C else none
 | [],_,_,_=>rfl
 | x::xs,ρ,hB,h=>by
  obtain⟨ρ1,e1,e2,e3⟩:=h x zG ρ hB;rw[loopR,e1,bind_some,any_cons];unfold turnR;cases q:bad x with
  | true=>rw[e2 q];rfl
  | false=>
   obtain⟨e4,ρ2,e5,hB2⟩:=e3 q;rw[e4,e5,Bool.false_or];exact a5k B bad hB2 fun z hz=>h z (zH _ hz)
theorem a4t {k:Nat}{C:Addr}(I:Ev->Prop)(bad:D->Bool)(h:D->D)(hI:∀B,I B->B.length=k):∀(xs:List D),(∀x∈xs,∀B zs,I B->∃B',I B'/\gf x (B++acc zs)=some (B'++acc zs)/\(bad x=true->∃ρ',re (B'++acc zs)=some (C,ρ'))/\(bad x=false->re (B'++acc zs)=none/\∃w,fe (B'++acc zs)=some (w,B'++acc zs)/\(w= .v (h x)\/w= .o (h x))))->
  ∀(B:Ev) (zs:List D),zs.length+xs.length<=lim->I B->loopCR (turnC k gf ttF fe) (rsC gf re) xs (B++acc zs)=if xs.any bad=true then some C else none
 | [],_,_,_,_,_=>rfl
 | x::xs,st,B,zs,hl,i=>by
  obtain⟨B1,i1,e1,e2,e3⟩:=st x zG B zs i;rw[zU] at hl;rw[loopCR,any_cons];unfold rsC;rw[e1,bind_some];cases q:bad x with
  | true=>
   obtain⟨ρ',e4⟩:=e2 q;rw[e4];rfl
  | false=>
   obtain⟨e4,w,e5,hw⟩:=e3 q;have ea:=b2y (zs:=zs) (hI B1 i1) hw (by walk_at "o")
   have et:turnC k gf ttF fe x (B++acc zs)=some (B1++acc (zs++[h x])):=by
    unfold turnC;rw[e1,bind_some,show ttF (B1++acc zs)=some (true,B1++acc zs) from rfl,bind_some,if_pos rfl,e5,bind_some,ea]
   rw[e4,qN];dsimp only;rw[et,bind_some,Bool.false_or];exact a4t I bad h hI xs (fun y hy=>st y (zH _ hy)) B1 (zs++[h x]) (by rw[zP,jR];walk_at "o") i1
theorem a8k {C:Addr}{ρ1:Ev}(I:Ev->Prop)(bad:D->Bool)(h:D->D)(ei:fi ρ=some (xs,ρ1))(hI:∀B,I B->B.length=js.length)(h0:I (capE none js ρ1))(hl:xs.length<=lim)
  (st:∀x∈xs,∀B zs,I B->∃B',I B'/\gf x (B++acc zs)=some (B'++acc zs)/\(bad x=true->∃ρ',re (B'++acc zs)=some (C,ρ'))/\(bad x=false->re (B'++acc zs)=none/\∃w,fe (B'++acc zs)=some (w,B'++acc zs)/\(w= .v (h x)\/w= .o (h x)))):
  fCompR fi js gf fe re ρ=if xs.any bad=true then some C else none:=by
 unfold fCompR;rw[ei,bind_some];exact a4t I bad h hI xs st _ [] (by rw[xW];walk_at "o") h0
end
end Z
def rwN:=(".r_me .r_me2 .r_me3 .r_me4 .r_ms .r_ss .r_ss2 .r_ss3 .r_ss4 .r_ss5 .r_isg .b3a .o_inS .b3I .b4c .b3Y .b4R .b4o .b3q .o_slS .o_ixS nil_append .r_rc4 .rr_or .b1n .b1v .rr_if .b0Z .b16 .rr_ra .b3f .rr_n .rr_nn .rr_nr .rr_e .rr_es .rr_en .b4D .r_cv .r_cv1 .r_cv2 .r_rf .r_rf1 .lim .r_nt .r_nt2 .r_fn .b2R .b4d .r_fn3 .b0H .ix_0 .a_3 .a_4 .it_t .it_l .r_iz .b3o .nl_v .nl_n .r_isx .b3C .r_rc .r_rc1 .r_rc2 .r_rc3 .r_iz2 .r_iz3 .r_iz4 .r_r1 .r_r1s .r_r2 .r_r2s .b3h .r_ch .r_ch2 .r_ch3 .r_ch4 .b1s .b1l .r_var .b2k .b1D .r_c .b3k .b3d .b02 .b3x .b2Q .b4z .b1m .b1d .b38 .r_bin .b2G .b3r .b2P .b3y .r_un .r_un2 .r_un3 .a5I .b4w .b2B .b4r .b0h .r_not .b25 .r_and .r_or .b06 .b03 .b4y .b3N .b4J .r_orV .r_if .b0w .b0r .b19 .b4K .b2U .r_nil .b3R .b1o .b08 .b1L .b07 .b2l .b2N .b3X .b4E .r_tup .r_lst .b1E .b2g .b3L .b2s .b1X .r_k1 .r_def .b3g .b4v .b2X .r_sl .r_sl2 .r_sl3 .r_sl4 .r_sl5 .b4A .b3T .r_o0 .r_o1 .r_o1O .b4u .a9j .a9e .r_ret .b2r .b1g .a9H .r_ifS .b1f .b01 .r_asg .b1k .b1G .r_ag .r_ag2 .r_ag3 .r_nxO .b1e .b2J .b04 .r_gcO .b4p .r_gs .r_gs2 .r_gs3 .r_gs4 .b4C .b1I .r_par .b3s .b4f .r_is .r_is2 .b4h .r_for .b3v .b2L .b1S .r_mu .r_mu2 .r_mu3 .r_mu4 .r_mu5 .r_mu6 .r_app .r_run .b0S .a9w .o_i0 .o_i .b1i .b1Z .b1Q .o_neg .b2M .b3j .b4m .b0W .b1u .o_abs .a8Z .o_d2 .a_0 .a_1 .a_2 .lfW_v .lfW_o .b1b .a7n .b2f .b3O .b4k .a83 .own_0 .own_s .b3u .b4P .frz_o .frz_s .W.own .start0 .deq .deqL .flatE .isD .lf .lfL .frzL zU xW zR jZ List.replicate jT nil_append xM List.getElem?_cons_zero xY List.set_cons_zero List.set_cons_succ bind_some qH bind_none qN qT if_false jW Nat.zero_add Nat.reduceAdd Nat.reduceSub jV Nat.add_zero Nat.add_one_sub_one and_self and_true true_and Bool.and_self Bool.and_true jD Bool.not_true Bool.not_false Bool.or_false Bool.or_true Bool.false_or Bool.and_false qV reduceIte ite_self decide_true decide_false Nat.reduceLeDiff beq_self_eq_true jJ".splitOn " ")
local macro_rules|`(tactic|walk_at "z r")=>do
 let xs:=(rwN.map fun s=>Lean.mkIdent (if s.startsWith "." then "Z"++s else s).toName).toArray
 `(tactic|simp only[$[$xs:ident],*])
local macro_rules|`(tactic| walk_at "q") => `(tactic| repeat(first|walk_at "z r"))
set_option maxHeartbeats 1500000
namespace Q79
open PySem L2 Z
abbrev LO:=List D->Option W
abbrev LL:=D->List D->Option (W×D)
local macro_rules|`(tactic| walk_at "c") => `(tactic| exact⟨rfl, rfl, rfl, by decide +kernel, rfl, by decide +kernel, by decide +kernel⟩)
def top (i:Nat):Stmt:=PySem.Challenge.pw_twainhoard_k79_texts_refused.main.body.getD i (.Pass ⟨0,0,0,0⟩)
section
variable {P:Program}{w:World}{K:PySem.W.Frag}{mg:Str->Option Value}{base:Heap}{f:Addr}{fd:FuncData}{k:Nat}
abbrev a31 (mg:Str->Option Value) (K:PySem.W.Frag):Prop:=GlT mg K "NOUGHT" [0,1]
abbrev a48 (mg:Str->Option Value) (K:PySem.W.Frag):Prop:=GlS mg "FIGURES" "0123456789"
abbrev a7q (mg:Str->Option Value) (K:PySem.W.Frag):Prop:=GlS mg "NONE" "."
abbrev a0T (mg:Str->Option Value) (K:PySem.W.Frag):Prop:=∃t,mg "MOST_FIGURES"=some (.int 60 t)
abbrev X7 (mg:Str->Option Value) (K:PySem.W.Frag):Prop:=∃t,mg "MOST_THINGS"=some (.int 100 t)
abbrev X0 (mg:Str->Option Value) (K:PySem.W.Frag):Prop:=∃t,mg "MOST_PEOPLE"=some (.int 8 t)
abbrev a3f (mg:Str->Option Value) (K:PySem.W.Frag):Prop:=∃t,mg "MOST_GAIN"=some (.int (10^12) t)
theorem G3:optD none= .non:=rfl
theorem D5 {i:Int}:optD (some i)= .int i:=rfl
theorem a0F {l:List Nat}{b:Bool}(h:okN l=b):numL l=if b=true then some ((NumText.digitsVal l:Nat):Int) else none:=by unfold numL;rw[h]
abbrev Y0:Stmt:=top 52
theorem a01:FnScope ["word"] ["word"] (defScope Y0):=by walk_at "c"
def Q7 (g:LO):Prop:=∀l:List Nat,Tx l->g [.str (sO l)]=some (.v (optD (numL l)))
theorem a3M (m_int:mg "int"=none)(m_len:mg "len"=none)(F:Fun K "_law_number" "_law_number" Y0 f fd)(B:Binds K fd ["word"] [])(hm:mg "_law_number"=some (.ref f)):∃g,Fn P w K mg base "_law_number" (k+1) g/\Q7 g:=by
 have nd:=a01.nd
 refine⟨_,z8 F a01 B hm rfl rfl (fun cdv A outer s H E hr=>(b8 (p9 (F0 (C8 (E3 (a6a c6 (qx_b t7 A9 m_len (a8 (a7 0) a9)) c6)) (C8 (S0 hr (b0L (a7 0) (a8 j4 a9)) j4) (J4 (F0 (Y3 (E2 hr (t6 (a7 0) c6) j4) (S9 (S0 hr (a7 0) j4)))))))) (c7 (g6 u7)) h7)
  (c7 (g6 (qx_t a1l a3F m_int (a8 (a7 0) a9)))))),?_⟩
 intro l h;have lb:=h.lim';have e1:=k7 l;have e2:=a7u l;have es:mStrip (sO l) [.str (Str.ofString "0123456789")]=some (.v (.str (Txt.stripChars (sO l) (Str.ofString "0123456789")))):=if_pos h.lim;have e3:(sO l==Str.ofString "0")=decide (l=[48]):=by rw[a4x];exact P4 _ _
 by_cases h1:1<=l.length
 ·have d1:decide ((1:Int)<=((sO l).length:Int))=true:=zC (by walk_at "o")
  by_cases h2:l.length<=60
  ·have d2:decide (((sO l).length:Int)<=60)=true:=zC (by walk_at "o")
   have l6:(sO l).length<=640:=by walk_at "o"
   cases ha:l.all dgB with
   | false=>
    have n0:numL l=none:=a0F (b:=false) (by unfold okN;rw[ha];simp)
    repeat(first|walk_at "z r" | simp only[lb,es,e2,e3,d1,d2,ha,n0,G3])
   | true=>
    cases l with
    | nil=>simp at h1
    | cons c r=>
     have at0:=a5S h;have z0:(sO [c]==Str.ofString "0")=decide (c=48):=by rw[a4x,P4];simp
     have ok:okN (c::r)=(!(decide (c=48))||decide (c::r=[48])):=by
      unfold okN;rw[ha,zC (⟨h1,h2⟩:1<=(c::r).length/\(c::r).length<=60)]
      by_cases q:c=48<;>simp[q]
     by_cases hc:c=48/\c::r≠[48]
     ·have d3:decide (c=48)=true:=zC hc.1;have d4:decide (c::r=[48])=false:=zB hc.2;have n0:numL (c::r)=none:=a0F (b:=false) (by rw[ok,d3,d4];rfl)
      repeat(first|walk_at "z r" | simp only[lb,es,e2,e3,d1,d2,ha,at0,z0,d3,d4,n0,G3])
     ·have ok':okN (c::r)=true:=by
       rw[ok]
       by_cases q:c=48
       ·rw[zC (show c::r=[48] from xG fun z=>hc ⟨q,z⟩)];simp
       ·rw[zB q];rfl
      have n1:numL (c::r)=some ((NumText.digitsVal (c::r):Nat):Int):=a0F (b:=true) ok';have it:=a6t ok';cases d3:decide (c=48) with
      | false=>repeat(first|walk_at "z r" | simp only[lb,es,e2,e3,d1,d2,ha,at0,z0,d3,n1,D5,l6,it,qH])
      | true=>
       have d4:decide (c::r=[48])=true:=zC (xG fun z=>hc ⟨jA d3,z⟩)
       repeat(first|walk_at "z r" | simp only[lb,es,e2,e3,d1,d2,ha,at0,z0,d3,d4,n1,D5,l6,it,qH])
  ·have d2:decide (((sO l).length:Int)<=60)=false:=zB (by walk_at "o")
   have n0:numL l=none:=a0F (b:=false) (by unfold okN;rw[zB (fun z=>h2 z.2)];rfl)
   repeat(first|walk_at "z r" | simp only[lb,d1,d2,n0,G3])
 ·have d1:decide ((1:Int)<=((sO l).length:Int))=false:=zB (by walk_at "o")
  have n0:numL l=none:=a0F (b:=false) (by unfold okN;rw[zB (fun z=>h1 z.1)];rfl)
  repeat(first|walk_at "z r" | simp only[lb,d1,n0,G3])
def isFig:D->Bool
 | .str x=>inS x (Str.ofString "0123456789")
 | _=>false
theorem a8M (w:List Nat):(signs (sO w)).all isFig=w.all dgB:=by
 unfold signs;rw[all_map];exact jF (List.all w) (funext fun c=>b1M c)
theorem b0Q (x:Str):(signs x).length=x.length:=by unfold signs;rw[zD,jB];rfl
structure NumAt (l w:List Nat):Prop where
 bad:w=[]\/60<w.length\/w.all dgB=false->numI l=none
 nul:w.head? =some 48->l≠[48]->numI l=none
 good:∀c r,w=c::r->w.length<=60->w.all dgB=true->(c=48->l=[48])->∃n,numI l=some n/\PySem.intText? (sO l)=some n/\l.length<=61
theorem a9u {l:List Nat}(h:l.head? ≠some 45):NumAt l l where
 bad:=fun q=>by
  rw[T1 h];refine(a0F (b:=false) ?_).trans (if_neg nofun)
  unfold okN;rcases q with q|q|q
  ·rw[q];rfl
  ·rw[zB (fun z=>by walk_at "o")];rfl
  ·rw[q];simp
 nul:=fun q n=>by
  rw[T1 h];refine(a0F (b:=false) ?_).trans (if_neg nofun)
  unfold okN;rw[q,zB n];simp
 good:=fun c r e n a z=>by
  have ok:okN l=true:=by
   unfold okN;rw[a,zC (⟨by rw[e];simp,n⟩:1<=l.length/\l.length<=60)]
   by_cases q:c=48
   ·rw[zC (z q)];simp
   ·rw[e];simp[q]
  exact⟨_,(T1 h).trans (a0F ok),a6t ok,by walk_at "o"⟩
theorem a8T {w:List Nat}:NumAt (45::w) w where
 bad:=fun q=>by
  have:okN w=false:=by
   unfold okN;rcases q with q|q|q
   ·rw[q];rfl
   ·rw[zB (fun z=>by walk_at "o")];rfl
   ·rw[q];simp
  show(if okN w=true/\w≠[48] then _ else _)=_;rw[this];exact if_neg (fun z=>nomatch z.1)
 nul:=fun q _=>by
  show(if okN w=true/\w≠[48] then _ else _)=_;refine if_neg fun z=>?_
  have:=z.1
  unfold okN at this;rw[q,zB z.2] at this;simp at this
 good:=fun c r e n a z=>by
  have hc:c≠48:=fun q=>by cases z q
  have ok:okN w=true:=by
   unfold okN;rw[a,zC (⟨by rw[e];simp,n⟩:1<=w.length/\w.length<=60),e];simp[hc]
  refine⟨_,if_pos ⟨ok,fun q=>hc (by rw[e] at q;cases q;rfl)⟩,b0M ok,by rw[zU];walk_at "o"⟩
abbrev a1c:Stmt:=top 36
theorem a2v:FnScope ["text","figures"] ["text"] (defScope a1c):=by walk_at "c"
def R3 (g:LO):Prop:=∀l:List Nat,Tx l->g [.str (sO l)]=some (.v (optD (numI l)))
theorem a5N (m_int:mg "int"=none)(m_len:mg "len"=none)(m_all:mg "all"=none)(U2:a0T mg K)(a2S:a48 mg K)(F:Fun K "number_in" "number_in" a1c f fd)(B:Binds K fd ["text"] [])(hm:mg "number_in"=some (.ref f)):∃g,Fn P w K mg base "number_in" (k+1) g/\R3 g:=by
 have nd:=a2v.nd
 refine⟨_,z8 F a2v B hm rfl rfl (fun cdv A outer s H E hr=>(b8 (l4 1 nd (a5d (B8 (a4R (a7 0) (a8 j4 a9))) (C7 (a7 0) (A3 c6) C4) (a7 0)))
  (b8 (p9 (F0 (C8 (E2 hr (a7 1) j4) (C8 (a0w (qx_b t7 A9 m_len (a8 (a7 1) a9)) (Y5 U2)) (J4 (E3 (B8 (qx_b (Y4 rfl) V4 m_all (a8 (S6 (N:=["sign"]) (js:=[none]) (li:=none) rfl (G4 (by exact(.own .nil)) rfl (by exact trivial) (by rfl)) (a0h (b3b (a7 1))) (fun _ _ _ _=>(c8 0 (show((["sign"]:List Str)++[accN]).Nodup by decide +kernel))) (fun _ _ _ _=>D0) (fun _ _ _ _=>(b3K (a7 0) (a4D a2S)))) a9)))))))) (c7 (g6 u7)) h7)
  (b8 (p9 (F0 (Y3 (E2 hr (t6 (a7 1) c6) j4) (S9 (S0 hr (a7 0) j4)))) (c7 (g6 u7)) h7)
  (c7 (g6 (qx_t a1l a3F m_int (a8 (a7 0) a9)))))))),?_⟩
 intro l h;obtain⟨d,w,s1,sl,hl,hw,na⟩:∃(d:Bool) (w:List Nat),Txt.startswith (sO l) (Str.ofString "-")=d/\(d=true->Txt.slice (sO l) (some 1) none=sO w)/\(d=false->l=w)/\Tx w/\NumAt l w:=by
  have s1:Txt.startswith (sO l) (Str.ofString "-")=(l.head? == some 45):=by rw[a29];exact a7A _ _
  rw[s1]
  by_cases q:l.head? =some 45
  ·cases l with
   | nil=>cases q
   | cons c w=>
    have:c=45:=by simpa using q
    subst this;exact⟨_,w,rfl,fun _=>a0s (l:=45::w) (by walk_at "o"),fun z=>by simp at z,h.drop 1,a8T⟩
  ·exact⟨_,l,rfl,fun z=>by simp at z;exact absurd z q,fun _=>rfl,h,a9u q⟩
 have e3:(sO l==Str.ofString "0")=decide (l=[48]):=by rw[a4x];exact P4 _ _
 have lb:=h.lim';have l1:=k7 l;have e1:(sO w==Str.ofString "")=decide (w=[]):=by rw[a0S];exact P4 _ _
 have e0:=k7 w;have lw:=hw.lim';have fa:=hw.asc;have gb:=a1Z (r:=fun bs=>bs.all id) (J8 isFig (signs (sO w)));rw[T9,a8M] at gb;cases d with
 | false=>
  have q:=hl rfl;clear sl hl;subst q
  by_cases q0:l=[]
  ·have z1:decide (l=[])=true:=zC q0;have n0:=na.bad (.inl q0)
   repeat(first|walk_at "z r" | simp only[s1,lb,e1,z1,n0,G3])
  ·have z1:decide (l=[])=false:=zB q0
   by_cases q1:l.length<=60
   ·have z2:decide ((60:Int)<((sO l).length:Int))=false:=zB (by walk_at "o")
    repeat(first|walk_at "z r" | simp only[s1,lb,e1,z1,z2])
    rw[w4 (ρ1:=[some (.v (.str (sO l))),some (.v (.str (sO l)))]) (xs:=signs (sO l)) (fun B=>∃o1:Option D,B=[o1.map .v]) (fun _=>true) (fun x=>.bl (isFig x))]
    ·rw[j9];cases ha:l.all dgB with
     | false=>
      have n0:=na.bad (.inr (.inr ha));rw[ha] at gb
      repeat(first|walk_at "z r" | simp only[gb,n0,G3])
     | true=>
      rw[ha] at gb;obtain⟨c,r,ew⟩:∃c r,l=c::r:=by cases l with
       | nil=>exact absurd rfl q0
       | cons c r=>exact⟨c,r,rfl⟩
      have at0:strAt (sO l) 0=some (.v (.str (sO [c]))):=by rw[ew] at h ⊢;exact a5S h
      have z0:(sO [c]==Str.ofString "0")=decide (c=48):=by rw[a4x,P4];simp
      by_cases q:c=48->l=[48]
      ·obtain⟨n,n1,it,ll⟩:=na.good c r ew q1 ha q;have l6:(sO l).length<=640:=by walk_at "o"
       cases d3:decide (c=48) with
       | false=>repeat(first|walk_at "z r" | simp only[gb,at0,z0,d3,n1,D5,l6,it,qH])
       | true=>
        have d4:decide (l=[48])=true:=zC (q (jA d3))
        repeat(first|walk_at "z r" | simp only[gb,at0,z0,d3,e3,d4,n1,D5,l6,it,qH])
      ·have q2:c=48:=xG fun z=>q fun y=>absurd y z;have q3:l≠[48]:=fun z=>q fun _=>z;have n0:=na.nul (by rw[ew,q2];rfl) q3
       have d3:decide (c=48)=true:=zC q2;have d4:decide (l=[48])=false:=zB q3
       repeat(first|walk_at "z r" | simp only[gb,at0,z0,d3,e3,d4,n0,G3])
    ·repeat(first|walk_at "z r" | simp only[fa])
    ·rintro _ ⟨_,rfl⟩;rfl
    ·exact⟨none,rfl⟩
    ·unfold lim;rw[b0Q];exact lb
    ·exact a0Q _ _
    ·rintro x hx _ zs ⟨o1,rfl⟩;obtain⟨c,hm,rfl⟩:=zY.mp hx;refine⟨[some (.v (.str ⟨#[c]⟩))],.v (.bl (isFig (.str ⟨#[c]⟩))),⟨some _,rfl⟩,?_,rfl,fun _=>⟨?_,.inl rfl⟩⟩
     ·walk_at "q"
     ·repeat(first|walk_at "z r" | simp only[isFig])
   ·have z2:decide ((60:Int)<((sO l).length:Int))=true:=zC (by walk_at "o")
    have n0:=na.bad (.inr (.inl (by walk_at "o")))
    repeat(first|walk_at "z r" | simp only[s1,lb,e1,z1,z2,n0,G3])
 | true=>
  replace sl:=sl rfl
  by_cases q0:w=[]
  ·have z1:decide (w=[])=true:=zC q0;have n0:=na.bad (.inl q0)
   repeat(first|walk_at "z r" | simp only[s1,lb,sl,e1,z1,n0,G3])
  ·have z1:decide (w=[])=false:=zB q0
   by_cases q1:w.length<=60
   ·have z2:decide ((60:Int)<((sO w).length:Int))=false:=zB (by walk_at "o")
    repeat(first|walk_at "z r" | simp only[s1,lb,sl,e1,z1,lw,z2])
    rw[w4 (ρ1:=[some (.v (.str (sO l))),some (.v (.str (sO w)))]) (xs:=signs (sO w)) (fun B=>∃o1:Option D,B=[o1.map .v]) (fun _=>true) (fun x=>.bl (isFig x))]
    ·rw[j9];cases ha:w.all dgB with
     | false=>
      have n0:=na.bad (.inr (.inr ha));rw[ha] at gb
      repeat(first|walk_at "z r" | simp only[gb,n0,G3])
     | true=>
      rw[ha] at gb;obtain⟨c,r,ew⟩:∃c r,w=c::r:=by cases w with
       | nil=>exact absurd rfl q0
       | cons c r=>exact⟨c,r,rfl⟩
      have at0:strAt (sO w) 0=some (.v (.str (sO [c]))):=by rw[ew] at hw ⊢;exact a5S hw
      have z0:(sO [c]==Str.ofString "0")=decide (c=48):=by rw[a4x,P4];simp
      by_cases q:c=48->l=[48]
      ·obtain⟨n,n1,it,ll⟩:=na.good c r ew q1 ha q;have l6:(sO l).length<=640:=by walk_at "o"
       cases d3:decide (c=48) with
       | false=>repeat(first|walk_at "z r" | simp only[gb,at0,z0,d3,n1,D5,l6,it,qH])
       | true=>
        have d4:decide (l=[48])=true:=zC (q (jA d3))
        repeat(first|walk_at "z r" | simp only[gb,at0,z0,d3,e3,d4,n1,D5,l6,it,qH])
      ·have q2:c=48:=xG fun z=>q fun y=>absurd y z;have q3:l≠[48]:=fun z=>q fun _=>z;have n0:=na.nul (by rw[ew,q2];rfl) q3
       have d3:decide (c=48)=true:=zC q2;have d4:decide (l=[48])=false:=zB q3
       repeat(first|walk_at "z r" | simp only[gb,at0,z0,d3,e3,d4,n0,G3])
    ·repeat(first|walk_at "z r" | simp only[fa])
    ·rintro _ ⟨_,rfl⟩;rfl
    ·exact⟨none,rfl⟩
    ·unfold lim;rw[b0Q];exact lw
    ·exact a0Q _ _
    ·rintro x hx _ zs ⟨o1,rfl⟩;obtain⟨c,hm,rfl⟩:=zY.mp hx;refine⟨[some (.v (.str ⟨#[c]⟩))],.v (.bl (isFig (.str ⟨#[c]⟩))),⟨some _,rfl⟩,?_,rfl,fun _=>⟨?_,.inl rfl⟩⟩
     ·walk_at "q"
     ·repeat(first|walk_at "z r" | simp only[isFig])
   ·have z2:decide ((60:Int)<((sO w).length:Int))=true:=zC (by walk_at "o")
    have n0:=na.bad (.inr (.inl (by walk_at "o")))
    repeat(first|walk_at "z r" | simp only[s1,lb,sl,e1,z1,lw,z2,n0,G3])
abbrev a1C:Stmt:=top 16
theorem a3j:FnScope ["thing"] ["thing"] (defScope a1C):=by walk_at "c"
def U0 (g:LO):Prop:=∀o:Option Int,g [optD o]=some (.v (.bl o.isSome))
theorem a6X (j5:mg "isinstance"=none)(m_int:mg "int"=none)(a7F:mg "bool"=none)(F:Fun K "is_whole" "is_whole" a1C f fd)(B:Binds K fd ["thing"] [])(hm:mg "is_whole"=some (.ref f)):∃g,Fn P w K mg base "is_whole" (k+1) g/\U0 g:=by
 have nd:=a3j.nd;refine⟨_,z8 F a3j B hm rfl rfl (fun cdv A outer s H E hr=>(c7 (g6 (a1E (a3c (T:="int") (a24 (by decide)) j5 m_int (a7 0)) (a0M (b0X (a3c (T:="bool") (a24 (by decide)) j5 a7F (a7 0)))))))),?_⟩
 intro o;cases o with
 | none=>
  have i1:=a9G (d:=.non) rfl;rw[G3]
  repeat(first|walk_at "z r" | simp only[i1,isI,yB])
 | some i=>
  have i1:=a9G (d:=.int i) rfl;have i2:=b2c (d:=.int i) rfl;rw[D5]
  repeat(first|walk_at "z r" | simp only[i1,i2,isI,isB,jJ])
abbrev a4g:Stmt:=top 17
theorem a5o:FnScope ["thing","count"] ["thing","count"] (defScope a4g):=by walk_at "c"
def a2n (g:LO):Prop:=∀c:Int,(∀xs:List D,g [.tup xs,.int c]=some (.v (.bl (((xs.length:Nat):Int)==c))))/\g [.non,.int c]=some (.v (.bl false))
theorem a8V (j5:mg "isinstance"=none)(t8:mg "tuple"=none)(m_len:mg "len"=none)(F:Fun K "is_row" "is_row" a4g f fd)(B:Binds K fd ["thing","count"] [])(hm:mg "is_row"=some (.ref f)):∃g,Fn P w K mg base "is_row" (k+1) g/\a2n g:=by
 have nd:=a5o.nd;refine⟨_,z8 F a5o B hm rfl rfl (fun cdv A outer s H E hr=>(c7 (g6 (a1E (a3c (T:="tuple") (a24 (by decide)) j5 t8 (a7 0)) (a0M (a9y hr (qx_b t7 A9 m_len (a8 (a7 0) a9)) (a7 1))))))),?_⟩
 intro c;constructor
 ·intro xs;have it:=a4p (d:=.tup xs) rfl
  repeat(first|walk_at "z r" | simp only[it,isT])
 ·have it:=a4p (d:=.non) rfl
  repeat(first|walk_at "z r" | simp only[it,isT])
abbrev Q0:Stmt:=top 21
theorem W0:FnScope ["one","other"] ["one","other"] (defScope Q0):=by walk_at "c"
def Z3 (g:LO):Prop:=∀a b:Int,0<=a->0<=b->g [.int a,.int b]=some (.v (.int (Int.gcd a b:Nat)))
theorem a2o (F:Fun K "common_divisor" "common_divisor" Q0 f fd)(B:Binds K fd ["one","other"] [])(hm:mg "common_divisor"=some (.ref f)):∃g,Fn P w K mg base "common_divisor" (k+1) g/\Z3 g:=by
 have nd:=W0.nd
 refine⟨_,z8 F W0 B hm rfl rfl (fun cdv A outer s H E hr=>(b8 (a60 qJ (a0w (a7 1) c6) (c7 (a6b 0 1 rfl nd (a8 (a7 1) (a8 (a2Y (a7 0) (a7 1)) a9)) rfl)))
  (c7 (g6 (a7 0))))),?_⟩
 intro a b ha hb;have l:=a62 (i:=0) (j:=1) (ρ:=[some (.v (.int a)),some (.v (.int b))]) (by decide) ha hb rfl rfl
 repeat(first|walk_at "z r" | rw[l])
abbrev rD (p:Int×Int):D:=.tup [.int p.1,.int p.2]
abbrev a7v:Stmt:=top 22
theorem a7Q:FnScope ["one","other"] ["one","other"] (defScope a7v):=by walk_at "c"
def a7h (g:LO):Prop:=∀p:Int×Int,g [rD p,rD (0,1)]=some (.v (.bl (decide (p.1<0))))
theorem b1w (F:Fun K "less" "less" a7v f fd)(B:Binds K fd ["one","other"] [])(hm:mg "less"=some (.ref f)):∃g,Fn P w K mg base "less" (k+1) g/\a7h g:=by
 have nd:=a7Q.nd;refine⟨_,z8 F a7Q B hm rfl rfl (fun cdv A outer s H E hr=>(c7 (g6 (a7I hr (U8 (t6 (a7 0) c6) (t6 (a7 1) c6)) (U8 (t6 (a7 1) c6) (t6 (a7 0) c6)))))),?_⟩;intro p;have m1:mOk p.1 1:=.inr (.inl (by decide))
 have m2:mOk 0 p.2:=.inl (by decide)
 have d1:decide (p.1*1<0*p.2)=decide (p.1<0):=by rw[Int.mul_one,Int.zero_mul]
 repeat(first|walk_at "z r" | simp only[m1,m2,d1])
def ratOk:Option Int->Option Int->Bool
 | some t,some b=>decide (0<b)&&((gcdI t b)==1)
 | _,_=>false
abbrev a1B:Stmt:=top 23
theorem a3h:FnScope ["thing"] ["thing"] (defScope a1B):=by walk_at "c"
def a4k (g:LO):Prop:=∀a b:Option Int,g [.tup [optD a,optD b]]=some (.v (.bl (ratOk a b)))
theorem a6A {O8:LO}{B0:LO}{Q1:LO}(O5:Fn P w K mg base "is_row" k O8)(L4:a2n O8)(A5:Fn P w K mg base "is_whole" k B0)(A6:U0 B0)(P8:Fn P w K mg base "common_divisor" k Q1)(Q5:Z3 Q1)(m_abs:mg "abs"=none)(F:Fun K "is_ratio" "is_ratio" a1B f fd)(B:Binds K fd ["thing"] [])(hm:mg "is_ratio"=some (.ref f)):∃g,Fn P w K mg base "is_ratio" (k+1) g/\a4k g:=by
 have nd:=a3h.nd
 refine⟨_,z8 F a3h B hm rfl rfl (fun cdv A outer s H E hr=>(b8 (p9 (F0 (C8 (E3 (B8 (g5 O5 hr (a8 (a7 0) (a8 c6 a9))))) (C8 (E3 (B8 (g5 A5 hr (a8 (t6 (a7 0) c6) a9)))) (J4 (E3 (B8 (g5 A5 hr (a8 (t6 (a7 0) c6) a9)))))))) (c7 (g6 a1r)) h7)
  (c7 (g6 (a1E (qx_gt (t6 (a7 0) c6) c6) (a0M (a9y hr (g5 P8 hr (a8 (qx_b a3X a7K m_abs (a8 (t6 (a7 0) c6) a9)) (a8 (t6 (a7 0) c6) a9))) c6))))))),?_⟩
 intro a b;have e1:=(L4 2).1 [optD a,optD b];rw[show(((([optD a,optD b]:List D).length:Nat):Int)==2)=true from rfl] at e1;have w1:=A6 a;have w2:=A6 b;cases a with
 | none=>repeat(first|walk_at "z r" | simp only[e1,w1,yB,ratOk])
 | some t=>
  cases b with
  | none=>repeat(first|walk_at "z r" | simp only[e1,w1,w2,jJ,yB,ratOk])
  | some b=>
   rw[D5,D5] at e1 ⊢;rw[D5] at w1 w2
   by_cases hb:0<b
   ·have p1:decide ((0:Int)<b)=true:=zC hb;have e2:=Q5 (if t<0 then -t else t) b (by split<;>walk_at "o") (by walk_at "o")
    rw[b1N] at e2
    repeat(first|walk_at "z r" | simp only[e1,w1,w2,jJ,p1,e2,ratOk,gcdI,jD])
   ·have p1:decide ((0:Int)<b)=false:=zB hb
    repeat(first|walk_at "z r" | simp only[e1,w1,w2,jJ,p1,ratOk,qV])
def ltB:D->Bool
 | .tup [a,b]=>match oLtT a b with
  | some (.v (.bl k))=>k
  | _=>false
 | _=>false
def riseB (xs:List D):Bool:=(zipD xs (xs.drop 1)).all ltB
theorem a75:∀{xs:List D},lfL xs=true->∀{x:D},x∈xs->lf x=true
 | y::ys,h,x,hx=>by
  rw[lfL,qF] at h;rcases zT.mp hx with rfl|hx
  ·exact h.1
  ·exact a75 h.2 hx
abbrev a0z:Stmt:=top 18
theorem a2y:FnScope ["row"] ["row"] (defScope a0z):=by walk_at "c"
def a0y (g:LO):Prop:=∀xs:List D,(∀x∈zipD xs (xs.drop 1),∃a b k,x= .tup [a,b]/\oLtT a b=some (.v (.bl k)))->xs.length<=lim->lfL xs=true->g [.lst xs]=some (.v (.bl (riseB xs)))
theorem a55 (m_all:mg "all"=none)(m_zip:mg "zip"=none)(F:Fun K "is_rising" "is_rising" a0z f fd)(B:Binds K fd ["row"] [])(hm:mg "is_rising"=some (.ref f)):∃g,Fn P w K mg base "is_rising" (k+1) g/\a0y g:=by
 have nd:=a2y.nd;refine⟨_,z8 F a2y B hm rfl rfl (fun cdv A outer s H E hr=>(c7 (g6 (qx_b (Y4 rfl) V4 m_all (a8 (S6 (N:=["one","other"]) (js:=[none,none]) (li:=none) rfl (G4 (by exact(.own (.own .nil))) rfl (by exact trivial) (by rfl)) (a0h (b4t m_zip (a8 (a7 0) (a8 (R1 (a7 0) (A3 c6) C4) a9)))) (fun _ _ _ _=>(z6 rfl (c9 (c8 0 (show((["one","other"]:List Str)++[accN]).Nodup by decide +kernel)) (c9 (c8 1 (show((["one","other"]:List Str)++[accN]).Nodup by decide +kernel)) t5)))) (fun _ _ _ _=>D0) (fun _ _ _ _=>(a7I hr (a7 0) (a7 1)))) a9))))),?_⟩
 intro xs hs hl hf;have lf1:lfL (xs.drop 1)=true:=G9 fun y hy=>a75 hf (mem_of_mem_drop hy);walk_at "q";rw[w4 (ρ1:=[some (.v (.lst xs))]) (xs:=zipD xs (xs.drop 1)) (fun B=>∃o1 o2:Option D,B=[o1.map .v,o2.map .v]) (fun _=>true) (fun x=>.bl (ltB x))]
 ·rw[j9];have gb:=a1Z (r:=fun bs=>bs.all id) (J8 ltB (zipD xs (xs.drop 1)));rw[T9] at gb
  repeat(first|walk_at "z r" | simp only[gb,riseB])
 ·repeat(first|walk_at "z r" | simp only[a9K,lf1])
 ·rintro _ ⟨_,_,rfl⟩;rfl
 ·exact⟨none,none,rfl⟩
 ·rw[b1U,qW];exact zO (Nat.min_le_left _ _) hl
 ·exact a0Q _ _
 ·rintro x hx _ zs ⟨o1,o2,rfl⟩;obtain⟨a,b,k,rfl,lt⟩:=hs x hx;have el:ltB (.tup [a,b])=k:=by show(match oLtT a b with|some (.v (.bl k))=>k|_=>false)=k;rw[lt]
  refine⟨[some (.v a),some (.v b)],.v (.bl k),⟨some _,some _,rfl⟩,?_,rfl,fun _=>⟨?_,.inl (by rw[el])⟩⟩
  ·walk_at "q"
  ·repeat(first|walk_at "z r" | simp only[lt])
def peoB:Option Int->Bool
 | some n=>decide (1<=n)&&decide (n<=8)
 | none=>false
abbrev a0B:Stmt:=top 27
theorem a2l:FnScope ["thing"] ["thing"] (defScope a0B):=by walk_at "c"
def a3o (g:LO):Prop:=∀o:Option Int,g [optD o]=some (.v (.bl (peoB o)))
theorem a5K {B0:LO}(A5:Fn P w K mg base "is_whole" k B0)(A6:U0 B0)(G1:X0 mg K)(F:Fun K "is_people" "is_people" a0B f fd)(B:Binds K fd ["thing"] [])(hm:mg "is_people"=some (.ref f)):∃g,Fn P w K mg base "is_people" (k+1) g/\a3o g:=by
 have nd:=a2l.nd;refine⟨_,z8 F a2l B hm rfl rfl (fun cdv A outer s H E hr=>(c7 (g6 (a1E (g5 A5 hr (a8 (a7 0) a9)) (a0M (a72 c6 (a7 0) (Y5 G1))))))),?_⟩;intro o;have w:=A6 o;cases o with
 | none=>repeat(first|walk_at "z r" | simp only[w,yB,peoB])
 | some n=>
  rw[D5] at w ⊢;cases d1:decide (1<=n)<;>repeat(first|walk_at "z r" | simp only[w,d1,jJ,peoB,jD,qV])
def perB (n:Int):Option Int->Bool
 | some i=>decide (0<=i)&&decide (i<n)
 | none=>false
abbrev a0P:Stmt:=top 28
theorem a2e:FnScope ["people","thing"] ["people","thing"] (defScope a0P):=by walk_at "c"
def a0E (g:LO):Prop:=∀(n:Int) (o:Option Int),g [.int n,optD o]=some (.v (.bl (perB n o)))
theorem a5v {B0:LO}(A5:Fn P w K mg base "is_whole" k B0)(A6:U0 B0)(F:Fun K "is_person" "is_person" a0P f fd)(B:Binds K fd ["people","thing"] [])(hm:mg "is_person"=some (.ref f)):∃g,Fn P w K mg base "is_person" (k+1) g/\a0E g:=by
 have nd:=a2e.nd;refine⟨_,z8 F a2e B hm rfl rfl (fun cdv A outer s H E hr=>(c7 (g6 (a1E (g5 A5 hr (a8 (a7 1) a9)) (a0M (b1r c6 (a7 1) (a7 0))))))),?_⟩;intro n o;have w:=A6 o;cases o with
 | none=>repeat(first|walk_at "z r" | simp only[w,yB,perB])
 | some i=>
  rw[D5] at w ⊢;cases d1:decide (0<=i)<;>repeat(first|walk_at "z r" | simp only[w,d1,jJ,perB,jD,qV])
abbrev tiD (t:T3):D:=.tup [.int t.1,.int t.2.1,.int t.2.2]
def optT:Option T3->D
 | none=>.non
 | some t=>tiD t
def triB (n:Int):Option T3->Bool
 | some t=>perB n (some t.1)&&(perB n (some t.2.1)&&(!(t.1==t.2.1)&&(decide (1<=t.2.2)&&decide (t.2.2<=10^12))))
 | none=>false
abbrev a0W:Stmt:=top 29
theorem a2t:FnScope ["people","thing","one","other","gain"] ["people","thing"] (defScope a0W):=by walk_at "c"
def a3p (g:LO):Prop:=∀(n:Int) (o:Option T3),g [.int n,optT o]=some (.v (.bl (triB n o)))
theorem a59 {O8:LO}{B0:LO}{M6:LO}(O5:Fn P w K mg base "is_row" k O8)(L4:a2n O8)(A5:Fn P w K mg base "is_whole" k B0)(A6:U0 B0)(J3:Fn P w K mg base "is_person" k M6)(K1:a0E M6)(a00:a3f mg K)(F:Fun K "is_triple" "is_triple" a0W f fd)(B:Binds K fd ["people","thing"] [])(hm:mg "is_triple"=some (.ref f)):∃g,Fn P w K mg base "is_triple" (k+1) g/\a3p g:=by
 have nd:=a2t.nd
 refine⟨_,z8 F a2t B hm rfl rfl (fun cdv A outer s H E hr=>(b8 (p9 (E3 (B8 (g5 O5 hr (a8 (a7 1) (a8 c6 a9))))) (c7 (g6 a1r)) h7)
  (b8 (w9 (a7 1) (z6 rfl (c9 (c8 2 nd) (c9 (c8 3 nd) (c9 (c8 4 nd) t5)))))
  (b8 (p9 (F0 (C8 (E3 (B8 (g5 J3 hr (a8 (a7 0) (a8 (a7 2) a9))))) (C8 (E3 (B8 (g5 J3 hr (a8 (a7 0) (a8 (a7 3) a9))))) (J4 (E2 hr (a7 2) (a7 3)))))) (c7 (g6 a1r)) h7)
  (c7 (g6 (a1E (g5 A5 hr (a8 (a7 4) a9)) (a0M (a72 c6 (a7 4) (Y5 a00)))))))))),?_⟩
 intro n o;cases o with
 | none=>
  have er:=(L4 3).2;rw[show optT none= .non from rfl]
  repeat(first|walk_at "z r" | simp only[er,triB])
 | some t=>
  have er:=(L4 3).1 [.int t.1,.int t.2.1,.int t.2.2];rw[show(((([D.int t.1,.int t.2.1,.int t.2.2]:List D).length:Nat):Int)==3)=true from rfl] at er;have w:=A6 (some t.2.2);have p1:=K1 n (some t.1);have p2:=K1 n (some t.2.1);rw[D5] at w p1 p2;rw[show optT (some t)= .tup [.int t.1,.int t.2.1,.int t.2.2] from rfl];cases q1:perB n (some t.1)<;>rw[q1] at p1
  ·repeat(first|walk_at "z r" | simp only[er,p1,triB,q1,qV])
  ·cases q2:perB n (some t.2.1)<;>rw[q2] at p2
   ·repeat(first|walk_at "z r" | simp only[er,p1,p2,triB,q1,q2,jD,qV])
   ·cases q3:t.1==t.2.1
    ·cases d1:decide (1<=t.2.2)<;>repeat(first|walk_at "z r" | simp only[er,p1,p2,w,q3,d1,triB,q1,q2,jJ,jD,qV,Bool.not_false])
    ·repeat(first|walk_at "z r" | simp only[er,p1,p2,q3,triB,q1,q2,jD,qV,Bool.not_true])
theorem a73 {l:List Nat}{c:Nat}(h:Tx l):Tx (headC c l):=h.sub (List.takeWhile_sublist _).length_le fun x hx=>(List.takeWhile_sublist _).mem hx
theorem a7Z {l:List Nat}{c:Nat}(h:Tx l):Tx (restC c l):=h.sub (by unfold restC;rw[qW];have:=(List.dropWhile_sublist (p:=fun x=>decide (x≠c)) (l:=l)).length_le;walk_at "o") fun x hx=>(List.dropWhile_sublist _).mem (mem_of_mem_drop hx)
theorem M3 {o:Option Int}:lf (optD o)=true:=by cases o<;>rfl
def optR:Option (Int×Int)->D
 | none=>.non
 | some p=>rD p
abbrev a1Y:Stmt:=top 37
theorem a3m:FnScope ["text","whole","top","slash","bottom","told"] ["text"] (defScope a1Y):=by walk_at "c"
def a11 (g:LO):Prop:=∀l:List Nat,Tx l->g [.str (sO l)]=some (.v (optR (ratI l)))
theorem a6C {w8:LO}{a1R:LO}(v4:Fn P w K mg base "number_in" k w8)(v3:R3 w8)(a1I:Fn P w K mg base "is_ratio" k a1R)(a1A:a4k a1R)(F:Fun K "ratio_in" "ratio_in" a1Y f fd)(B:Binds K fd ["text"] [])(hm:mg "ratio_in"=some (.ref f)):∃g,Fn P w K mg base "ratio_in" (k+1) g/\a11 g:=by
 have nd:=a3m.nd
 refine⟨_,z8 F a3m B hm rfl rfl (fun cdv A outer s H E hr=>(b8 (p9 (a88 j4 (a7 0)) (b8 (l4 1 nd (g5 v4 hr (a8 (a7 0) a9)))
  (c7 (g6 (a5d (a1w (a7 1) u7) u7 (K8 (a8 (a7 1) (a8 c6 a9))))))) h7)
  (b8 (w9 (a2u (a7 0) (a8 j4 a9)) (z6 rfl (c9 (c8 2 nd) (c9 (c8 3 nd) (c9 (c8 4 nd) t5)))))
  (b8 (l4 5 nd (K8 (a8 (g5 v4 hr (a8 (a7 2) a9)) (a8 (g5 v4 hr (a8 (a7 4) a9)) a9))))
  (c7 (g6 (a5d (F0 (Y3 (B8 (g5 a1I hr (a8 (a7 5) a9))) (S9 (a0w (t6 (a7 5) c6) c6)))) (a7 5) u7))))))),?_⟩
 intro l h;have ei:inS (Str.ofString "/") (sO l)=decide (47∈l):=by rw[a2C];exact a9P 47 _
 by_cases q:47∈l
 ·have i1:inS (Str.ofString "/") (sO l)=true:=by rw[ei];exact zC q
  obtain⟨y,e4⟩:=a9v (c:=47) h;rw[<-show Str.ofString "/"=⟨#[47]⟩ from a2C] at e4;have e1:=v3 _ (a73 (c:=47) h);have e2:=v3 _ (a7Z (c:=47) h);have e3:=a1A (numI (headC 47 l)) (numI (restC 47 l));have er:ratI l=match numI (headC 47 l),numI (restC 47 l) with
   | some t,some b=>if(0<b/\gcdI t b=1)/\1<b then some (t,b) else none
   | _,_=>none:=by unfold ratI;rw[if_pos q];rfl
  rw[er];cases q1:numI (headC 47 l) with
  | none=>
   rw[q1] at e1 e3;rw[show ratOk none (numI (restC 47 l))=false by unfold ratOk;rfl] at e3
   rw[show optR (match(none:Option Int),numI (restC 47 l) with|some t,some b=>if(0<b/\gcdI t b=1)/\1<b then some (t,b) else none|_,_=>none)= .non from rfl]
   repeat(first|walk_at "z r" | simp only[M3,i1,e4,e1,e2,e3])
  | some t=>
   cases q2:numI (restC 47 l) with
   | none=>
    rw[q1] at e1 e3;rw[q2] at e2 e3;rw[show ratOk (some t) none=false from rfl] at e3;rw[show optR (match some t,(none:Option Int) with|some t,some b=>if(0<b/\gcdI t b=1)/\1<b then some (t,b) else none|_,_=>none)= .non from rfl]
    repeat(first|walk_at "z r" | simp only[M3,i1,e4,e1,e2,e3])
   | some b=>
    rw[q1] at e1 e3;rw[q2] at e2 e3;rw[D5] at e1 e2 e3;rw[D5] at e3;dsimp only
    by_cases hk:0<b/\gcdI t b=1
    ·have hr:ratOk (some t) (some b)=true:=by show(decide (0<b)&&(gcdI t b==1))=true;rw[zC hk.1,hk.2];rfl
     rw[hr] at e3
     by_cases h1:1<b
     ·have d1:decide ((1:Int)<b)=true:=zC h1;rw[if_pos ⟨hk,h1⟩]
      repeat(first|walk_at "z r" | simp only[M3,i1,e4,e1,e2,e3,d1,optR])
     ·have d1:decide ((1:Int)<b)=false:=zB h1;rw[if_neg fun z=>h1 z.2]
      repeat(first|walk_at "z r" | simp only[M3,i1,e4,e1,e2,e3,d1,optR])
    ·have hr:ratOk (some t) (some b)=false:=by
      show(decide (0<b)&&(gcdI t b==1))=false
      by_cases z:0<b
      ·rw[zC z,qM.mpr fun y=>hk ⟨z,y⟩];rfl
      ·rw[zB z];rfl
     rw[hr] at e3;rw[if_neg fun z=>hk z.1]
     repeat(first|walk_at "z r" | simp only[M3,i1,e4,e1,e2,e3,optR])
 ·have i1:inS (Str.ofString "/") (sO l)=false:=by rw[ei];exact zB q
  have e1:=v3 l h;have er:ratI l=(numI l).map fun w=>(w,1):=if_neg q;rw[er];cases q1:numI l with
  | none=>rw[q1] at e1;repeat(first|walk_at "z r" | simp only[i1,e1,G3,qN,optR])
  | some n=>rw[q1] at e1;repeat(first|walk_at "z r" | simp only[i1,e1,D5,qH,optR])
def optP:Option (List Int)->D
 | none=>.non
 | some k=>tupI k
def numD:D->D
 | .str x=>optD (numI x.cps.toList)
 | d=>d
def perD (n:Int):D->Bool
 | .int i=>perB n (some i)
 | _=>false
theorem a6N (n:Int)(o:Option Int):perD n (optD o)=perB n o:=by cases o<;>rfl
theorem N6 (os:List (Option Int)):lfL (os.map optD)=true:=G9 fun y hy=>by
 obtain⟨o,_,rfl⟩:=zY.mp hy;cases o<;>rfl
def parP:List (Option Int)->Option (List Int)
 | [some a]=>if 0<=a/\a<8 then some [a] else none
 | [some a,some b]=>if((0<=a/\a<8)/\0<=b/\b<8)/\a<b then some [a,b] else none
 | _=>none
abbrev a1H:Stmt:=top 38
theorem a3d:FnScope ["text","people"] ["text"] (defScope a1H):=by walk_at "c"
def a0c (g:LO):Prop:=∀l:List Nat,Tx l->g [.str (sO l)]=some (.v (optP (parI l)))
theorem a6O {w8:LO}{M1:LO}{M6:LO}(v4:Fn P w K mg base "number_in" k w8)(v3:R3 w8)(M4:Fn P w K mg base "is_rising" k M1)(M2:a0y M1)(J3:Fn P w K mg base "is_person" k M6)(K1:a0E M6)(t8:mg "tuple"=none)(m_len:mg "len"=none)(m_all:mg "all"=none)(G1:X0 mg K)(F:Fun K "party_in" "party_in" a1H f fd)(B:Binds K fd ["text"] [])(hm:mg "party_in"=some (.ref f)):∃g,Fn P w K mg base "party_in" (k+1) g/\a0c g:=by
 have nd:=a3d.nd
 refine⟨_,z8 F a3d B hm rfl rfl (fun cdv A outer s H E hr=>(b8 (W7 1 nd (R5 (N:=["word"]) (js:=[none]) (li:=none) rfl (G4 (by exact(.own .nil)) rfl (by exact trivial) (by rfl)) (a0h (V7 (K0 (a7 0) (a8 j4 a9)))) (fun _ _ _ _=>(c8 0 (show((["word"]:List Str)++[accN]).Nodup by decide +kernel))) (fun _ _ _ _=>D0) (fun _ _ _ _=>(g5 v4 hr (a8 (a7 0) a9)))))
  (b8 (p9 (F0 (C8 (a0w (qx_b t7 A9 m_len (a8 (a7 1) a9)) c6) (C8 (E3 (B8 (qx_b (Y4 rfl) V4 m_all (a8 (S6 (N:=["person"]) (js:=[none]) (li:=none) rfl (G4 (by exact(.own .nil)) rfl (by exact trivial) (by rfl)) (O1 1) (fun _ _ _ _=>(c8 0 (show((["person"]:List Str)++[accN]).Nodup by decide +kernel))) (fun _ _ _ _=>D0) (fun _ _ _ _=>(g5 J3 hr (a8 (Y5 G1) (a8 (a7 0) a9))))) a9)))) (J4 (E3 (B8 (g5 M4 hr (a8 (a7 1) a9)))))))) (c7 (g6 u7)) h7)
  (c7 (g6 (qx_t D3 T6 t8 (a8 (a7 1) a9))))))),?_⟩
 intro l h;have es:=P0 (c:=45) h;rw[<-show Str.ofString "-"=⟨#[45]⟩ from a29] at es;have en:∀p∈cutL 45 l,w8 [.str (sO p)]=some (.v (optD (numI p))):=fun p hp=>v3 p (h.cut hp);have ep:parI l=parP ((cutL 45 l).map numI):=rfl;have em:((cutL 45 l).map fun p=>D.str (sO p)).map numD=((cutL 45 l).map numI).map optD:=by rw[zQ,zQ];rfl
 have ne:(cutL 45 l).map numI≠[]:=by rw[Ne,map_eq_nil_iff];exact E1 45 l
 have lw:lfL ((cutL 45 l).map fun p=>D.str (sO p))=true:=G9 fun y hy=>by obtain⟨p,_,rfl⟩:=zY.mp hy;rfl
 have lc:=J5 (c:=45) l;have hn:=h.n;rw[ep];walk_at "q";rw[w4 (ρ1:=[some (.v (.str (sO l))),none]) (xs:=(cutL 45 l).map fun p=>.str (sO p)) (fun B=>∃o1:Option D,B=[o1.map .v]) (fun _=>true) numD]
 ·rw[j9,em];have ll:((cutL 45 l).map numI).length<=1000000:=by rw[zD];walk_at "o"
  clear em;generalize (cutL 45 l).map numI=ps at ne ll ⊢;have l1:=N6 ps
  by_cases h2:2<ps.length
  ·have n2:decide ((2:Int)<((ps.length:Nat):Int))=true:=zC (by walk_at "o")
   have e0:parP ps=none:=by
    unfold parP
    split
    ·simp at h2
    ·simp at h2
    ·rfl
   rw[e0,show optP none= .non from rfl]
   repeat(first|walk_at "z r" | simp only[l1,zD,ll,n2])
  ·have n2:decide ((2:Int)<((ps.length:Nat):Int))=false:=zB (by walk_at "o")
   repeat(first|walk_at "z r" | simp only[l1,zD,ll,n2])
   rw[w4 (ρ1:=[some (.v (.str (sO l))),some (.o (.lst (ps.map optD)))]) (xs:=ps.map optD) (fun B=>∃o1:Option D,B=[o1.map .v]) (fun _=>true) (fun d=>.bl (perD 8 d))]
   ·rw[j9];have gb:=a1Z (r:=fun bs=>bs.all id) (J8 (perD 8) (ps.map optD));rw[T9,all_map,show(perD 8∘optD)=perB 8 from funext (a6N 8)] at gb;cases ha:ps.all (perB 8) with
    | false=>
     rw[ha] at gb;have e0:parP ps=none:=by
      unfold parP
      split
      ·refine if_neg fun z=>?_;simp[perB,z.1,z.2] at ha
      ·refine if_neg fun z=>?_;simp[perB,z.1.1.1,z.1.1.2,z.1.2.1,z.1.2.2] at ha
      ·rfl
     rw[e0,show optP none= .non from rfl]
     repeat(first|walk_at "z r" | simp only[gb,l1])
    | true=>
     rw[ha] at gb;obtain⟨hz,hr⟩:(∀x∈zipD (ps.map optD) ((ps.map optD).drop 1),∃a b k,x= .tup [a,b]/\oLtT a b=some (.v (.bl k)))/\optP (parP ps)=if riseB (ps.map optD)=true then .tup (ps.map optD) else .non:=by
      match ps,ne,h2,ha with
      | [none],_,_,ha=>cases ha
      | [some a],_,_,ha=>
       have z:0<=a/\a<8:=by simpa [perB] using ha
       refine⟨fun x hx=>(nomatch hx),?_⟩;show optP (if 0<=a/\a<8 then some [a] else none)=_;rw[if_pos z];rfl
      | [none,_],_,_,ha=>cases ha
      | [some a,none],_,_,ha=>simp[perB] at ha
      | [some a,some b],_,_,ha=>
       have z:(0<=a/\a<8)/\0<=b/\b<8:=by simpa [perB] using ha
       refine⟨fun x hx=>⟨.int a,.int b,decide (a<b),by simpa [zipD,optD] using hx,rfl⟩,?_⟩
       show optP (if _ then some [a,b] else none)=if(decide (a<b)&&true)=true then _ else _
       by_cases q:a<b
       ·rw[if_pos ⟨z,q⟩,zC q];rfl
       ·rw[if_neg fun y=>q y.2,zB q];rfl
      | _::_::_::_,_,h2,_=>exact absurd (by simp) h2
     have ri:=M2 (ps.map optD) hz (by rw[zD];exact ll) l1
     rw[hr];cases q:riseB (ps.map optD)<;>rw[q] at ri
     ·rw[if_neg (by simp)]
      repeat(first|walk_at "z r" | simp only[gb,l1,ri])
     ·rw[if_pos rfl]
      repeat(first|walk_at "z r" | simp only[gb,l1,ri])
   ·repeat(first|walk_at "z r" | simp only[l1])
   ·rintro _ ⟨_,rfl⟩;rfl
   ·exact⟨none,rfl⟩
   ·rw[zD];unfold lim;exact ll
   ·exact a0Q _ _
   ·rintro x hx _ zs ⟨o1,rfl⟩;obtain⟨o,_,rfl⟩:=zY.mp hx;have e:=K1 8 o;refine⟨[some (.v (optD o))],.v (.bl (perB 8 o)),⟨some _,rfl⟩,?_,rfl,fun _=>⟨?_,.inl (by rw[a6N])⟩⟩
    ·walk_at "q"
    ·repeat(first|walk_at "z r" | simp only[e,M3])
 ·repeat(first|walk_at "z r" | simp only[es,lw])
 ·rintro _ ⟨_,rfl⟩;rfl
 ·exact⟨none,rfl⟩
 ·rw[zD];unfold lim;walk_at "o"
 ·rw[j9,em];exact N6 _
 ·rintro x hx _ zs ⟨o1,rfl⟩;obtain⟨p,hp,rfl⟩:=zY.mp hx;have e:=en p hp;refine⟨[some (.v (.str (sO p)))],.v (optD (numI p)),⟨some _,rfl⟩,?_,rfl,fun _=>⟨?_,.inl rfl⟩⟩
  ·walk_at "q"
  ·repeat(first|walk_at "z r" | simp only[e,M3])
theorem a7x {l:List Nat}{k:List Int}(h:parI l=some k):(∃a,k=[a])\/∃a b,k=[a,b]:=by
 rw[a2j] at h;rcases a5B h with ⟨a,e,_⟩|⟨a,b,e,_⟩
 ·exact .inl ⟨a,e⟩
 ·exact .inr ⟨a,b,e⟩
abbrev a4d:Stmt:=top 39
theorem a4Z:FnScope ["text","written","colon","figures","party","gain"] ["text"] (defScope a4d):=by walk_at "c"
def a6Z (g:LO):Prop:=∀l:List Nat,Tx l->g [.str (sO l)]=some (.v (optT (tieI l)))
theorem a8N {F3:LO}{w8:LO}(F1:Fn P w K mg base "party_in" k F3)(F4:a0c F3)(v4:Fn P w K mg base "number_in" k w8)(v3:R3 w8)(m_len:mg "len"=none)(F:Fun K "tie_in" "tie_in" a4d f fd)(B:Binds K fd ["text"] [])(hm:mg "tie_in"=some (.ref f)):∃g,Fn P w K mg base "tie_in" (k+1) g/\a6Z g:=by
 have nd:=a4Z.nd
 refine⟨_,z8 F a4Z B hm rfl rfl (fun cdv A outer s H E hr=>(b8 (w9 (a2u (a7 0) (a8 j4 a9)) (z6 rfl (c9 (c8 1 nd) (c9 (c8 2 nd) (c9 (c8 3 nd) t5)))))
  (b8 (a6b 4 5 rfl nd (a8 (g5 F1 hr (a8 (a7 1) a9)) (a8 (g5 v4 hr (a8 (a7 3) a9)) a9)) rfl)
  (b8 (p9 (F0 (C8 (a1w (a7 4) u7) (C8 (S0 hr (qx_b t7 A9 m_len (a8 (a7 4) a9)) c6) (J4 (a1w (a7 5) u7))))) (c7 (g6 u7)) h7)
  (c7 (g6 (C1 (a7 4) (K8 (a8 (a7 5) a9))))))))),?_⟩
 intro l h;obtain⟨y,e4⟩:=a9v (c:=58) h;rw[<-show Str.ofString ":"=⟨#[58]⟩ from a6g] at e4;have e1:=F4 _ (a73 (c:=58) h);have e2:=v3 _ (a7Z (c:=58) h);have z1:(((1:Nat):Int)==2)=false:=rfl;have z2:(((2:Nat):Int)==2)=true:=rfl;have et:tieI l=match parI (headC 58 l),numI (restC 58 l) with
  | some [p,q],some g=>some (p,q,g)
  | _,_=>none:=rfl
 rw[et];cases q1:parI (headC 58 l) with
 | none=>
  rw[q1,show optP none= .non from rfl] at e1;rw[show optT (match(none:Option (List Int)),numI (restC 58 l) with|some [p,q],some g=>some (p,q,g)|_,_=>none)= .non from rfl]
  repeat(first|walk_at "z r" | simp only[M3,e1,e2,e4])
 | some k=>
  rw[q1] at e1;rcases a7x q1 with ⟨a,rfl⟩|⟨a,b,rfl⟩
  ·rw[show optP (some [a])= .tup [.int a] from rfl] at e1;rw[show optT (match some [a],numI (restC 58 l) with|some [p,q],some g=>some (p,q,g)|_,_=>none)= .non from rfl]
   repeat(first|walk_at "z r" | simp only[M3,e1,e2,e4,z1])
  ·rw[show optP (some [a,b])= .tup [.int a,.int b] from rfl] at e1;cases q2:numI (restC 58 l) with
   | none=>
    rw[q2,G3] at e2
    repeat(first|walk_at "z r" | simp only[M3,e1,e2,e4,z2,optT])
   | some n=>
    rw[q2,D5] at e2;rw[show optT (match some [a,b],some n with|some [p,q],some g=>some (p,q,g)|_,_=>none)= .tup [.int a,.int b,.int n] from rfl]
    repeat(first|walk_at "z r" | simp only[M3,e1,e2,e4,z2])
    rw[if_pos (show([.int a,.int b]:List D)≠[] from nofun)]
    rfl
theorem a5j {os:List (Option T3)}{us:List T3}(h:allS os=some us):os=us.map some:=by
 induction os generalizing us with
 | nil=>cases h;rfl
 | cons o os ih=>
  cases o with
  | none=>cases h
  | some t=>
   obtain⟨r,e,rfl⟩:=oms (show(allS os).map (t :: ·)=some us from h);rw[ih e];rfl
theorem a89 {os:List (Option T3)}(h:allS os=none):none∈os:=by
 induction os with
 | nil=>cases h
 | cons o os ih=>
  cases o with
  | none=>exact zG
  | some t=>exact zH _ (ih (Option.map_eq_none_iff.mp (show(allS os).map (t :: ·)=none from h)))
theorem b2D (o:Option T3):lf (optT o)=true:=by cases o<;>rfl
theorem b4G (os:List (Option T3)):lfL (os.map optT)=true:=G9 fun y hy=>by
 obtain⟨o,_,rfl⟩:=zY.mp hy;exact b2D o
def tieB (n:Int):D->Bool
 | .tup [.int a,.int b,.int c]=>triB n (some (a,b,c))&&decide (a<b)
 | _=>false
def prD (t:T3):D:=.tup [.int t.1,.int t.2.1]
def cut2:D->D
 | .tup [a,b,_]=>.tup [a,b]
 | d=>d
theorem a7k {a b c:D}:cutD [a,b,c] none (some 2)=[a,b]:=rfl
theorem b4O (us:List T3):lfL (us.map prD)=true:=G9 fun y hy=>by
 obtain⟨o,_,rfl⟩:=zY.mp hy;rfl
theorem b2C (s t:T3):oLtT (prD s) (prD t)=some (.v (.bl (decide (pairLt s t)))):=by
 show some (W.v (.bl (HT.lexLt [s.1,s.2.1] [t.1,t.2.1])))=_
 have:HT.lexLt [s.1,s.2.1] [t.1,t.2.1]=decide (pairLt s t):=by
  rw[HT.lexLt_cons,HT.lexLt_cons,HT.lexLt_nil_nil]
  by_cases h:s.1=t.1
  ·rw[if_pos h]
   by_cases h2:s.2.1=t.2.1
   ·rw[if_pos h2];exact(zB fun z:pairLt s t=>by unfold pairLt at z;walk_at "o").symm
   ·rw[if_neg h2];exact decide_eq_decide.mpr (by unfold pairLt;walk_at "o")
  ·rw[if_neg h];exact decide_eq_decide.mpr (by unfold pairLt;walk_at "o")
 rw[this]
theorem a9A:∀(us:List T3),∀x∈zipD (us.map prD) ((us.map prD).drop 1),∃a b k,x= .tup [a,b]/\oLtT a b=some (.v (.bl k))
 | [],_,h=>nomatch h
 | [_],_,h=>nomatch h
 | s::t::r,x,h=>by
  unfold zipD at h;rw[zR,zR,List.drop_succ_cons,drop_zero,List.zipWith_cons_cons] at h;rcases zT.mp h with rfl|h
  ·exact⟨_,_,_,rfl,b2C s t⟩
  ·exact a9A (t::r) x (by unfold zipD;rw[zR,List.drop_succ_cons,drop_zero];exact h)
theorem a8d:∀us:List T3,riseB (us.map prD)=decide (risesT us)
 | []=>rfl
 | [_]=>rfl
 | s::t::r=>by
  have ih:=a8d (t::r);have e:riseB ((s::t::r).map prD)=(ltB (.tup [prD s,prD t])&&riseB ((t::r).map prD)):=rfl;rw[e,ih,show ltB (.tup [prD s,prD t])=decide (pairLt s t) by show(match oLtT (prD s) (prD t) with|some (.v (.bl k))=>k|_=>false)=_;rw[b2C],jN,qF,qP,qP,qP]
  exact Iff.rfl
theorem b3S (n:Int)(t:T3):tieB n (tiD t)=decide (triOk n t):=by
 show((decide (0<=t.1)&&decide (t.1<n))&&((decide (0<=t.2.1)&&decide (t.2.1<n))&&(!(t.1==t.2.1)&&(decide (1<=t.2.2)&&decide (t.2.2<=10^12))))&&decide (t.1<t.2.1))=_;rw[jN];simp only[qF,qP,Bool.not_eq_true',qM];unfold triOk gainOk;exact⟨fun⟨⟨a,b,c,d⟩,e⟩=>⟨⟨a,b,c⟩,d,e⟩,fun⟨⟨a,b,c⟩,d,e⟩=>⟨⟨a,b,c,d⟩,e⟩⟩
def webB (o:Option Int) (os:List (Option T3)):Bool:=match o,allS os with
 | some n,some us=>(decide (1<=n/\n<=8)&&us.all (fun t=>decide (triOk n t)))&&decide (risesT us)
 | _,_=>false
abbrev a3S:Stmt:=top 30
theorem a40:FnScope ["thing","people","ties"] ["thing"] (defScope a3S):=by walk_at "c"
def a6W (g:LO):Prop:=∀(o:Option Int) (os:List (Option T3)),os.length<=1000000->g [.tup [optD o,.tup (os.map optT)]]=some (.v (.bl (webB o os)))
theorem a8n {M1:LO}{O8:LO}{a0R:LO}{a0G:LO}(M4:Fn P w K mg base "is_rising" k M1)(M2:a0y M1)(O5:Fn P w K mg base "is_row" k O8)(L4:a2n O8)(a0x:Fn P w K mg base "is_people" k a0R)(a0K:a3o a0R)(a0J:Fn P w K mg base "is_triple" k a0G)(a06:a3p a0G)(m_all:mg "all"=none)(j5:mg "isinstance"=none)(t8:mg "tuple"=none)(F:Fun K "is_web" "is_web" a3S f fd)(B:Binds K fd ["thing"] [])(hm:mg "is_web"=some (.ref f)):∃g,Fn P w K mg base "is_web" (k+1) g/\a6W g:=by
 have nd:=a40.nd
 refine⟨_,z8 F a40 B hm rfl rfl (fun cdv A outer s H E hr=>(b8 (p9 (E3 (B8 (g5 O5 hr (a8 (a7 0) (a8 c6 a9))))) (c7 (g6 a1r)) h7)
  (b8 (w9 (a7 0) (z6 rfl (c9 (c8 1 nd) (c9 (c8 2 nd) t5))))
  (b8 (p9 (F0 (C8 (E3 (B8 (g5 a0x hr (a8 (a7 1) a9)))) (J4 (E3 (B8 (a3c (T:="tuple") (a24 (by decide)) j5 t8 (a7 2))))))) (c7 (g6 a1r)) h7)
  (b8 (p9 (E3 (B8 (qx_b (Y4 rfl) V4 m_all (a8 (S6 (N:=["tie","people"]) (js:=[none,some 1]) (li:=none) rfl (G4 (by exact(.own (.cap rfl rfl rfl rfl .nil))) rfl (by exact⟨rfl,trivial⟩) (by rfl)) (O1 2) (fun _ _ _ _=>(c8 0 (show((["tie","people"]:List Str)++[accN]).Nodup by decide +kernel))) (fun _ _ _ _=>D0) (fun _ _ _ _=>(a1E (g5 a0J hr (a8 (a7 1) (a8 (a7 0) a9))) (a0M (a7I hr (t6 (a7 0) c6) (t6 (a7 0) c6)))))) a9)))) (c7 (g6 a1r)) h7)
  (c7 (g6 (g5 M4 hr (a8 (S6 (N:=["tie"]) (js:=[none]) (li:=none) rfl (G4 (by exact(.own .nil)) rfl (by exact trivial) (by rfl)) (O1 2) (fun _ _ _ _=>(c8 0 (show((["tie"]:List Str)++[accN]).Nodup by decide +kernel))) (fun _ _ _ _=>D0) (fun _ _ _ _=>(R1 (a7 0) C4 (A3 c6)))) a9))))))))),?_⟩
 intro o os hl;have er:=(L4 2).1 [optD o,.tup (os.map optT)];rw[show(((([optD o,.tup (os.map optT)]:List D).length:Nat):Int)==2)=true from rfl] at er;have ep:=a0K o;have it:=a4p (d:=.tup (os.map optT)) rfl;have lt:(os.map optT).length<=1000000:=by rw[zD];exact hl
 cases hp:peoB o with
 | false=>
  rw[hp] at ep;have e0:webB o os=false:=by
   cases o with
   | none=>rfl
   | some n=>
    have:decide (1<=n/\n<=8)=false:=by
     rw[decide_eq_false_iff_not];intro z;rw[show peoB (some n)=(decide (1<=n)&&decide (n<=8)) from rfl,zC z.1,zC z.2] at hp;cases hp
    unfold webB;cases allS os with
    | none=>rfl
    | some us=>dsimp only;rw[this];rfl
  rw[e0]
  repeat(first|walk_at "z r" | simp only[er,ep])
 | true=>
  rw[hp] at ep;obtain⟨n,rfl,hn⟩:∃n,o=some n/\(1<=n/\n<=8):=by
   cases o with
   | none=>cases hp
   | some n=>exact⟨n,rfl,by simpa [peoB] using hp⟩
  rw[D5] at er ep ⊢
  repeat(first|walk_at "z r" | simp only[er,ep,it,isT])
  rw[w4 (ρ1:=[some (.v (.tup [.int n,.tup (os.map optT)])),some (.v (.int n)),some (.v (.tup (os.map optT)))]) (xs:=os.map optT) (fun B=>∃o1:Option D,B=[o1.map .v,some (.v (.int n))]) (fun _=>true) (fun d=>.bl (tieB n d))]
  ·rw[j9];have gb:=a1Z (r:=fun bs=>bs.all id) (J8 (tieB n) (os.map optT));rw[T9,all_map] at gb;cases hs:allS os with
   | none=>
    have ha:os.all (tieB n∘optT)=false:=by
     rw[List.all_eq_false];exact⟨none,a89 hs,by simp[optT,tieB]⟩
    rw[ha] at gb;have e0:webB (some n) os=false:=by unfold webB;rw[hs]
    rw[e0]
    repeat(first|walk_at "z r" | simp only[gb])
   | some us=>
    have eo:=a5j hs;have ea:os.all (tieB n∘optT)=us.all fun t=>decide (triOk n t):=by
     rw[eo,all_map];exact jF us.all (funext fun t=>b3S n t)
    have ew:webB (some n) os=(us.all (fun t=>decide (triOk n t))&&decide (risesT us)):=by
     unfold webB;rw[hs];dsimp only;rw[zC hn,jD]
    rw[ea] at gb;rw[ew];cases ha:us.all (fun t=>decide (triOk n t)) with
    | false=>
     rw[ha] at gb;rw[qV]
     repeat(first|walk_at "z r" | simp only[gb])
    | true=>
     rw[ha] at gb;rw[jD];have em:(os.map optT).map cut2=us.map prD:=by rw[eo,zQ,zQ];rfl
     have lk:=b4O us;have ri:=M2 (us.map prD) (a9A us) (by rw[zD];rw[eo,zD] at hl;exact hl) lk
     rw[a8d] at ri
     repeat(first|walk_at "z r" | simp only[gb])
     rw[w4 (ρ1:=[some (.v (.tup [.int n,.tup (os.map optT)])),some (.v (.int n)),some (.v (.tup (os.map optT)))]) (xs:=os.map optT) (fun B=>∃o1:Option D,B=[o1.map .v]) (fun _=>true) cut2]
     ·rw[j9,em]
      repeat(first|walk_at "z r" | simp only[ri,lk])
     ·walk_at "q"
     ·rintro _ ⟨_,rfl⟩;rfl
     ·exact⟨none,rfl⟩
     ·unfold lim;exact lt
     ·rw[j9,em];exact lk
     ·rintro x hx _ zs ⟨o1,rfl⟩;rw[eo,zQ] at hx;obtain⟨t,ht,rfl⟩:=zY.mp hx;rw[show(optT∘some) t= .tup [.int t.1,.int t.2.1,.int t.2.2] from rfl];refine⟨[some (.v (.tup [.int t.1,.int t.2.1,.int t.2.2]))],.v (.tup [.int t.1,.int t.2.1]),⟨some _,rfl⟩,?_,rfl,fun _=>⟨?_,.inl rfl⟩⟩
      ·walk_at "q"
      ·repeat(first|walk_at "z r" | simp only[a7k])
  ·walk_at "q"
  ·rintro _ ⟨_,rfl⟩;rfl
  ·exact⟨none,rfl⟩
  ·unfold lim;exact lt
  ·exact a0Q _ _
  ·rintro x hx _ zs ⟨o1,rfl⟩;obtain⟨o,ho,rfl⟩:=zY.mp hx;have e:=a06 n o;cases o with
   | none=>
    refine⟨[some (.v .non),some (.v (.int n))],.v (.bl false),⟨some _,rfl⟩,?_,rfl,fun _=>⟨?_,.inl rfl⟩⟩
    ·rw[show optT none= .non from rfl];walk_at "q"
    ·rw[show optT none= .non from rfl] at e;rw[show triB n none=false from rfl] at e
     repeat(first|walk_at "z r" | simp only[e])
   | some t=>
    rw[show optT (some t)= .tup [.int t.1,.int t.2.1,.int t.2.2] from rfl] at e ⊢;refine⟨[some (.v (.tup [.int t.1,.int t.2.1,.int t.2.2])),some (.v (.int n))],.v (.bl (triB n (some t)&&decide (t.1<t.2.1))),⟨some _,rfl⟩,?_,rfl,fun _=>⟨?_,.inl rfl⟩⟩
    ·walk_at "q"
    ·cases q:triB n (some t)<;>rw[q] at e<;>repeat(first|walk_at "z r" | simp only[e,jD,qV])
def optW:Option (Int×List T3)->D
 | none=>.non
 | some p=>.tup [.int p.1,.tup (p.2.map tiD)]
theorem b1y (v:List Nat)(r:List (List Nat)):optW ((numI v).bind fun n=>if 1<=n/\n<=8 then(tiesI n r).map fun ts=>(n,ts) else none)=if webB (numI v) (r.map tieI)=true then .tup [optD (numI v),.tup ((r.map tieI).map optT)] else .non:=by
 cases numI v with
 | none=>rfl
 | some n=>
  rw[bind_some];unfold tiesI;cases hs:allS (r.map tieI) with
  | none=>
   have hw:webB (some n) (r.map tieI)=false:=by unfold webB;rw[hs]
   rw[bind_none,qN,hw]
   split<;>rfl
  | some us=>
   have hw:webB (some n) (r.map tieI)=((decide (1<=n/\n<=8)&&us.all (fun t=>decide (triOk n t)))&&decide (risesT us)):=by unfold webB;rw[hs]
   have eo:=a5j hs;rw[bind_some]
   by_cases h1:1<=n/\n<=8
   ·rw[zC h1,jD] at hw
    by_cases h2:(∀t∈us,triOk n t)/\risesT us
    ·rw[zC h2.2,show us.all (fun t=>decide (triOk n t))=true from qX.mpr fun t ht=>zC (h2.1 t ht)] at hw;rw[hw,if_pos h1,if_pos h2,eo,zQ];rfl
    ·have hf:webB (some n) (r.map tieI)=false:=by
      rw[hw,Bool.and_eq_false_imp];intro z;rw[qX] at z;exact zB fun y=>h2 ⟨fun t ht=>jA (z t ht),y⟩
     rw[hf,if_pos h1,if_neg h2];rfl
   ·rw[zB h1] at hw;rw[hw,if_neg h1];rfl
theorem a8e (a b:D)(xs:List D):cutD (a::b::xs) (some 2) none=xs:=by
 unfold cutD;rw[show(2:Int)=((2:Nat):Int) from rfl,HT.sIx_nat,HT.sIx_none];simp
def tieF:D->D
 | .str x=>optT (tieI x.cps.toList)
 | d=>d
theorem L0 (ws:List (List Nat)):lfL (ws.map fun p=>D.str (sO p))=true:=G9 fun y hy=>by obtain⟨p,_,rfl⟩:=zY.mp hy;rfl
theorem b2Z (l:List Nat):webI l=match cutL 32 l with
 | w::v::r=>if w=webC then(numI v).bind fun n=>if 1<=n/\n<=8 then(tiesI n r).map fun ts=>(n,ts) else none else none
 | _=>none:=rfl
abbrev a3R:Stmt:=top 40
theorem a5q:FnScope ["text","words","told"] ["text"] (defScope a3R):=by walk_at "c"
def a3J (g:LO):Prop:=∀l:List Nat,Tx l->g [.str (sO l)]=some (.v (optW (webI l)))
theorem a87 {w8:LO}{a4u:LO}{a4w:LO}(v4:Fn P w K mg base "number_in" k w8)(v3:R3 w8)(a3U:Fn P w K mg base "is_web" k a4u)(a4y:a6W a4u)(a4s:Fn P w K mg base "tie_in" k a4w)(a4E:a6Z a4w)(t8:mg "tuple"=none)(m_len:mg "len"=none)(F:Fun K "web_in" "web_in" a3R f fd)(B:Binds K fd ["text"] [])(hm:mg "web_in"=some (.ref f)):∃g,Fn P w K mg base "web_in" (k+1) g/\a3J g:=by
 have nd:=a5q.nd
 refine⟨_,z8 F a5q B hm rfl rfl (fun cdv A outer s H E hr=>(b8 (l4 1 nd (K0 (a7 0) (a8 j4 a9)))
  (b8 (p9 (F0 (C8 (S0 hr (t6 (a7 1) c6) j4) (J4 (a5A hr (qx_b t7 A9 m_len (a8 (a7 1) a9)) c6)))) (c7 (g6 u7)) h7)
  (b8 (l4 2 nd (K8 (a8 (g5 v4 hr (a8 (t6 (a7 1) c6) a9)) (a8 (qx_t D3 T6 t8 (a8 (S6 (N:=["word"]) (js:=[none]) (li:=none) rfl (G4 (by exact(.own .nil)) rfl (by exact trivial) (by rfl)) (a0h (V7 (R1 (a7 1) (A3 c6) C4))) (fun _ _ _ _=>(c8 0 (show((["word"]:List Str)++[accN]).Nodup by decide +kernel))) (fun _ _ _ _=>D0) (fun _ _ _ _=>(g5 a4s hr (a8 (a7 0) a9)))) a9)) a9))))
  (c7 (g6 (a5d (B8 (g5 a3U hr (a8 (a7 2) a9))) (a7 2) u7))))))),?_⟩
 intro l h;have es:=P0 (c:=32) h;rw[<-show Str.ofString " "=⟨#[32]⟩ from S2] at es;have hc:∀p∈cutL 32 l,Tx p:=fun p hp=>h.cut hp;have lc:=J5 (c:=32) l;have hn:=h.n;have ew:∀w:List Nat,(sO w==Str.ofString "web")=decide (w=webC):=fun w=>by rw[a9R];exact P4 _ _
 have ne:=E1 32 l;rw[b2Z];generalize cutL 32 l=ws at es hc lc ne ⊢;have lw:=L0 ws;cases ws with
 | nil=>exact absurd rfl ne
 | cons w ws=>
  have e1:=ew w;rw[zR] at es lw
  by_cases hw:w=webC
  ·cases ws with
   | nil=>
    rw[zC hw] at e1;have n2:decide (((1:Nat):Int)<2)=true:=rfl;rw[show optW (match[w] with|w::v::r=>if w=webC then(numI v).bind fun n=>if 1<=n/\n<=8 then(tiesI n r).map fun ts=>(n,ts) else none else none|_=>none)= .non from rfl]
    rw[jZ] at es lw
    repeat(first|walk_at "z r" | simp only[es,lw,e1,n2])
   | cons v r=>
    rw[zC hw] at e1;rw[zR] at es lw;dsimp only;rw[if_pos hw,b1y];have en:=v3 v (hc v (by simp))
    have ej:=a4y (numI v) (r.map tieI) (by rw[zD];simp at lc;walk_at "o")
    have n2:decide (((((r.map fun p=>D.str (sO p)).length+1+1:Nat)):Int)<2)=false:=zB (by walk_at "o")
    have ll:((.str (sO w) :: .str (sO v)::r.map fun p=>.str (sO p)):List D).length<=1000000:=by simp at lc ⊢;walk_at "o"
    have ct:=a8e (.str (sO w)) (.str (sO v)) (r.map fun p=>.str (sO p));have lw2:=L0 r;have em:(r.map fun p=>D.str (sO p)).map tieF=(r.map tieI).map optT:=by rw[zQ,zQ];rfl
    have lt:=b4G (r.map tieI)
    repeat(first|walk_at "z r" | simp only[es,lw,e1,ll,n2,en,M3])
    rw[w4 (ρ1:=[some (.v (.str (sO l))),some (.o (.lst (.str (sO w) :: .str (sO v)::r.map fun p=>.str (sO p)))),none]) (xs:=r.map fun p=>.str (sO p)) (fun B=>∃o1:Option D,B=[o1.map .v]) (fun _=>true) tieF]
    ·rw[j9,em];cases q:webB (numI v) (r.map tieI)<;>rw[q] at ej
     ·repeat(first|walk_at "z r" | simp only[lt,ej,lw,M3])
     ·repeat(first|walk_at "z r" | simp only[lt,ej,lw,M3])
    ·repeat(first|walk_at "z r" | simp only[lw,lw2,ct])
    ·rintro _ ⟨_,rfl⟩;rfl
    ·exact⟨none,rfl⟩
    ·rw[zD];unfold lim;simp at lc;walk_at "o"
    ·rw[j9,em];exact lt
    ·rintro x hx _ zs ⟨o1,rfl⟩;obtain⟨p,hp,rfl⟩:=zY.mp hx;have e:=a4E p (hc p (by simp[hp]))
     have lk:=b2D (tieI p);refine⟨[some (.v (.str (sO p)))],.v (optT (tieI p)),⟨some _,rfl⟩,?_,rfl,fun _=>⟨?_,.inl rfl⟩⟩
     ·walk_at "q"
     ·repeat(first|walk_at "z r" | simp only[e,lk])
  ·rw[zB hw] at e1
   have e0:(match w::ws with
    | w::v::r=>if w=webC then(numI v).bind fun n=>if 1<=n/\n<=8 then(tiesI n r).map fun ts=>(n,ts) else none else none
    | _=>none)=none:=by
    cases ws with
    | nil=>rfl
    | cons v r=>exact if_neg hw
   rw[e0]
   repeat(first|walk_at "z r" | simp only[es,lw,e1,optW])
def Odd (d:D):Prop:=isX d=false/\isS d=false
abbrev N9:Stmt:=top 41
theorem R9:FnScope ["thing"] ["thing"] (defScope N9):=by walk_at "c"
def C2 (g:LO):Prop:=∀x:Str,g [.str x]=some (.v .non)
theorem a3A (j5:mg "isinstance"=none)(m_str:mg "str"=none)(F:Fun K "must_be_text" "must_be_text" N9 f fd)(B:Binds K fd ["thing"] [])(hm:mg "must_be_text"=some (.ref f)):∃g,Fn P w K mg base "must_be_text" (k+1) g/\C2 g:=by
 have nd:=R9.nd;refine⟨_,z8 F R9 B hm rfl rfl (fun cdv A outer s H E hr=>(c7 (p9 (E3 (B8 (a3c (T:="str") (a24 (by decide)) j5 m_str (a7 0)))) (c7 a19) h7))),?_⟩
 intro x;have i1:=a7g (d:=.str x) rfl
 repeat(first|walk_at "z r" | simp only[i1,isS])
def O2 (c:Addr) (gx:List D->Option Addr):Prop:=(∀x:Str,gx [.str x]=none)/\∀d,Odd d->gx [d]=some c
theorem a22 {c:Addr}(j5:mg "isinstance"=none)(m_str:mg "str"=none)(B9:mg "NoText"=some (.ref c))(q:PySem.W.excIn K c bmV nwV=true)(F:Fun K "must_be_text" "must_be_text" N9 f fd)(B:Binds K fd ["thing"] [])(hm:mg "must_be_text"=some (.ref f)):
  ∃gx,FnR P w K mg base "must_be_text" (k+1) gx/\O2 c gx:=by
 refine⟨_,a0N F R9 B hm rfl rfl (fun cdv A outer s H E hr=>n8 (a4q (E3 (B8 (a3c (T:="str") (a24 (by decide)) j5 m_str (a7 0)))) (n8 (a16 rfl B9 q (a8 j4 a9))) a0j)),fun x=>?_,fun d hd=>?_⟩
 ·have i1:=a7g (d:=.str x) rfl
  repeat(first|walk_at "z r" | simp only[i1,isS])
 ·have i1:=a7g hd.1;rw[hd.2] at i1
  repeat(first|walk_at "z r" | simp only[i1])
abbrev N3:Stmt:=top 42
theorem R7:FnScope ["thing"] ["thing"] (defScope N3):=by walk_at "c"
def J6 (g:LO):Prop:=∀xs:List D,g [.tup xs]=some (.v .non)
theorem a3y (F:Fun K "must_be_read" "must_be_read" N3 f fd)(B:Binds K fd ["thing"] [])(hm:mg "must_be_read"=some (.ref f)):∃g,Fn P w K mg base "must_be_read" (k+1) g/\J6 g:=by
 have nd:=R7.nd;refine⟨_,z8 F R7 B hm rfl rfl (fun cdv A outer s H E hr=>(c7 (p9 (a1w (a7 0) u7) (c7 a19) h7))),?_⟩;intro xs;walk_at "q"
def O7 (c:Addr) (gx:List D->Option Addr):Prop:=(∀xs:List D,gx [.tup xs]=none)/\gx [.non]=some c
theorem a3b {c:Addr}(B9:mg "NoText"=some (.ref c))(q:PySem.W.excIn K c bmV nwV=true)(F:Fun K "must_be_read" "must_be_read" N3 f fd)(B:Binds K fd ["thing"] [])(hm:mg "must_be_read"=some (.ref f)):
  ∃gx,FnR P w K mg base "must_be_read" (k+1) gx/\O7 c gx:=by
 refine⟨_,a0N F R7 B hm rfl rfl (fun cdv A outer s H E hr=>n8 (a4q (a1w (a7 0) u7) (n8 (a16 rfl B9 q (a8 j4 a9))) a0j)),fun xs=>?_,?_⟩
 ·walk_at "q"
 ·walk_at "q"
def rowL (l:List Nat):List (List Nat):=if l=[46] then[] else cutL 32 l
theorem a3E {l:List Nat}(h:Tx l):∀p∈rowL l,Tx p:=fun p hp=>by
 unfold rowL at hp;split at hp
 ·cases hp
 ·exact h.cut hp
theorem a9E {l:List Nat}(h:Tx l):(rowL l).length<=300001:=by
 have:=h.n
 have:=J5 (c:=32) l
 unfold rowL
 split
 ·exact qK _
 ·walk_at "o"
abbrev strL (ws:List (List Nat)):List D:=ws.map fun p=>.str (sO p)
abbrev W4:Stmt:=top 43
theorem S5:FnScope ["thing","words"] ["thing"] (defScope W4):=by walk_at "c"
def R0 (g:LO):Prop:=∀l:List Nat,Tx l->(rowL l).length<=100->g [.str (sO l)]=some (.o (.lst (strL (rowL l))))
theorem a6f {j8:LO}(j6:Fn P w K mg base "must_be_text" k j8)(j7:C2 j8)(m_len:mg "len"=none)(G0:X7 mg K)(a2J:a7q mg K)(F:Fun K "row_words" "row_words" W4 f fd)(B:Binds K fd ["thing"] [])(hm:mg "row_words"=some (.ref f)):∃g,Fn P w K mg base "row_words" (k+1) g/\R0 g:=by
 have nd:=S5.nd
 refine⟨_,z8 F S5 B hm rfl rfl (fun cdv A outer s H E hr=>(b8 (J0 (g5 j6 hr (a8 (a7 0) a9)))
  (b8 (l4 1 nd (a5d (S0 hr (a7 0) (a4D a2J)) (K0 (a7 0) (a8 j4 a9)) (E8 a9)))
  (b8 (p9 (a0w (qx_b t7 A9 m_len (a8 (a7 1) a9)) (Y5 G0)) (c7 a19) h7)
  (c7 (g6 (a7 1))))))),?_⟩
 intro l h hl;have et:=j7 (sO l);have e0:(sO l==Str.ofString ".")=decide (l=[46]):=by rw[b0d];exact P4 _ _
 by_cases q:l=[46]
 ·have er:rowL l=[]:=if_pos q;rw[zC q] at e0;rw[er];have n0:decide ((100:Int)<((0:Nat):Int))=false:=rfl
  repeat(first|walk_at "z r" | simp only[et,e0,n0])
 ·have er:rowL l=cutL 32 l:=if_neg q;rw[zB q] at e0;have es:=P0 (c:=32) h;rw[<-show Str.ofString " "=⟨#[32]⟩ from S2,<-er] at es;have lw:=L0 (rowL l);have n0:decide ((100:Int)<(((rowL l).length:Nat):Int))=false:=zB (by walk_at "o")
  repeat(first|walk_at "z r" | simp only[et,e0,es,lw,zD,n0])
def a1e (c:Addr) (gx:List D->Option Addr):Prop:=(∀l:List Nat,Tx l->gx [.str (sO l)]=if 100<(rowL l).length then some c else none)/\∀d,Odd d->gx [d]=some c
theorem a4P {j8:LO}{v5:List D->Option Addr}{c:Addr}(j6:Fn P w K mg base "must_be_text" k j8)(j7:C2 j8)(z5:FnR P w K mg base "must_be_text" k v5)(m6:O2 c v5)
  (m_len:mg "len"=none) (G0:X7 mg K) (a2J:a7q mg K) (B9:mg "NoText"=some (.ref c)) (q:PySem.W.excIn K c bmV nwV=true) (F:Fun K "row_words" "row_words" W4 f fd) (B:Binds K fd ["thing"] []) (hm:mg "row_words"=some (.ref f)):
  ∃gx,FnR P w K mg base "row_words" (k+1) gx/\a1e c gx:=by
 have nd:=S5.nd;refine⟨_,a0N F S5 B hm rfl rfl (fun cdv A outer s H E hr=>a0m (n8 (a1m (E5 z5 hr (a8 (a7 0) a9)))) (J9 (J0 (g5 j6 hr (a8 (a7 0) a9))) (J9 (l4 1 nd (a5d (S0 hr (a7 0) (a4D a2J)) (K0 (a7 0) (a8 j4 a9)) (E8 a9))) (n8 (a4q (a0w (qx_b t7 A9 m_len (a8 (a7 1) a9)) (Y5 G0)) (n8 (a16 rfl B9 q (a8 j4 a9))) a0j))))),fun l h=>?_,fun d hd=>?_⟩
 ·have et:=j7 (sO l);have ex:=m6.1 (sO l);have e0:(sO l==Str.ofString ".")=decide (l=[46]):=by rw[b0d];exact P4 _ _
  by_cases q:l=[46]
  ·have er:rowL l=[]:=if_pos q;rw[zC q] at e0;rw[er];have n0:decide ((100:Int)<((0:Nat):Int))=false:=rfl;rw[if_neg (by simp)]
   repeat(first|walk_at "z r" | simp only[ex,et,e0,n0])
  ·have er:rowL l=cutL 32 l:=if_neg q;rw[zB q] at e0;have es:=P0 (c:=32) h;rw[<-show Str.ofString " "=⟨#[32]⟩ from S2,<-er] at es;have lw:=L0 (rowL l);have lr:=a9E h;have ll:(rowL l).length<=1000000:=by walk_at "o"
   by_cases hb:100<(rowL l).length
   ·have n0:decide ((100:Int)<(((rowL l).length:Nat):Int))=true:=zC (by walk_at "o")
    rw[if_pos hb]
    repeat(first|walk_at "z r" | simp only[ex,et,e0,es,lw,zD,n0,ll])
   ·have n0:decide ((100:Int)<(((rowL l).length:Nat):Int))=false:=zB (by walk_at "o")
    rw[if_neg hb]
    repeat(first|walk_at "z r" | simp only[ex,et,e0,es,lw,zD,n0,ll])
 ·have ex:=m6.2 d hd
  repeat(first|walk_at "z r" | simp only[ex])
abbrev S8:Stmt:=top 44
theorem Q6:FnScope ["thing","told"] ["thing"] (defScope S8):=by walk_at "c"
def P1 (g:LO):Prop:=∀(l:List Nat) (p:Int×Int),Tx l->ratI l=some p->g [.str (sO l)]=some (.v (rD p))
theorem a4J {j8:LO}{P9:LO}{t3:LO}(j6:Fn P w K mg base "must_be_text" k j8)(j7:C2 j8)(Q3:Fn P w K mg base "ratio_in" k P9)(P6:a11 P9)(t4:Fn P w K mg base "must_be_read" k t3)(n9:J6 t3)(F:Fun K "read_ratio" "read_ratio" S8 f fd)(B:Binds K fd ["thing"] [])(hm:mg "read_ratio"=some (.ref f)):∃g,Fn P w K mg base "read_ratio" (k+1) g/\P1 g:=by
 have nd:=Q6.nd
 refine⟨_,z8 F Q6 B hm rfl rfl (fun cdv A outer s H E hr=>(b8 (J0 (g5 j6 hr (a8 (a7 0) a9)))
  (b8 (l4 1 nd (g5 Q3 hr (a8 (a7 0) a9)))
  (b8 (J0 (g5 t4 hr (a8 (a7 1) a9)))
  (c7 (g6 (a7 1))))))),?_⟩
 intro l p h hp;have e1:=j7 (sO l);have e2:=P6 l h;rw[hp,show optR (some p)=rD p from rfl] at e2;have e3:=n9 [.int p.1,.int p.2]
 repeat(first|walk_at "z r" | simp only[e1,e2,e3])
def a0e (c:Addr) (gx:List D->Option Addr):Prop:=(∀l:List Nat,Tx l->gx [.str (sO l)]=if(ratI l).isSome=true then none else some c)/\∀d,Odd d->gx [d]=some c
theorem a4l {j8 P9:LO}{v5 v7:List D->Option Addr}{c:Addr}(j6:Fn P w K mg base "must_be_text" k j8)(j7:C2 j8)(z5:FnR P w K mg base "must_be_text" k v5)(m6:O2 c v5)
  (Q3:Fn P w K mg base "ratio_in" k P9) (P6:a11 P9) (z4:FnR P w K mg base "must_be_read" k v7) (m7:O7 c v7) (F:Fun K "read_ratio" "read_ratio" S8 f fd) (B:Binds K fd ["thing"] []) (hm:mg "read_ratio"=some (.ref f)):
  ∃gx,FnR P w K mg base "read_ratio" (k+1) gx/\a0e c gx:=by
 have nd:=Q6.nd;refine⟨_,a0N F Q6 B hm rfl rfl (fun cdv A outer s H E hr=>a0m (n8 (a1m (E5 z5 hr (a8 (a7 0) a9)))) (J9 (J0 (g5 j6 hr (a8 (a7 0) a9))) (J9 (l4 1 nd (g5 Q3 hr (a8 (a7 0) a9))) (n8 (a1m (E5 z4 hr (a8 (a7 1) a9))))))),fun l h=>?_,fun d hd=>?_⟩
 ·have e1:=j7 (sO l);have ex:=m6.1 (sO l);have e2:=P6 l h;cases q:ratI l with
  | none=>
   rw[q,show optR none= .non from rfl] at e2;have er:=m7.2;rw[if_neg (by simp)]
   repeat(first|walk_at "z r" | simp only[ex,e1,e2,er])
  | some p=>
   rw[q,show optR (some p)=rD p from rfl] at e2;have er:=m7.1 [.int p.1,.int p.2];rw[if_pos (show(some p).isSome=true from rfl)]
   repeat(first|walk_at "z r" | simp only[ex,e1,e2,er])
 ·have ex:=m6.2 d hd
  repeat(first|walk_at "z r" | simp only[ex])
abbrev Z9:Stmt:=top 45
theorem W6:FnScope ["thing","told"] ["thing"] (defScope Z9):=by walk_at "c"
def a1D (g:LO):Prop:=∀(l:List Nat) (p:Int×List T3),Tx l->webI l=some p->g [.str (sO l)]=some (.v (.tup [.int p.1,.tup (p.2.map tiD)]))
theorem a6T {j8:LO}{Z2:LO}{t3:LO}(j6:Fn P w K mg base "must_be_text" k j8)(j7:C2 j8)(Z4:Fn P w K mg base "web_in" k Z2)(Y6:a3J Z2)(t4:Fn P w K mg base "must_be_read" k t3)(n9:J6 t3)(F:Fun K "read_web" "read_web" Z9 f fd)(B:Binds K fd ["thing"] [])(hm:mg "read_web"=some (.ref f)):∃g,Fn P w K mg base "read_web" (k+1) g/\a1D g:=by
 have nd:=W6.nd
 refine⟨_,z8 F W6 B hm rfl rfl (fun cdv A outer s H E hr=>(b8 (J0 (g5 j6 hr (a8 (a7 0) a9)))
  (b8 (l4 1 nd (g5 Z4 hr (a8 (a7 0) a9)))
  (b8 (J0 (g5 t4 hr (a8 (a7 1) a9)))
  (c7 (g6 (a7 1))))))),?_⟩
 intro l p h hp;have e1:=j7 (sO l);have e2:=Y6 l h;rw[hp,show optW (some p)= .tup [.int p.1,.tup (p.2.map tiD)] from rfl] at e2;have e3:=n9 [.int p.1,.tup (p.2.map tiD)]
 repeat(first|walk_at "z r" | simp only[e1,e2,e3])
def a4c (c:Addr) (gx:List D->Option Addr):Prop:=(∀l:List Nat,Tx l->gx [.str (sO l)]=if(webI l).isSome=true then none else some c)/\∀d,Odd d->gx [d]=some c
theorem a56 {j8 Z2:LO}{v5 v7:List D->Option Addr}{c:Addr}(j6:Fn P w K mg base "must_be_text" k j8)(j7:C2 j8)(z5:FnR P w K mg base "must_be_text" k v5)(m6:O2 c v5)
  (Z4:Fn P w K mg base "web_in" k Z2) (Y6:a3J Z2) (z4:FnR P w K mg base "must_be_read" k v7) (m7:O7 c v7) (F:Fun K "read_web" "read_web" Z9 f fd) (B:Binds K fd ["thing"] []) (hm:mg "read_web"=some (.ref f)):
  ∃gx,FnR P w K mg base "read_web" (k+1) gx/\a4c c gx:=by
 have nd:=W6.nd;refine⟨_,a0N F W6 B hm rfl rfl (fun cdv A outer s H E hr=>a0m (n8 (a1m (E5 z5 hr (a8 (a7 0) a9)))) (J9 (J0 (g5 j6 hr (a8 (a7 0) a9))) (J9 (l4 1 nd (g5 Z4 hr (a8 (a7 0) a9))) (n8 (a1m (E5 z4 hr (a8 (a7 1) a9))))))),fun l h=>?_,fun d hd=>?_⟩
 ·have e1:=j7 (sO l);have ex:=m6.1 (sO l);have e2:=Y6 l h;cases q:webI l with
  | none=>
   rw[q,show optW none= .non from rfl] at e2;have er:=m7.2;rw[if_neg (by simp)]
   repeat(first|walk_at "z r" | simp only[ex,e1,e2,er])
  | some p=>
   rw[q,show optW (some p)= .tup [.int p.1,.tup (p.2.map tiD)] from rfl] at e2;have er:=m7.1 [.int p.1,.tup (p.2.map tiD)];rw[if_pos (show(some p).isSome=true from rfl)]
   repeat(first|walk_at "z r" | simp only[ex,e1,e2,er])
 ·have ex:=m6.2 d hd
  repeat(first|walk_at "z r" | simp only[ex])
def allO {α:Type}:List (Option α)->Option (List α)
 | []=>some []
 | some a::r=>(allO r).map (a :: ·)
 | none::_=>none
theorem T2 {α:Type}:∀{os:List (Option α)} {as:List α},allO os=some as->os=as.map some
 | [],_,h=>by cases h;rfl
 | none::_,_,h=>by cases h
 | some a::os,_,h=>by
  obtain⟨r,e,rfl⟩:=oms (show(allO os).map (a :: ·)=some _ from h);rw[T2 e];rfl
theorem a2a {α:Type}:∀os:List (Option α),(allO os).isSome= !(os.any Option.isNone)
 | []=>rfl
 | none::_=>rfl
 | some a::os=>by
  show((allO os).map (a :: ·)).isSome= !(false||os.any Option.isNone);rw[isSome_map,a2a os,Bool.false_or]
def parsI (l:List Nat):Option (List (List Int)):=if 100<(rowL l).length then none else allO ((rowL l).map parI)
def parF:D->D
 | .str x=>optP (parI x.cps.toList)
 | d=>d
def nonB:D->Bool
 | .non=>true
 | _=>false
theorem a6S (o:Option (List Int)):lf (optP o)=true:=by
 cases o with
 | none=>rfl
 | some k=>exact a4v k
theorem b3l (os:List (Option (List Int))):lfL (os.map optP)=true:=G9 fun y hy=>by
 obtain⟨o,_,rfl⟩:=zY.mp hy;exact a6S o
abbrev N4:Stmt:=top 46
theorem L8:FnScope ["thing","told","party"] ["thing"] (defScope N4):=by walk_at "c"
def U1 (g:LO):Prop:=∀(l:List Nat) (ks:List (List Int)),Tx l->parsI l=some ks->g [.str (sO l)]=some (.v (.tup (ks.map tupI)))
theorem a3x {F3:LO}{t3:LO}{A2:LO}(F1:Fn P w K mg base "party_in" k F3)(F4:a0c F3)(t4:Fn P w K mg base "must_be_read" k t3)(n9:J6 t3)(w5:Fn P w K mg base "row_words" k A2)(A1:R0 A2)(t8:mg "tuple"=none)(F:Fun K "read_parties" "read_parties" N4 f fd)(B:Binds K fd ["thing"] [])(hm:mg "read_parties"=some (.ref f)):∃g,Fn P w K mg base "read_parties" (k+1) g/\U1 g:=by
 have nd:=L8.nd
 refine⟨_,z8 F L8 B hm rfl rfl (fun cdv A outer s H E hr=>(b8 (W7 1 nd (R5 (N:=["word"]) (js:=[none]) (li:=none) rfl (G4 (by exact(.own .nil)) rfl (by exact trivial) (by rfl)) (a0h (V7 (g5 w5 hr (a8 (a7 0) a9)))) (fun _ _ _ _=>(c8 0 (show((["word"]:List Str)++[accN]).Nodup by decide +kernel))) (fun _ _ _ _=>D0) (fun _ _ _ _=>(g5 F1 hr (a8 (a7 0) a9)))))
  (b8 (a0d qJ rfl (V7 (a7 1)) (c8 2 nd) (c7 (J0 (g5 t4 hr (a8 (a7 2) a9)))))
  (c7 (g6 (qx_t D3 T6 t8 (a8 (a7 1) a9))))))),?_⟩
 intro l ks h hk;unfold parsI at hk;split at hk
 ·cases hk
 ·rename_i hb;have eo:=T2 hk;have hw:=a3E h;have ew:=A1 l h (by walk_at "o")
  generalize rowL l=ws at eo hw ew hb;have em:(strL ws).map parF=ks.map tupI:=by
   have:(strL ws).map parF=(ws.map parI).map optP:=by rw[zQ,zQ];rfl
   rw[this,eo,zQ];rfl
  have l1:=a3D ks;have lw:=L0 ws;walk_at "q";rw[w4 (ρ1:=[some (.v (.str (sO l))),none,none]) (xs:=strL ws) (fun B=>∃o1:Option D,B=[o1.map .v]) (fun _=>true) parF]
  ·rw[j9,em]
   repeat(first|walk_at "z r" | simp only[l1])
   generalize el:loopF _ _ _=r;refine a42 el (fun _ ρ=>∃o:Option D,ρ=[some (.v (.str (sO l))),some (.v (.lst (ks.map tupI))),o.map .v]) ⟨none,rfl⟩ ?_ ?_
   ·rintro d x _ hx _ ⟨o,rfl⟩;obtain⟨k,hk,rfl⟩:=zY.mp hx;have e:=n9 (k.map .int);rw[show D.tup (k.map .int)=tupI k from rfl] at e;refine⟨_,?_,some (tupI k),rfl⟩
    repeat(first|walk_at "z r" | simp only[e])
   ·rintro _ rfl ⟨o,rfl⟩;walk_at "q"
  ·repeat(first|walk_at "z r" | simp only[ew,lw])
  ·rintro _ ⟨_,rfl⟩;rfl
  ·exact⟨none,rfl⟩
  ·rw[zD];unfold lim;walk_at "o"
  ·rw[j9,em];exact l1
  ·rintro x hx _ zs ⟨o1,rfl⟩;obtain⟨p,hp,rfl⟩:=zY.mp hx;have e:=F4 p (hw p hp);have lk:=a6S (parI p);refine⟨[some (.v (.str (sO p)))],.v (optP (parI p)),⟨some _,rfl⟩,?_,rfl,fun _=>⟨?_,.inl rfl⟩⟩
   ·walk_at "q"
   ·repeat(first|walk_at "z r" | simp only[e,lk])
def a1a (c:Addr) (gx:List D->Option Addr):Prop:=(∀l:List Nat,Tx l->gx [.str (sO l)]=if(parsI l).isSome=true then none else some c)/\∀d,Odd d->gx [d]=some c
theorem a2Z {A2 F3 t3:LO}{K7 v7:List D->Option Addr}{c:Addr}(w5:Fn P w K mg base "row_words" k A2)(A1:R0 A2)(M5:FnR P w K mg base "row_words" k K7)(D2:a1e c K7)
  (F1:Fn P w K mg base "party_in" k F3) (F4:a0c F3) (t4:Fn P w K mg base "must_be_read" k t3) (n9:J6 t3) (z4:FnR P w K mg base "must_be_read" k v7) (m7:O7 c v7) (F:Fun K "read_parties" "read_parties" N4 f fd) (B:Binds K fd ["thing"] []) (hm:mg "read_parties"=some (.ref f)):
  ∃gx,FnR P w K mg base "read_parties" (k+1) gx/\a1a c gx:=by
 have nd:=L8.nd;refine⟨_,a0N F L8 B hm rfl rfl (fun cdv A outer s H E hr=>a0m (n8 (a6V (E5 M5 hr (a8 (a7 0) a9)))) (J9 (W7 1 nd (R5 (N:=["word"]) (js:=[none]) (li:=none) rfl (G4 (by exact(.own .nil)) rfl (by exact trivial) (by rfl)) (a0h (V7 (g5 w5 hr (a8 (a7 0) a9)))) (fun _ _ _ _=>(c8 0 (show((["word"]:List Str)++[accN]).Nodup by decide +kernel))) (fun _ _ _ _=>D0) (fun _ _ _ _=>(g5 F1 hr (a8 (a7 0) a9))))) (n8 (b3G PySem.PassesOwn.leaving rfl (V7 (a7 1)) (c8 2 nd) (c7 (J0 (g5 t4 hr (a8 (a7 2) a9)))) (n8 (a1m (E5 z4 hr (a8 (a7 2) a9)))))))),fun l h=>?_,fun d hd=>?_⟩
 ·have ex:=D2.1 l h;have hw:=a3E h
  by_cases hb:100<(rowL l).length
  ·rw[if_pos hb] at ex;have e0:parsI l=none:=if_pos hb;rw[e0,if_neg (by simp)]
   repeat(first|walk_at "z r" | simp only[ex])
  ·rw[if_neg hb] at ex;have e0:parsI l=allO ((rowL l).map parI):=if_neg hb;have ew:=A1 l h (by walk_at "o")
   rw[e0,a2a];generalize rowL l=ws at hw ew hb;have em:(strL ws).map parF=(ws.map parI).map optP:=by rw[zQ,zQ];rfl
   have lw:=L0 ws;have l1:=b3l (ws.map parI)
   repeat(first|walk_at "z r" | simp only[ex])
   rw[w4 (ρ1:=[some (.v (.str (sO l))),none,none]) (xs:=strL ws) (fun B=>∃o1:Option D,B=[o1.map .v]) (fun _=>true) parF]
   ·rw[j9,em]
    repeat(first|walk_at "z r" | simp only[l1])
    refine Eq.trans (a5k (C:=c) (fun ρ=>∃o:Option D,ρ=[some (.v (.str (sO l))),some (.v (.lst ((ws.map parI).map optP))),o.map .v]) nonB (ρ:=[some (.v (.str (sO l))),some (.v (.lst ((ws.map parI).map optP))),none]) ⟨none,rfl⟩ ?_) ?_
    ·rintro x hx _ ⟨o,rfl⟩;obtain⟨o1,_,rfl⟩:=zY.mp hx;refine⟨[some (.v (.str (sO l))),some (.v (.lst ((ws.map parI).map optP))),some (.v (optP o1))],?_,fun hq=>?_,fun hq=>⟨?_,_,?_,some (optP o1),rfl⟩⟩
     ·walk_at "q"
     ·cases o1 with
      | some k=>cases hq
      | none=>
       have e:=m7.2;rw[show optP none= .non from rfl]
       repeat(first|walk_at "z r" | simp only[e])
     ·cases o1 with
      | none=>cases hq
      | some k=>
       have e:=m7.1 (k.map .int);rw[show optP (some k)= .tup (k.map .int) from rfl]
       repeat(first|walk_at "z r" | simp only[e])
     ·cases o1 with
      | none=>cases hq
      | some k=>
       have e:=n9 (k.map .int);rw[show optP (some k)= .tup (k.map .int) from rfl]
       repeat(first|walk_at "z r" | simp only[e])
    ·rw[any_map,show nonB∘optP=Option.isNone from funext fun o=>by cases o<;>rfl]
     cases((ws.map parI).any Option.isNone)<;>rfl
   ·repeat(first|walk_at "z r" | simp only[ew,lw])
   ·rintro _ ⟨_,rfl⟩;rfl
   ·exact⟨none,rfl⟩
   ·rw[zD];unfold lim;walk_at "o"
   ·rw[j9,em];exact l1
   ·rintro x hx _ zs ⟨o1,rfl⟩;obtain⟨p,hp,rfl⟩:=zY.mp hx;have e:=F4 p (hw p hp);have lk:=a6S (parI p);refine⟨[some (.v (.str (sO p)))],.v (optP (parI p)),⟨some _,rfl⟩,?_,rfl,fun _=>⟨?_,.inl rfl⟩⟩
    ·walk_at "q"
    ·repeat(first|walk_at "z r" | simp only[e,lk])
 ·have ex:=D2.2 d hd
  repeat(first|walk_at "z r" | simp only[ex])
def ratsI (l:List Nat):Option (List (Int×Int)):=if 100<(rowL l).length then none else(allO ((rowL l).map ratI)).bind fun rs=>if rs.all (fun p=>decide (0<=p.1))=true then some rs else none
def ratF:D->D
 | .str x=>optR (ratI x.cps.toList)
 | d=>d
def badF:D->Bool
 | .str x=>(ratI x.cps.toList).isNone
 | _=>false
def negF:D->Bool
 | .tup [.int a,_]=>decide (a<0)
 | _=>false
theorem a25 (rs:List (Int×Int)):lfL (rs.map rD)=true:=G9 fun y hy=>by obtain⟨p,_,rfl⟩:=zY.mp hy;rfl
theorem a3T {α:Type}(f:α->Bool)(xs:List α):(xs.map f).any id=xs.any f:=by rw[any_map];rfl
theorem a7U (rs:List (Int×Int)):(rs.map rD).any negF= !(rs.all fun p=>decide (0<=p.1)):=by
 induction rs with
 | nil=>rfl
 | cons p rs ih=>
  rw[zR,any_cons,List.all_cons,ih,Bool.not_and];congr 1;show decide (p.1<0)= !decide (0<=p.1)
  by_cases h:p.1<0
  ·rw[zC h,zB (by walk_at "o")];rfl
  ·rw[zB h,zC (by walk_at "o")];rfl
abbrev Q9:Stmt:=top 47
theorem O3:FnScope ["thing","told"] ["thing"] (defScope Q9):=by walk_at "c"
def X3 (g:LO):Prop:=∀(l:List Nat) (rs:List (Int×Int)),Tx l->ratsI l=some rs->g [.str (sO l)]=some (.v (.tup (rs.map rD)))
theorem a4B {v6:LO}{A2:LO}{a28:LO}(t9:Fn P w K mg base "read_ratio" k v6)(u5:P1 v6)(w5:Fn P w K mg base "row_words" k A2)(A1:R0 A2)(a21:Fn P w K mg base "less" k a28)(a2P:a7h a28)(m_any:mg "any"=none)(t8:mg "tuple"=none)(Z0:a31 mg K)(F:Fun K "read_ratios" "read_ratios" Q9 f fd)(B:Binds K fd ["thing"] [])(hm:mg "read_ratios"=some (.ref f)):∃g,Fn P w K mg base "read_ratios" (k+1) g/\X3 g:=by
 have nd:=O3.nd
 refine⟨_,z8 F O3 B hm rfl rfl (fun cdv A outer s H E hr=>(b8 (W7 1 nd (R5 (N:=["word"]) (js:=[none]) (li:=none) rfl (G4 (by exact(.own .nil)) rfl (by exact trivial) (by rfl)) (a0h (V7 (g5 w5 hr (a8 (a7 0) a9)))) (fun _ _ _ _=>(c8 0 (show((["word"]:List Str)++[accN]).Nodup by decide +kernel))) (fun _ _ _ _=>D0) (fun _ _ _ _=>(g5 t9 hr (a8 (a7 0) a9)))))
  (b8 (p9 (B8 (qx_b (a49 rfl) V4 m_any (a8 (S6 (N:=["one"]) (js:=[none]) (li:=none) rfl (G4 (by exact(.own .nil)) rfl (by exact trivial) (by rfl)) (O1 1) (fun _ _ _ _=>(c8 0 (show((["one"]:List Str)++[accN]).Nodup by decide +kernel))) (fun _ _ _ _=>D0) (fun _ _ _ _=>(g5 a21 hr (a8 (a7 0) (a8 (a6J Z0) a9))))) a9))) (c7 a19) h7)
  (c7 (g6 (qx_t D3 T6 t8 (a8 (a7 1) a9))))))),?_⟩
 intro l rs h hk;unfold ratsI at hk;split at hk
 ·cases hk
 ·rename_i hb;obtain⟨rs',h1,h2⟩:=obs hk;split at h2
  case isFalse=>cases h2
  case isTrue hp=>
  cases h2;have eo:=T2 h1;have hw:=a3E h;have ew:=A1 l h (by walk_at "o")
  generalize rowL l=ws at eo hw ew hb;have em:(strL ws).map ratF=rs.map rD:=by
   have:(strL ws).map ratF=(ws.map ratI).map optR:=by rw[zQ,zQ];rfl
   rw[this,eo,zQ];rfl
  have l1:=a25 rs;have lw:=L0 ws;have lm2:(rs.map rD).length<=1000000:=by rw[<-em,zD,zD];walk_at "o"
  walk_at "q";rw[w4 (ρ1:=[some (.v (.str (sO l))),none]) (xs:=strL ws) (fun B=>∃o1:Option D,B=[o1.map .v]) (fun _=>true) ratF]
  ·rw[j9,em]
   repeat(first|walk_at "z r" | simp only[l1])
   rw[w4 (ρ1:=[some (.v (.str (sO l))),some (.o (.lst (rs.map rD)))]) (xs:=rs.map rD) (fun B=>∃o1:Option D,B=[o1.map .v]) (fun _=>true) (fun d=>.bl (negF d))]
   ·rw[j9];have gb:=a1Z (r:=fun bs=>bs.any id) (J8 negF (rs.map rD));rw[a3T,a7U,hp] at gb
    repeat(first|walk_at "z r" | simp only[gb,l1,Bool.not_true])
   ·repeat(first|walk_at "z r" | simp only[l1])
   ·rintro _ ⟨_,rfl⟩;rfl
   ·exact⟨none,rfl⟩
   ·unfold lim;exact lm2
   ·exact a0Q _ _
   ·rintro x hx _ zs ⟨o1,rfl⟩;obtain⟨p,h,rfl⟩:=zY.mp hx;have e:=a2P p;refine⟨[some (.v (rD p))],.v (.bl (decide (p.1<0))),⟨some _,rfl⟩,?_,rfl,fun _=>⟨?_,.inl rfl⟩⟩
    ·walk_at "q"
    ·repeat(first|walk_at "z r" | simp only[e])
  ·repeat(first|walk_at "z r" | simp only[ew,lw])
  ·rintro _ ⟨_,rfl⟩;rfl
  ·exact⟨none,rfl⟩
  ·rw[zD];unfold lim;walk_at "o"
  ·rw[j9,em];exact l1
  ·rintro x hx _ zs ⟨o1,rfl⟩;obtain⟨p,hp,rfl⟩:=zY.mp hx;obtain⟨r,_,hr⟩:=zY.mp (show ratI p∈rs.map some by rw[<-eo];exact zY.mpr ⟨p,hp,rfl⟩)
   have e:=u5 p r (hw p hp) hr.symm;refine⟨[some (.v (.str (sO p)))],.v (rD r),⟨some _,rfl⟩,?_,rfl,fun _=>⟨?_,.inl (by show W.v (rD r)=W.v (optR (ratI p));rw[<-hr];rfl)⟩⟩
   ·walk_at "q"
   ·repeat(first|walk_at "z r" | simp only[e])
def a1z (c:Addr) (gx:List D->Option Addr):Prop:=(∀l:List Nat,Tx l->gx [.str (sO l)]=if(ratsI l).isSome=true then none else some c)/\∀d,Odd d->gx [d]=some c
theorem a3w {A2 v6 a28:LO}{K7 F6:List D->Option Addr}{c:Addr}(w5:Fn P w K mg base "row_words" k A2)(A1:R0 A2)(M5:FnR P w K mg base "row_words" k K7)(D2:a1e c K7)
  (t9:Fn P w K mg base "read_ratio" k v6) (u5:P1 v6) (K3:FnR P w K mg base "read_ratio" k F6) (D8:a0e c F6) (a21:Fn P w K mg base "less" k a28) (a2P:a7h a28) (m_any:mg "any"=none) (Z0:a31 mg K) (B9:mg "NoText"=some (.ref c)) (q:PySem.W.excIn K c bmV nwV=true)
  (F:Fun K "read_ratios" "read_ratios" Q9 f fd) (B:Binds K fd ["thing"] []) (hm:mg "read_ratios"=some (.ref f)):
  ∃gx,FnR P w K mg base "read_ratios" (k+1) gx/\a1z c gx:=by
 have nd:=O3.nd
 refine⟨_,a0N F O3 B hm rfl rfl (fun cdv A outer s H E hr=>a0m (a0m (n8 (a6V (E5 M5 hr (a8 (a7 0) a9))))
  (n8 (a9m (N:=["word"]) (js:=[none]) rfl (G4 (by exact(.own .nil)) rfl (by exact trivial) (by rfl)) (a0h (V7 (g5 w5 hr (a8 (a7 0) a9)))) (fun _ _ _ _=>(c8 0 (show((["word"]:List Str)++[accN]).Nodup by decide +kernel))) (fun _ _ _ _=>(g5 t9 hr (a8 (a7 0) a9))) (fun _ _ _ _=>(a93 K3 hr (a8 (a7 0) a9))))))
  (J9 (W7 1 nd (R5 (N:=["word"]) (js:=[none]) (li:=none) rfl (G4 (by exact(.own .nil)) rfl (by exact trivial) (by rfl)) (a0h (V7 (g5 w5 hr (a8 (a7 0) a9)))) (fun _ _ _ _=>(c8 0 (show((["word"]:List Str)++[accN]).Nodup by decide +kernel))) (fun _ _ _ _=>D0) (fun _ _ _ _=>(g5 t9 hr (a8 (a7 0) a9))))) (n8 (a4q (B8 (qx_b (a49 rfl) V4 m_any (a8 (S6 (N:=["one"]) (js:=[none]) (li:=none) rfl (G4 (by exact(.own .nil)) rfl (by exact trivial) (by rfl)) (O1 1) (fun _ _ _ _=>(c8 0 (show((["one"]:List Str)++[accN]).Nodup by decide +kernel))) (fun _ _ _ _=>D0) (fun _ _ _ _=>(g5 a21 hr (a8 (a7 0) (a8 (a6J Z0) a9))))) a9))) (n8 (a16 rfl B9 q (a8 j4 a9))) a0j)))),fun l h=>?_,fun d hd=>?_⟩
 ·have ex:=D2.1 l h;have hw:=a3E h
  by_cases hb:100<(rowL l).length
  ·rw[if_pos hb] at ex;have e0:ratsI l=none:=if_pos hb;rw[e0,if_neg (by simp)]
   repeat(first|walk_at "z r" | simp only[ex])
  ·rw[if_neg hb] at ex;have e0:ratsI l=(allO ((rowL l).map ratI)).bind fun rs=>if rs.all (fun p=>decide (0<=p.1))=true then some rs else none:=if_neg hb;have ew:=A1 l h (by walk_at "o")
   rw[e0];generalize rowL l=ws at hw ew hb;have lw:=L0 ws
   repeat(first|walk_at "z r" | simp only[ex])
   rw[a8k (C:=c) (ρ1:=[some (.v (.str (sO l))),none]) (xs:=strL ws) (fun B=>∃o1:Option D,B=[o1.map .v]) badF ratF]
   ·have ea:(strL ws).any badF=(ws.map ratI).any Option.isNone:=by rw[any_map,any_map];rfl
    rw[ea];have an:=a2a (ws.map ratI);cases q:(ws.map ratI).any Option.isNone with
    | true=>
     rw[q] at an;have e1:allO (ws.map ratI)=none:=by simpa using an
     rw[e1,bind_none,if_pos rfl];walk_at "q";rfl
    | false=>
     rw[q] at an;obtain⟨rs,e1⟩:=yC.mp an;have eo:=T2 e1;have em:(strL ws).map ratF=rs.map rD:=by
      have:(strL ws).map ratF=(ws.map ratI).map optR:=by rw[zQ,zQ];rfl
      rw[this,eo,zQ];rfl
     have l1:=a25 rs;have lm2:(rs.map rD).length<=1000000:=by rw[<-em,zD,zD];walk_at "o"
     rw[e1,bind_some,if_neg (by simp)]
     walk_at "q";rw[w4 (ρ1:=[some (.v (.str (sO l))),none]) (xs:=strL ws) (fun B=>∃o1:Option D,B=[o1.map .v]) (fun _=>true) ratF]
     ·rw[j9,em]
      repeat(first|walk_at "z r" | simp only[l1])
      rw[w4 (ρ1:=[some (.v (.str (sO l))),some (.o (.lst (rs.map rD)))]) (xs:=rs.map rD) (fun B=>∃o1:Option D,B=[o1.map .v]) (fun _=>true) (fun d=>.bl (negF d))]
      ·rw[j9];have gb:=a1Z (r:=fun bs=>bs.any id) (J8 negF (rs.map rD));rw[a3T,a7U] at gb;cases ha:rs.all fun p=>decide (0<=p.1) with
       | true=>
        rw[ha] at gb;rw[if_pos rfl,if_pos (show(some rs).isSome=true from rfl)]
        repeat(first|walk_at "z r" | simp only[gb,l1,Bool.not_true])
       | false=>
        rw[ha] at gb;rw[if_neg (by simp)]
        repeat(first|walk_at "z r" | simp only[gb,l1,Bool.not_false])
      ·repeat(first|walk_at "z r" | simp only[l1])
      ·rintro _ ⟨_,rfl⟩;rfl
      ·exact⟨none,rfl⟩
      ·unfold lim;exact lm2
      ·exact a0Q _ _
      ·rintro x hx _ zs ⟨o1,rfl⟩;obtain⟨p,h,rfl⟩:=zY.mp hx;have e:=a2P p;refine⟨[some (.v (rD p))],.v (.bl (decide (p.1<0))),⟨some _,rfl⟩,?_,rfl,fun _=>⟨?_,.inl rfl⟩⟩
       ·walk_at "q"
       ·repeat(first|walk_at "z r" | simp only[e])
     ·repeat(first|walk_at "z r" | simp only[ew,lw])
     ·rintro _ ⟨_,rfl⟩;rfl
     ·exact⟨none,rfl⟩
     ·rw[zD];unfold lim;walk_at "o"
     ·rw[j9,em];exact l1
     ·rintro x hx _ zs ⟨o1,rfl⟩;obtain⟨p,hp,rfl⟩:=zY.mp hx;obtain⟨r,_,hr⟩:=zY.mp (show ratI p∈rs.map some by rw[<-eo];exact zY.mpr ⟨p,hp,rfl⟩)
      have e:=u5 p r (hw p hp) hr.symm;refine⟨[some (.v (.str (sO p)))],.v (rD r),⟨some _,rfl⟩,?_,rfl,fun _=>⟨?_,.inl (by show W.v (rD r)=W.v (optR (ratI p));rw[<-hr];rfl)⟩⟩
      ·walk_at "q"
      ·repeat(first|walk_at "z r" | simp only[e])
   ·repeat(first|walk_at "z r" | simp only[ew,lw])
   ·rintro _ ⟨_,rfl⟩;rfl
   ·exact⟨none,rfl⟩
   ·rw[zD];unfold lim;walk_at "o"
   ·rintro x hx _ zs ⟨o1,rfl⟩;obtain⟨p,hp,rfl⟩:=zY.mp hx;have er:=D8.1 p (hw p hp);refine⟨[some (.v (.str (sO p)))],⟨some _,rfl⟩,?_,fun hq=>⟨[some (.v (.str (sO p)))]++acc zs,?_⟩,fun hq=>?_⟩
    ·walk_at "q"
    ·have hq:ratI p=none:=by simpa [badF] using hq
     rw[hq,if_neg (by simp)] at er
     repeat(first|walk_at "z r" | simp only[er])
    ·obtain⟨r,hr⟩:∃r,ratI p=some r:=by
      cases q:ratI p with
      | none=>rw[show badF (.str (sO p))=(ratI p).isNone from rfl,q] at hq;cases hq
      | some r=>exact⟨r,rfl⟩
     have e:=u5 p r (hw p hp) hr;rw[hr,if_pos (show(some r).isSome=true from rfl)] at er;refine⟨?_,.v (rD r),?_,.inl (by show W.v (rD r)=W.v (optR (ratI p));rw[hr];rfl)⟩
     ·repeat(first|walk_at "z r" | simp only[er])
     ·repeat(first|walk_at "z r" | simp only[e])
 ·have ex:=D2.2 d hd
  repeat(first|walk_at "z r" | simp only[ex])
def rdD (k:Int) (l:List Nat):Option D:=if k=0 then(ratI l).map rD else if k=1 then(ratsI l).map (fun rs=>.tup (rs.map rD)) else if k=2 then(parsI l).map (fun ks=>.tup (ks.map tupI)) else(webI l).map fun p=>.tup [.int p.1,.tup (p.2.map tiD)]
def K4 (k:Int):Prop:=k=0\/k=1\/k=2\/k=3
theorem b00:((0:Int)==0)=true:=rfl
theorem b10:((1:Int)==0)=false:=rfl
theorem b11:((1:Int)==1)=true:=rfl
theorem b20:((2:Int)==0)=false:=rfl
theorem b21:((2:Int)==1)=false:=rfl
theorem b22:((2:Int)==2)=true:=rfl
theorem b30:((3:Int)==0)=false:=rfl
theorem b31:((3:Int)==1)=false:=rfl
theorem b32:((3:Int)==2)=false:=rfl
abbrev O0:Stmt:=top 59
theorem L7:FnScope ["kind","thing"] ["kind","thing"] (defScope O0):=by walk_at "c"
def a1g (g:LO):Prop:=∀(k:Int) (l:List Nat) (d:D),K4 k->Tx l->rdD k l=some d->g [.int k,.str (sO l)]=some (.v d)
theorem a3v {P3:LO}{v6:LO}{F8:LO}{E4:LO}(U7:Fn P w K mg base "read_web" k P3)(U5:a1D P3)(t9:Fn P w K mg base "read_ratio" k v6)(u5:P1 v6)(F5:Fn P w K mg base "read_ratios" k F8)(F7:X3 F8)(E9:Fn P w K mg base "read_parties" k E4)(E6:U1 E4)(F:Fun K "_law_read_so" "_law_read_so" O0 f fd)(B:Binds K fd ["kind","thing"] [])(hm:mg "_law_read_so"=some (.ref f)):∃g,Fn P w K mg base "_law_read_so" (k+1) g/\a1g g:=by
 have nd:=L7.nd
 refine⟨_,z8 F L7 B hm rfl rfl (fun cdv A outer s H E hr=>(b8 (p9 (E2 hr (a7 0) c6) (c7 (g6 (g5 t9 hr (a8 (a7 1) a9)))) h7)
  (b8 (p9 (E2 hr (a7 0) c6) (c7 (g6 (g5 F5 hr (a8 (a7 1) a9)))) h7)
  (b8 (p9 (E2 hr (a7 0) c6) (c7 (g6 (g5 E9 hr (a8 (a7 1) a9)))) h7)
  (c7 (g6 (g5 U7 hr (a8 (a7 1) a9)))))))),?_⟩
 intro k l d hk h hd;rcases hk with rfl|rfl|rfl|rfl
 ·obtain⟨p,e,rfl⟩:=oms (show(ratI l).map _=some d from hd);have e1:=u5 l p h e
  repeat(first|walk_at "z r" | simp only[b00,e1])
 ·obtain⟨p,e,rfl⟩:=oms (show(ratsI l).map _=some d from hd);have e1:=F7 l p h e
  repeat(first|walk_at "z r" | simp only[b10,b11,e1,a25])
 ·obtain⟨p,e,rfl⟩:=oms (show(parsI l).map _=some d from hd);have e1:=E6 l p h e
  repeat(first|walk_at "z r" | simp only[b20,b21,b22,e1,a3D])
 ·obtain⟨p,e,rfl⟩:=oms (show(webI l).map _=some d from hd);have e1:=U5 l p h e
  repeat(first|walk_at "z r" | simp only[b30,b31,b32,e1])
def a02 (c:Addr) (gx:List D->Option Addr):Prop:=∀k:Int,K4 k->(∀l:List Nat,Tx l->gx [.int k,.str (sO l)]=if(rdD k l).isSome=true then none else some c)/\∀d,Odd d->gx [.int k,d]=some c
theorem a2N {v6 F8 E4 P3:LO}{F6 V5 R8 a09:List D->Option Addr}{c:Addr}(t9:Fn P w K mg base "read_ratio" k v6)(u5:P1 v6)(K3:FnR P w K mg base "read_ratio" k F6)(D8:a0e c F6)
  (F5:Fn P w K mg base "read_ratios" k F8) (F7:X3 F8) (X5:FnR P w K mg base "read_ratios" k V5) (O4:a1z c V5) (E9:Fn P w K mg base "read_parties" k E4) (E6:U1 E4) (V6:FnR P w K mg base "read_parties" k R8) (L9:a1a c R8)
  (U7:Fn P w K mg base "read_web" k P3) (U5:a1D P3) (a1S:FnR P w K mg base "read_web" k a09) (W3:a4c c a09)
  (F:Fun K "_law_read_so" "_law_read_so" O0 f fd) (B:Binds K fd ["kind","thing"] []) (hm:mg "_law_read_so"=some (.ref f)):
  ∃gx,FnR P w K mg base "_law_read_so" (k+1) gx/\a02 c gx:=by
 have nd:=L7.nd
 refine⟨_,a0N F L7 B hm rfl rfl (fun cdv A outer s H E hr=>a0m (n8 (a4q (E2 hr (a7 0) c6) (n8 (a52 (E5 K3 hr (a8 (a7 1) a9)))) a0j)) (J9 (p9 (E2 hr (a7 0) c6) (c7 (g6 (g5 t9 hr (a8 (a7 1) a9)))) h7)
  (a0m (n8 (a4q (E2 hr (a7 0) c6) (n8 (a52 (E5 X5 hr (a8 (a7 1) a9)))) a0j)) (J9 (p9 (E2 hr (a7 0) c6) (c7 (g6 (g5 F5 hr (a8 (a7 1) a9)))) h7)
  (a0m (n8 (a4q (E2 hr (a7 0) c6) (n8 (a52 (E5 V6 hr (a8 (a7 1) a9)))) a0j)) (J9 (p9 (E2 hr (a7 0) c6) (c7 (g6 (g5 E9 hr (a8 (a7 1) a9)))) h7) (n8 (a52 (E5 a1S hr (a8 (a7 1) a9)))))))))),fun k hk=>⟨fun l h=>?_,fun d hd=>?_⟩⟩
 ·rcases hk with rfl|rfl|rfl|rfl
  ·have ex:=D8.1 l h;show _=if((ratI l).map rD).isSome=true then none else some c;rw[isSome_map];cases q:ratI l with
   | none=>rw[q] at ex;repeat(first|walk_at "z r" | simp only[b00,ex,yB,jW,if_false])
   | some p=>
    have e1:=u5 l p h q;rw[q] at ex
    repeat(first|walk_at "z r" | simp only[b00,ex,e1,jJ,qT])
  ·have ex:=O4.1 l h;show _=if((ratsI l).map _).isSome=true then none else some c;rw[isSome_map];cases q:ratsI l with
   | none=>rw[q] at ex;repeat(first|walk_at "z r" | simp only[b10,b11,ex,yB,jW,if_false])
   | some p=>
    have e1:=F7 l p h q;rw[q] at ex
    repeat(first|walk_at "z r" | simp only[b10,b11,ex,e1,a25,jJ,qT])
  ·have ex:=L9.1 l h;show _=if((parsI l).map _).isSome=true then none else some c;rw[isSome_map];cases q:parsI l with
   | none=>rw[q] at ex;repeat(first|walk_at "z r" | simp only[b20,b21,b22,ex,yB,jW,if_false])
   | some p=>
    have e1:=E6 l p h q;rw[q] at ex
    repeat(first|walk_at "z r" | simp only[b20,b21,b22,ex,e1,a3D,jJ,qT])
  ·have ex:=W3.1 l h;show _=if((webI l).map _).isSome=true then none else some c;rw[isSome_map]
   repeat(first|walk_at "z r" | simp only[b30,b31,b32,ex])
   cases q:webI l<;>rfl
 ·rcases hk with rfl|rfl|rfl|rfl
  ·have ex:=D8.2 d hd
   repeat(first|walk_at "z r" | simp only[b00,ex])
  ·have ex:=O4.2 d hd
   repeat(first|walk_at "z r" | simp only[b10,b11,ex])
  ·have ex:=L9.2 d hd
   repeat(first|walk_at "z r" | simp only[b20,b21,b22,ex])
  ·have ex:=W3.2 d hd
   repeat(first|walk_at "z r" | simp only[b30,b31,b32,ex])
theorem a3Y {k:Int}{l:List Nat}{d:D}(hk:K4 k)(h:rdD k l=some d):lf d=true:=by
 rcases hk with rfl|rfl|rfl|rfl
 ·obtain⟨p,e,rfl⟩:=oms (show(ratI l).map _=some d from h);rfl
 ·obtain⟨p,e,rfl⟩:=oms (show(ratsI l).map _=some d from h);exact a25 p
 ·obtain⟨p,e,rfl⟩:=oms (show(parsI l).map _=some d from h);exact a3D p
 ·obtain⟨p,e,rfl⟩:=oms (show(webI l).map _=some d from h);show(true&&(lfL (p.2.map tiD)&&true))=true;rw[show lfL (p.2.map tiD)=true from G9 fun y hy=>by obtain⟨o,_,rfl⟩:=zY.mp hy;rfl];rfl
theorem kc_ex {c:Addr}{b:Bool}{p:Addr->Bool->Prop}(h:p c b):∃kc:Addr->Option Bool,kc c=some b/\∀C b',kc C=some b'->p C b':=⟨kcF c b,b0K,a7j h⟩
theorem a5Y {c:Addr}{b:Bool}{p:Addr->Bool->Prop}(h:p c b)(hx:ExcC K c):∃kc:Addr->Option Bool,kc c=some b/\(∀C b',kc C=some b'->p C b')/\∀C b',kc C=some b'->ExcC K C:=⟨kcF c b,b0K,a7j h,a7j (p:=fun C _=>ExcC K C) hx⟩
theorem ry3 {i:Nat}{ρ:Ev}:tryS3 i (some (.nx ρ))=if freeSlot ρ i=true then some (.nx (ρ.set i none)) else none:=rfl
abbrev T8:Stmt:=top 60
theorem a0v:FnScope ["kind","thing","found","e","odd"] ["kind","thing"] (defScope T8):=by walk_at "c"
def a1b (g:LO):Prop:=∀k:Int,K4 k->(∀l:List Nat,Tx l->g [.int k,.str (sO l)]=some (.v ((rdD k l).getD (.str (Str.ofString "refused")))))/\∀d,Odd d->g [.int k,d]=some (.v (.str (Str.ofString "refused")))
theorem a3z {U3:LO}{gx:List D->Option Addr}{c cT cAlone cBarred cLoose cNoDeed cNoParty cNoPerson cNoRatio cNoRow cNoSides cNoWeb cNothingDone cTwice:Addr}(U6:Fn P w K mg base "_law_read_so" k U3)(V1:a1g U3)(U4:FnR P w K mg base "_law_read_so" k gx)(R6:a02 c gx)
  (j5:mg "isinstance"=none) (a0b:mg "ValueError"=none) (a0a:mg "TwainError"=some (.ref cT)) (B9:mg "NoText"=some (.ref c)) (a5P:mg "Alone"=some (.ref cAlone)) (a32:mg "Barred"=some (.ref cBarred)) (a5F:mg "Loose"=some (.ref cLoose)) (a4o:mg "NoDeed"=some (.ref cNoDeed)) (a2M:mg "NoParty"=some (.ref cNoParty)) (a10:mg "NoPerson"=some (.ref cNoPerson))
  (a2K:mg "NoRatio"=some (.ref cNoRatio)) (a5C:mg "NoRow"=some (.ref cNoRow)) (a3a:mg "NoSides"=some (.ref cNoSides)) (a6c:mg "NoWeb"=some (.ref cNoWeb)) (W8:mg "NothingDone"=some (.ref cNothingDone)) (a5W:mg "Twice"=some (.ref cTwice))
  (k1:PySem.W.kitAny K (.ref c) [.ref cNoRatio,.ref cNoWeb,.ref cTwice,.ref cNoPerson,.ref cNoParty,.ref cAlone,.ref cLoose]=some false) (k2:PySem.W.kitAny K (.ref c) [.ref cBarred,.ref cNoSides,.ref cNoRow,.ref cNothingDone,.ref cNoDeed]=some false)
  (k3:PySem.W.kitOne K (.ref c) (.ref c)=some true) (k4:PySem.W.kitOne K (.ref c) (.type "ValueError")=some true) (k5:PySem.W.exmOne K (.ref c) (.ref cT)=some true) (hx:ExcC K c)
  (F:Fun K "_law_refused" "_law_refused" T8 f fd) (B:Binds K fd ["kind","thing"] []) (hm:mg "_law_refused"=some (.ref f)):∃g,Fn P w K mg base "_law_refused" (k+1) g/\a1b g:=by
 have nd:=a0v.nd;obtain⟨kc_t,ek_t,hk_t⟩:=kc_ex (p:=fun C b=>PySem.W.exmOne K (.ref C) (.ref cT)=some b) k5;obtain⟨a7a,ek_1,a7s,a69⟩:=a5Y (K:=K) (p:=fun C b=>PySem.W.kitAny K (.ref C) ([cNoRatio,cNoWeb,cTwice,cNoPerson,cNoParty,cAlone,cLoose].map Value.ref)=some b) k1 hx;obtain⟨a9c,ek_2,a8P,a8J⟩:=a5Y (K:=K) (p:=fun C b=>PySem.W.kitAny K (.ref C) ([cBarred,cNoSides,cNoRow,cNothingDone,cNoDeed].map Value.ref)=some b) k2 hx;obtain⟨a8Q,ek_3,a8x,a9d⟩:=a5Y (K:=K) (p:=fun C b=>PySem.W.kitOne K (.ref C) (.ref c)=some b) k3 hx;obtain⟨a4K,ek_4,a4O,a4N⟩:=a5Y (K:=K) (p:=fun C b=>PySem.W.kitOne K (.ref C) (.type "ValueError")=some b) k4 hx
 refine⟨_,z8 F a0v B hm rfl rfl (fun cdv A outer s H E hr=>(b8 (l4 2 nd j4)
  (b8 (b1C 3 (kc:=kc_t) nd a0a hk_t (l4 2 nd (g5 U6 hr (a8 (a7 0) (a8 (a7 1) a9)))) (b1T (E5 U4 hr (a8 (a7 0) (a8 (a7 1) a9)))) (fun _=>(b8 (l4 4 nd (a6Y (kc:=a7a) j5 (.cons a2K rfl (by decide) (.cons a6c rfl (by decide) (.cons a5W rfl (by decide) (.cons a10 rfl (by decide) (.cons a2M rfl (by decide) (.cons a5P rfl (by decide) (.cons a5F rfl (by decide) .nil rfl) rfl) rfl) rfl) rfl) rfl) rfl) a7s a69 (a7 3) (show(7:Nat)<=sizeLine by decide)))
  (b8 (l4 4 nd (qx_or (a7 4) (a0M (a6Y (kc:=a9c) j5 (.cons a32 rfl (by decide) (.cons a3a rfl (by decide) (.cons a5C rfl (by decide) (.cons W8 rfl (by decide) (.cons a4o rfl (by decide) .nil rfl) rfl) rfl) rfl) rfl) a8P a8J (a7 3) (show(5:Nat)<=sizeLine by decide)))))
  (c7 (p9 (F0 (Y3 (B8 (b3w (kc:=a8Q) j5 B9 a8x a9d (a7 3))) (Y3 (B8 (b3n (kc:=a4K) j5 a0b a4O a4N (a7 3))) (S9 (E3 (B8 (a7 4))))))) (c7 (l4 2 nd j4)) h7))))))
  (c7 (g6 (a7 2)))))),?_⟩
 intro k hk;have er:=R6 k hk;constructor
 ·intro l h;have ex:=er.1 l h;cases q:rdD k l with
  | none=>
   rw[q,if_neg (by simp)] at ex
   repeat(first|walk_at "z r" | simp only[a7C,a7P,ry3,ex,ek_t,ek_1,ek_2,ek_3,ek_4,xK])
  | some d=>
   rw[q,if_pos (show(some d).isSome=true from rfl)] at ex;have e1:=V1 k l d hk h q;have ld:=a3Y hk q
   repeat(first|walk_at "z r" | simp only[a7C,a9Z,b1q,ex,e1,getD_some,ld])
 ·intro d hd;have ex:=er.2 d hd
  repeat(first|walk_at "z r" | simp only[a7C,a7P,ry3,ex,ek_t,ek_1,ek_2,ek_3,ek_4])
abbrev X4:Stmt:=top 53
theorem a0H:FnScope ["one","other"] ["one","other"] (defScope X4):=by walk_at "c"
def Y1 (g:LO):Prop:=∀a b:Int,0<=a->0<=b->g [.int a,.int b]=some (.v (.int (Int.gcd a b:Nat)))
theorem a3Z (m_abs:mg "abs"=none)(F:Fun K "_law_common" "_law_common" X4 f fd)(B:Binds K fd ["one","other"] [])(hm:mg "_law_common"=some (.ref f)):∃g,Fn P w K mg base "_law_common" (k+1) g/\Y1 g:=by
 have nd:=a0H.nd
 refine⟨_,z8 F a0H B hm rfl rfl (fun cdv A outer s H E hr=>(b8 (a6b 0 1 rfl nd (a8 (qx_b a3X a7K m_abs (a8 (a7 0) a9)) (a8 (qx_b a3X a7K m_abs (a8 (a7 1) a9)) a9)) rfl)
  (b8 (a60 qJ (a0w (a7 1) c6) (c7 (a6b 0 1 rfl nd (a8 (a7 1) (a8 (a2Y (a7 0) (a7 1)) a9)) rfl)))
  (c7 (g6 (a7 0)))))),?_⟩
 intro a b ha hb;have a1:(if a<0 then -a else a)=a:=if_neg (by walk_at "o")
 have b1:(if b<0 then -b else b)=b:=if_neg (by walk_at "o")
 have l:=a62 (i:=0) (j:=1) (ρ:=[some (.v (.int a)),some (.v (.int b))]) (by decide) ha hb rfl rfl
 repeat(first|walk_at "z r" | simp only[a1,b1]|rw[l])
def numLD:D->D
 | .str x=>optD (numL x.cps.toList)
 | d=>d
theorem a20 {os:List (Option Int)}(ne:os≠[]):2<os.length\/(os.length<=2/\os.any Option.isNone=true)\/(∃n,os=[some n])\/∃n m,os=[some n,some m]:=by
 match os,ne with
 | [none],_=>exact .inr (.inl ⟨by decide,rfl⟩)
 | [some n],_=>exact .inr (.inr (.inl ⟨n,rfl⟩))
 | [none,_],_=>exact .inr (.inl ⟨by simp,rfl⟩)
 | [some n,none],_=>exact .inr (.inl ⟨by simp,rfl⟩)
 | [some n,some m],_=>exact .inr (.inr (.inr ⟨n,m,rfl⟩))
 | _::_::_::_,_=>exact .inl (by simp)
theorem a17 {s:Int}{cs:List (List Nat)}(h:2<(cs.map numL).length\/(cs.map numL).any Option.isNone=true):ratB s cs=none:=by
 unfold ratB
 split
 ·rename_i e;rw[e] at h;rcases h with h|h<;>simp at h
 ·rename_i e;rw[e] at h;rcases h with h|h<;>simp at h
 ·rfl
abbrev a0i:Stmt:=top 54
theorem a1u:FnScope ["word","bare","sign","parted","numbers"] ["word"] (defScope a0i):=by walk_at "c"
def a2m (g:LO):Prop:=∀l:List Nat,Tx l->g [.str (sO l)]=some (.v (optR (ratL l)))
theorem a4S {A7:LO}{D6:LO}(z3:Fn P w K mg base "_law_number" k A7)(m8:Q7 A7)(G2:Fn P w K mg base "_law_common" k D6)(D4:Y1 D6)(m_len:mg "len"=none)(F:Fun K "_law_ratio" "_law_ratio" a0i f fd)(B:Binds K fd ["word"] [])(hm:mg "_law_ratio"=some (.ref f)):∃g,Fn P w K mg base "_law_ratio" (k+1) g/\a2m g:=by
 have nd:=a1u.nd
 refine⟨_,z8 F a1u B hm rfl rfl (fun cdv A outer s H E hr=>(b8 (l4 1 nd (a7 0))
  (b8 (l4 2 nd c6)
  (b8 (p9 (E2 hr (C7 (a7 0) C4 (A3 c6)) j4) (b8 (l4 1 nd (C7 (a7 0) (A3 c6) C4))
  (c7 (l4 2 nd (a9X c6)))) h7)
  (b8 (l4 3 nd (K0 (a7 1) (a8 j4 a9)))
  (b8 (W7 4 nd (R5 (N:=["part"]) (js:=[none]) (li:=none) rfl (G4 (by exact(.own .nil)) rfl (by exact trivial) (by rfl)) (O1 3) (fun _ _ _ _=>(c8 0 (show((["part"]:List Str)++[accN]).Nodup by decide +kernel))) (fun _ _ _ _=>D0) (fun _ _ _ _=>(g5 z3 hr (a8 (a7 0) a9)))))
  (b8 (p9 (F0 (C8 (a0w (qx_b t7 A9 m_len (a8 (a7 3) a9)) c6) (C8 (a7l hr u7 (a7 4)) (J4 (F0 (Y3 (a5A hr (a7 2) c6) (S9 (E2 hr (t6 (a7 4) c6) c6)))))))) (c7 (g6 u7)) h7)
  (b8 (p9 (E2 hr (qx_b t7 A9 m_len (a8 (a7 3) a9)) c6) (c7 (g6 (K8 (a8 (U8 (a7 2) (t6 (a7 4) c6)) (a8 c6 a9))))) h7)
  (b8 (p9 (F0 (C8 (a5A hr (t6 (a7 4) c6) c6) (J4 (S0 hr (g5 G2 hr (a8 (t6 (a7 4) c6) (a8 (t6 (a7 4) c6) a9))) c6)))) (c7 (g6 u7)) h7)
  (c7 (g6 (K8 (a8 (U8 (a7 2) (t6 (a7 4) c6)) (a8 (t6 (a7 4) c6) a9)))))))))))))),?_⟩
 intro l h;have lb:=h.lim';have z2:(((1:Nat):Int)==1)=true:=rfl;have st:Txt.slice (sO l) none (some 1)=sO (l.take 1):=a6B (by walk_at "o")
 have e1:(sO (l.take 1)==Str.ofString "-")=decide (l.take 1=[45]):=by rw[a29];exact P4 _ _
 by_cases q:l.take 1=[45]
 ·obtain⟨w,rfl⟩:∃w,l=45::w:=by
   cases l with
   | nil=>cases q
   | cons c w=>exact⟨w,by simpa using q⟩
  rw[zC q] at e1;have sl:Txt.slice (sO (45::w)) (some 1) none=sO w:=a0s (l:=45::w) (by walk_at "o")
  have er:ratL (45::w)=ratB (-1) (cutL 47 w):=rfl;have hw:Tx w:=h.drop 1;have es:=P0 (c:=47) hw;rw[<-show Str.ofString "/"=⟨#[47]⟩ from a2C] at es;have hc:∀p∈cutL 47 w,Tx p:=fun p hp=>hw.cut hp;have lc:=J5 (c:=47) w;have hn:=hw.n;have ne:(cutL 47 w).map numL≠[]:=by rw[Ne,map_eq_nil_iff];exact E1 47 w
  have nn:∀n,some n∈(cutL 47 w).map numL->0<=n:=fun n hn=>by obtain⟨p,_,q⟩:=zY.mp hn;exact a3H q
  rw[er];generalize cutL 47 w=cs at es hc lc ne nn ⊢;have lw:=L0 cs;have em:(strL cs).map numLD=(cs.map numL).map optD:=by rw[zQ,zQ];rfl
  have ll:cs.length<=1000000:=by walk_at "o"
  have ds:decide (((-1):Int)<0)=true:=rfl
  repeat(first|walk_at "z r" | simp only[st,sl,e1,lb,es,lw])
  rw[w4 (ρ1:=[some (.v (.str (sO (45::w)))),some (.v (.str (sO w))),some (.v (.int (-1))),some (.o (.lst (strL cs))),none]) (xs:=strL cs) (fun B=>∃o1:Option D,B=[o1.map .v]) (fun _=>true) numLD]
  ·rw[j9];rcases a20 ne with h2|⟨h2,h3⟩|⟨n,hs⟩|⟨n,m,hs⟩
   ·have l1:=N6 (cs.map numL);have n2:decide ((2:Int)<((cs.length:Nat):Int))=true:=zC (by rw[zD] at h2;walk_at "o")
    rw[a17 (.inl h2),em]
    repeat(first|walk_at "z r" | simp only[l1,lw,zD,ll,n2,optR])
   ·have l1:=N6 (cs.map numL);have n2:decide ((2:Int)<((cs.length:Nat):Int))=false:=zB (by rw[zD] at h2;walk_at "o")
    have gi:oInO .non (.lst ((cs.map numL).map optD))=_:=a54;rw[h3] at gi;rw[a17 (.inr h3),em]
    repeat(first|walk_at "z r" | simp only[l1,lw,zD,ll,n2,gi,optR])
   ·have c1:cs.length=1:=by rw[<-zD (f:=numL),hs];rfl
    have n2:decide ((2:Int)<((cs.length:Nat):Int))=false:=zB (by walk_at "o")
    have n3:(((cs.length:Nat):Int)==1)=true:=by rw[c1];rfl
    have gi:oInO .non (.lst [.int n])=some (.v (.bl false)):=rfl;have m1:mOk (-1) n:=.inl (by decide)
    have eb:ratB (-1) cs=if((-1):Int)<0/\n=0 then none else some ((-1)*n,1):=by unfold ratB;rw[hs]
    rw[hs] at em;rw[show(strL cs).map numLD=[.int n] from em,eb]
    by_cases hz:((-1):Int)<0/\n=0
    ·have z0:(n==0)=true:=by simpa using hz.2
     rw[if_pos hz]
     repeat(first|walk_at "z r" | simp only[lw,zD,ll,n2,n3,gi,ds,z0,optR])
    ·rw[if_neg hz];have z0:(n==0)=false:=qM.mpr fun z=>hz ⟨by decide,z⟩
     repeat(first|walk_at "z r" | simp only[z0,lw,zD,ll,n2,n3,gi,ds,m1,optR])
   ·have c1:cs.length=2:=by rw[<-zD (f:=numL),hs];rfl
    have n2:decide ((2:Int)<((cs.length:Nat):Int))=false:=zB (by walk_at "o")
    have n3:(((cs.length:Nat):Int)==1)=false:=by rw[c1];rfl
    have gi:oInO .non (.lst [.int n,.int m])=some (.v (.bl false)):=rfl;have m1:mOk (-1) n:=.inl (by decide)
    have eb:ratB (-1) cs=if(((-1):Int)<0/\n=0)\/m<2\/gcdI n m≠1 then none else some ((-1)*n,m):=by unfold ratB;rw[hs]
    have eg:=D4 n m (nn n (by rw[hs];simp)) (nn m (by rw[hs];simp))
    rw[hs] at em;rw[show(strL cs).map numLD=[.int n,.int m] from em,eb]
    by_cases hz:((-1):Int)<0/\n=0
    ·have z0:(n==0)=true:=by simpa using hz.2
     rw[if_pos (.inl hz)]
     repeat(first|walk_at "z r" | simp only[lw,zD,ll,n2,n3,gi,ds,z0,optR])
    ·by_cases hm:m<2
     ·have d2:decide (m<2)=true:=zC hm;rw[if_pos (.inr (.inl hm))];have z0:(n==0)=false:=qM.mpr fun z=>hz ⟨by decide,z⟩
      repeat(first|walk_at "z r" | simp only[z0,lw,zD,ll,n2,n3,gi,ds,d2,optR])
     ·have d2:decide (m<2)=false:=zB hm
      by_cases hg:gcdI n m=1
      ·have dg:(((Int.gcd n m:Nat):Int)==1)=true:=beq_iff_eq.mpr hg;rw[if_neg fun z=>z.elim hz fun z=>z.elim hm fun z=>z hg];have z0:(n==0)=false:=qM.mpr fun z=>hz ⟨by decide,z⟩
       repeat(first|walk_at "z r" | simp only[z0,lw,zD,ll,n2,n3,gi,ds,d2,eg,dg,m1,optR])
      ·have dg:(((Int.gcd n m:Nat):Int)==1)=false:=qM.mpr hg;rw[if_pos (.inr (.inr hg))];have z0:(n==0)=false:=qM.mpr fun z=>hz ⟨by decide,z⟩
       repeat(first|walk_at "z r" | simp only[z0,lw,zD,ll,n2,n3,gi,ds,d2,eg,dg,optR])
  ·repeat(first|walk_at "z r" | simp only[lw])
  ·rintro _ ⟨_,rfl⟩;rfl
  ·exact⟨none,rfl⟩
  ·rw[zD];unfold lim;exact ll
  ·rw[j9,em];exact N6 _
  ·rintro x hx _ zs ⟨o1,rfl⟩;obtain⟨p,hp,rfl⟩:=zY.mp hx;have e:=m8 p (hc p hp);refine⟨[some (.v (.str (sO p)))],.v (optD (numL p)),⟨some _,rfl⟩,?_,rfl,fun _=>⟨?_,.inl rfl⟩⟩
   ·walk_at "q"
   ·repeat(first|walk_at "z r" | simp only[e,M3])
 ·rw[zB q] at e1;have sl:=True.intro;have er:ratL l=ratB 1 (cutL 47 l):=by
   unfold ratL
   split
   ·exact absurd rfl q
   ·rfl
  have hw:Tx l:=h;have es:=P0 (c:=47) hw;rw[<-show Str.ofString "/"=⟨#[47]⟩ from a2C] at es;have hc:∀p∈cutL 47 l,Tx p:=fun p hp=>hw.cut hp;have lc:=J5 (c:=47) l;have hn:=hw.n;have ne:(cutL 47 l).map numL≠[]:=by rw[Ne,map_eq_nil_iff];exact E1 47 l
  have nn:∀n,some n∈(cutL 47 l).map numL->0<=n:=fun n hn=>by obtain⟨p,_,q⟩:=zY.mp hn;exact a3H q
  rw[er];generalize cutL 47 l=cs at es hc lc ne nn ⊢;have lw:=L0 cs;have em:(strL cs).map numLD=(cs.map numL).map optD:=by rw[zQ,zQ];rfl
  have ll:cs.length<=1000000:=by walk_at "o"
  have ds:decide ((1:Int)<0)=false:=rfl
  repeat(first|walk_at "z r" | simp only[st,sl,e1,lb,es,lw])
  rw[w4 (ρ1:=[some (.v (.str (sO l))),some (.v (.str (sO l))),some (.v (.int 1)),some (.o (.lst (strL cs))),none]) (xs:=strL cs) (fun B=>∃o1:Option D,B=[o1.map .v]) (fun _=>true) numLD]
  ·rw[j9];rcases a20 ne with h2|⟨h2,h3⟩|⟨n,hs⟩|⟨n,m,hs⟩
   ·have l1:=N6 (cs.map numL);have n2:decide ((2:Int)<((cs.length:Nat):Int))=true:=zC (by rw[zD] at h2;walk_at "o")
    rw[a17 (.inl h2),em]
    repeat(first|walk_at "z r" | simp only[l1,lw,zD,ll,n2,optR])
   ·have l1:=N6 (cs.map numL);have n2:decide ((2:Int)<((cs.length:Nat):Int))=false:=zB (by rw[zD] at h2;walk_at "o")
    have gi:oInO .non (.lst ((cs.map numL).map optD))=_:=a54;rw[h3] at gi;rw[a17 (.inr h3),em]
    repeat(first|walk_at "z r" | simp only[l1,lw,zD,ll,n2,gi,optR])
   ·have c1:cs.length=1:=by rw[<-zD (f:=numL),hs];rfl
    have n2:decide ((2:Int)<((cs.length:Nat):Int))=false:=zB (by walk_at "o")
    have n3:(((cs.length:Nat):Int)==1)=true:=by rw[c1];rfl
    have gi:oInO .non (.lst [.int n])=some (.v (.bl false)):=rfl;have m1:mOk 1 n:=.inl (by decide)
    have eb:ratB 1 cs=if(1:Int)<0/\n=0 then none else some (1*n,1):=by unfold ratB;rw[hs]
    rw[hs] at em;rw[show(strL cs).map numLD=[.int n] from em,eb]
    by_cases hz:(1:Int)<0/\n=0
    ·exact absurd hz.1 (by decide)
    ·rw[if_neg hz]
     repeat(first|walk_at "z r" | simp only[lw,zD,ll,n2,n3,gi,ds,m1,optR])
   ·have c1:cs.length=2:=by rw[<-zD (f:=numL),hs];rfl
    have n2:decide ((2:Int)<((cs.length:Nat):Int))=false:=zB (by walk_at "o")
    have n3:(((cs.length:Nat):Int)==1)=false:=by rw[c1];rfl
    have gi:oInO .non (.lst [.int n,.int m])=some (.v (.bl false)):=rfl;have m1:mOk 1 n:=.inl (by decide)
    have eb:ratB 1 cs=if((1:Int)<0/\n=0)\/m<2\/gcdI n m≠1 then none else some (1*n,m):=by unfold ratB;rw[hs]
    have eg:=D4 n m (nn n (by rw[hs];simp)) (nn m (by rw[hs];simp))
    rw[hs] at em;rw[show(strL cs).map numLD=[.int n,.int m] from em,eb]
    by_cases hz:(1:Int)<0/\n=0
    ·exact absurd hz.1 (by decide)
    ·by_cases hm:m<2
     ·have d2:decide (m<2)=true:=zC hm;rw[if_pos (.inr (.inl hm))]
      repeat(first|walk_at "z r" | simp only[lw,zD,ll,n2,n3,gi,ds,d2,optR])
     ·have d2:decide (m<2)=false:=zB hm
      by_cases hg:gcdI n m=1
      ·have dg:(((Int.gcd n m:Nat):Int)==1)=true:=beq_iff_eq.mpr hg;rw[if_neg fun z=>z.elim hz fun z=>z.elim hm fun z=>z hg]
       repeat(first|walk_at "z r" | simp only[lw,zD,ll,n2,n3,gi,ds,d2,eg,dg,m1,optR])
      ·have dg:(((Int.gcd n m:Nat):Int)==1)=false:=qM.mpr hg;rw[if_pos (.inr (.inr hg))]
       repeat(first|walk_at "z r" | simp only[lw,zD,ll,n2,n3,gi,ds,d2,eg,dg,optR])
  ·repeat(first|walk_at "z r" | simp only[lw])
  ·rintro _ ⟨_,rfl⟩;rfl
  ·exact⟨none,rfl⟩
  ·rw[zD];unfold lim;exact ll
  ·rw[j9,em];exact N6 _
  ·rintro x hx _ zs ⟨o1,rfl⟩;obtain⟨p,hp,rfl⟩:=zY.mp hx;have e:=m8 p (hc p hp);refine⟨[some (.v (.str (sO p)))],.v (optD (numL p)),⟨some _,rfl⟩,?_,rfl,fun _=>⟨?_,.inl rfl⟩⟩
   ·walk_at "q"
   ·repeat(first|walk_at "z r" | simp only[e,M3])
def gpL:List (Option Int)->Option (List Int)
 | [some a]=>if 7<a then none else some [a]
 | [some a,some b]=>if 7<max a b\/b<=a then none else some [a,b]
 | _=>none
theorem b1K (l:List Nat):parL l=gpL ((cutL 45 l).map numL):=rfl
theorem a8b {os:List (Option Int)}(h:2<os.length\/os.any Option.isNone=true):gpL os=none:=by
 unfold gpL
 split
 ·rcases h with h|h<;>simp at h
 ·rcases h with h|h<;>simp at h
 ·rfl
abbrev a0t:Stmt:=top 55
theorem a1s:FnScope ["word","parted","people"] ["word"] (defScope a0t):=by walk_at "c"
def a0f (g:LO):Prop:=∀l:List Nat,Tx l->g [.str (sO l)]=some (.v (optP (parL l)))
theorem a4Q {A7:LO}(z3:Fn P w K mg base "_law_number" k A7)(m8:Q7 A7)(t8:mg "tuple"=none)(m_len:mg "len"=none)(m_max:mg "max"=none)(F:Fun K "_law_party" "_law_party" a0t f fd)(B:Binds K fd ["word"] [])(hm:mg "_law_party"=some (.ref f)):∃g,Fn P w K mg base "_law_party" (k+1) g/\a0f g:=by
 have nd:=a1s.nd
 refine⟨_,z8 F a1s B hm rfl rfl (fun cdv A outer s H E hr=>(b8 (l4 1 nd (K0 (a7 0) (a8 j4 a9)))
  (b8 (W7 2 nd (R5 (N:=["part"]) (js:=[none]) (li:=none) rfl (G4 (by exact(.own .nil)) rfl (by exact trivial) (by rfl)) (O1 1) (fun _ _ _ _=>(c8 0 (show((["part"]:List Str)++[accN]).Nodup by decide +kernel))) (fun _ _ _ _=>D0) (fun _ _ _ _=>(g5 z3 hr (a8 (a7 0) a9)))))
  (b8 (p9 (F0 (C8 (a0w (qx_b t7 A9 m_len (a8 (a7 1) a9)) c6) (C8 (a7l hr u7 (a7 2)) (J4 (a0w (qx_b (a8H rfl) b2n m_max (a8 (a7 2) a9)) c6))))) (c7 (g6 u7)) h7)
  (b8 (p9 (F0 (Y3 (E2 hr (qx_b t7 A9 m_len (a8 (a7 2) a9)) c6) (S9 (a94 (t6 (a7 2) c6) (t6 (a7 2) c6))))) (c7 (g6 u7)) h7)
  (c7 (g6 (qx_t D3 T6 t8 (a8 (a7 2) a9))))))))),?_⟩
 intro l h;have es:=P0 (c:=45) h;rw[<-show Str.ofString "-"=⟨#[45]⟩ from a29] at es;have hc:∀p∈cutL 45 l,Tx p:=fun p hp=>h.cut hp;have lc:=J5 (c:=45) l;have hn:=h.n;have ne:(cutL 45 l).map numL≠[]:=by rw[Ne,map_eq_nil_iff];exact E1 45 l
 rw[b1K];generalize cutL 45 l=cs at es hc lc ne ⊢;have lw:=L0 cs;have em:(strL cs).map numLD=(cs.map numL).map optD:=by rw[zQ,zQ];rfl
 have ll:cs.length<=1000000:=by walk_at "o"
 have z1:(((1:Nat):Int)==2)=false:=rfl;have z2:(((2:Nat):Int)==2)=true:=rfl
 repeat(first|walk_at "z r" | simp only[es,lw])
 rw[w4 (ρ1:=[some (.v (.str (sO l))),some (.o (.lst (strL cs))),none]) (xs:=strL cs) (fun B=>∃o1:Option D,B=[o1.map .v]) (fun _=>true) numLD]
 ·rw[j9];rcases a20 ne with h2|⟨h2,h3⟩|⟨n,hs⟩|⟨n,m,hs⟩
  ·have l1:=N6 (cs.map numL);have n2:decide ((2:Int)<((cs.length:Nat):Int))=true:=zC (by rw[zD] at h2;walk_at "o")
   rw[a8b (.inl h2),em]
   repeat(first|walk_at "z r" | simp only[l1,lw,zD,ll,n2,optP])
  ·have l1:=N6 (cs.map numL);have n2:decide ((2:Int)<((cs.length:Nat):Int))=false:=zB (by rw[zD] at h2;walk_at "o")
   have gi:oInO .non (.lst ((cs.map numL).map optD))=_:=a54;rw[h3] at gi;rw[a8b (.inr h3),em]
   repeat(first|walk_at "z r" | simp only[l1,lw,zD,ll,n2,gi,optP])
  ·have n2:decide ((2:Int)<((cs.length:Nat):Int))=false:=zB (by rw[<-zD (f:=numL),hs];exact(by walk_at "o":¬(2:Int)<((1:Nat):Int)))
   have gi:oInO .non (.lst [.int n])=some (.v (.bl false)):=rfl;have gm:gMaxL (.lst [.int n])=some (.v (.int n)):=rfl;rw[hs] at em;rw[show(strL cs).map numLD=[.int n] from em,hs];show _=some (W.v (optP (if 7<n then none else some [n])))
   by_cases q:7<n
   ·have d1:decide ((7:Int)<n)=true:=zC q;rw[if_pos q,show optP none= .non from rfl]
    repeat(first|walk_at "z r" | simp only[lw,zD,ll,n2,gi,gm,d1])
   ·have d1:decide ((7:Int)<n)=false:=zB q;rw[if_neg q,show optP (some [n])= .tup [.int n] from rfl]
    repeat(first|walk_at "z r" | simp only[lw,zD,ll,n2,gi,gm,d1,z1])
  ·have n2:decide ((2:Int)<((cs.length:Nat):Int))=false:=zB (by rw[<-zD (f:=numL),hs];exact(by walk_at "o":¬(2:Int)<((2:Nat):Int)))
   have gi:oInO .non (.lst [.int n,.int m])=some (.v (.bl false)):=rfl;have gm:gMaxL (.lst [.int n,.int m])=some (.v (.int (max n m))):=by
    show some (W.v (.int (if m>n then m else n)))=_;congr 3
    split<;>walk_at "o"
   rw[hs] at em;rw[show(strL cs).map numLD=[.int n,.int m] from em,hs];show _=some (W.v (optP (if 7<max n m\/m<=n then none else some [n,m])))
   by_cases q:7<max n m
   ·have d1:decide ((7:Int)<max n m)=true:=zC q;rw[if_pos (.inl q),show optP none= .non from rfl]
    repeat(first|walk_at "z r" | simp only[lw,zD,ll,n2,gi,gm,d1])
   ·have d1:decide ((7:Int)<max n m)=false:=zB q
    by_cases r:m<=n
    ·have d2:decide (m<=n)=true:=zC r;rw[if_pos (.inr r),show optP none= .non from rfl]
     repeat(first|walk_at "z r" | simp only[lw,zD,ll,n2,gi,gm,d1,z2,d2])
    ·have d2:decide (m<=n)=false:=zB r;rw[if_neg fun z=>z.elim q r,show optP (some [n,m])= .tup [.int n,.int m] from rfl]
     repeat(first|walk_at "z r" | simp only[lw,zD,ll,n2,gi,gm,d1,z2,d2])
 ·repeat(first|walk_at "z r" | simp only[lw])
 ·rintro _ ⟨_,rfl⟩;rfl
 ·exact⟨none,rfl⟩
 ·rw[zD];unfold lim;exact ll
 ·rw[j9,em];exact N6 _
 ·rintro x hx _ zs ⟨o1,rfl⟩;obtain⟨p,hp,rfl⟩:=zY.mp hx;have e:=m8 p (hc p hp);refine⟨[some (.v (.str (sO p)))],.v (optD (numL p)),⟨some _,rfl⟩,?_,rfl,fun _=>⟨?_,.inl rfl⟩⟩
  ·walk_at "q"
  ·repeat(first|walk_at "z r" | simp only[e,M3])
def optL:Option (List D)->D
 | none=>.non
 | some xs=>.tup xs
def rowT (o:List Nat->Option (List D)) (ws:List (List Nat)):Option D:=if 100<ws.length then none else(allO (ws.map o)).map fun r=>.tup (r.map D.tup)
def rowF (o:List Nat->Option (List D)):D->D
 | .str x=>optL (o x.cps.toList)
 | d=>d
abbrev a1N:Stmt:=top 61
theorem a3g:FnScope ["words","one","found"] ["words","one"] (defScope a1N):=by walk_at "c"
def a1F (f:Addr) (gf:LO) (g:LO):Prop:=∀(o:List Nat->Option (List D)) (ws:List (List Nat)),ws≠[]->ws.length<=1000000->(∀p∈ws,gf [.str (sO p)]=some (.v (optL (o p))))->(∀p∈ws,lf (optL (o p))=true)->
 g [.lst (strL ws),.fn f]=some (.v (if ws=[[46]] then .tup [] else(rowT o ws).getD .non))
theorem b2E (ws:List (List Nat))(h:ws≠[]):deqL (deq 19) (strL ws) [.str (Str.ofString ".")]=some (decide (ws=[[46]])):=by
 match ws,h with
 | [w],_=>
  show(some (sO w==Str.ofString ".")).bind (fun p=>(some true).map fun q=>p&&q)=_;rw[b0d,P4];show some (decide (w=[46])&&true)=_;simp
 | w::v::r,_=>
  show(some (sO w==Str.ofString ".")).bind (fun p=>(some false).map fun q=>p&&q)=_;show some (_&&false)=_;simp
theorem a3i {f0:Addr}{g0:LO}(v0:FnV P w K mg base f0 k g0)(t8:mg "tuple"=none)(m_len:mg "len"=none)(F:Fun K "_law_row" "_law_row" a1N f fd)(B:Binds K fd ["words","one"] [])(hm:mg "_law_row"=some (.ref f)):∃g,Fn P w K mg base "_law_row" (k+1) g/\a1F f0 g0 g:=by
 have nd:=a3g.nd
 obtain⟨φ,hφ,v_one⟩:∃φ:Addr->Option (LO),φ f0=some g0/\∀f g,φ f=some g->FnV P w K mg base f k g:=⟨fun f=>if f=f0 then some g0 else none,if_pos rfl,fun f g e=>by
  dsimp only at e;split at e
  ·rename_i z;cases e;rw[z];exact v0
  ·cases e⟩
 refine⟨_,z8 F a3g B hm rfl rfl (fun cdv A outer s H E hr=>(b8 (p9 (E2 hr (a7 0) (E8 (a8 j4 a9))) (c7 (g6 (K8 a9))) h7)
  (b8 (W7 2 nd (R5 (N:=["word","one"]) (js:=[none,some 1]) (li:=none) rfl (G4 (by exact(.own (.cap rfl rfl rfl rfl .nil))) rfl (by exact⟨rfl,trivial⟩) (by rfl)) (O1 0) (fun _ _ _ _=>(c8 0 (show((["word","one"]:List Str)++[accN]).Nodup by decide +kernel))) (fun _ _ _ _=>D0) (fun _ _ _ _=>(a9T 1 v_one hr (a8 (a7 0) a9)))))
  (b8 (p9 (F0 (C8 (a7l hr u7 (a7 2)) (J4 (a0w (qx_b t7 A9 m_len (a8 (a7 2) a9)) c6)))) (c7 (g6 u7)) h7)
  (c7 (g6 (qx_t D3 T6 t8 (a8 (a7 2) a9)))))))),?_⟩
 intro o ws ne ll hg hlf;have dq:=b2E ws ne;have lw:=L0 ws
 by_cases q:ws=[[46]]
 ·rw[zC q] at dq;rw[if_pos q]
  repeat(first|walk_at "z r" | simp only[dq,lw])
 ·rw[zB q] at dq;rw[if_neg q];have em:(strL ws).map (rowF o)=(ws.map o).map optL:=by rw[zQ,zQ];rfl
  have l1:lfL ((ws.map o).map optL)=true:=G9 fun y hy=>by
   rw[zQ] at hy;obtain⟨p,hp,rfl⟩:=zY.mp hy;exact hlf p hp
  repeat(first|walk_at "z r" | simp only[dq,lw])
  rw[w4 (ρ1:=[some (.v (.lst (strL ws))),some (.v (.fn f0)),none]) (xs:=strL ws) (fun B=>∃o1:Option D,B=[o1.map .v,some (.v (.fn f0))]) (fun _=>true) (rowF o)]
  ·rw[j9,em];have gi:oInO .non (.lst ((ws.map o).map optL))=_:=a54;have an:=a2a (ws.map o);unfold rowT;cases h3:(ws.map o).any Option.isNone with
   | true=>
    rw[h3] at gi an;have e0:allO (ws.map o)=none:=by simpa using an
    rw[e0,qN,show(if 100<ws.length then(none:Option D) else none)=none by split<;>rfl,xK]
    repeat(first|walk_at "z r" | simp only[l1,gi])
   | false=>
    rw[h3] at gi an;obtain⟨r,e0⟩:=yC.mp an;have eo:=T2 e0
    by_cases hb:100<ws.length
    ·have n2:decide ((100:Int)<((ws.length:Nat):Int))=true:=zC (by walk_at "o")
     rw[if_pos hb,xK]
     repeat(first|walk_at "z r" | simp only[l1,gi,zD,ll,n2])
    ·have n2:decide ((100:Int)<((ws.length:Nat):Int))=false:=zB (by walk_at "o")
     rw[if_neg hb,e0,qH,getD_some,show r.map D.tup=(ws.map o).map optL by rw[eo,zQ];rfl]
     repeat(first|walk_at "z r" | simp only[l1,gi,zD,ll,n2])
  ·repeat(first|walk_at "z r" | simp only[lw])
  ·rintro _ ⟨_,rfl⟩;rfl
  ·exact⟨none,rfl⟩
  ·rw[zD];unfold lim;exact ll
  ·rw[j9,em];exact l1
  ·rintro x hx _ zs ⟨o1,rfl⟩;obtain⟨p,hp,rfl⟩:=zY.mp hx;have e:=hg p hp;have lk:=hlf p hp;refine⟨[some (.v (.str (sO p))),some (.v (.fn f0))],.v (optL (o p)),⟨some _,rfl⟩,?_,rfl,fun _=>⟨?_,.inl rfl⟩⟩
   ·walk_at "q"
   ·repeat(first|walk_at "z r" | simp only[hφ,e,lk])
theorem b1R {C:Prop}{b:D->FS}{xs:List D}{ρ:Ev}{r:Option R}(e:loopF b xs ρ=r)(I:Nat->Ev->Prop)(Bw:W->Prop)(h0:I 0 ρ)(st:∀i x ρ,xs[i]? =some x->I i ρ->(∃ρ',b x ρ=some (.nx ρ')/\I (i+1) ρ')\/∃w ρ',b x ρ=some (.rt w ρ')/\Bw w)(c1:∀ρ',r=some (.nx ρ')->I xs.length ρ'->C)(c2:∀w ρ',r=some (.rt w ρ')->Bw w->C):C:=by
 have key:∀(ys:List D) (k:Nat) (ρ:Ev),xs.drop k=ys->I k ρ->(∃ρ',loopF b ys ρ=some (.nx ρ')/\I (k+ys.length) ρ')\/∃w ρ',loopF b ys ρ=some (.rt w ρ')/\Bw w:=by
  intro ys
  induction ys with
  | nil=>intro k ρ _ h;exact .inl ⟨ρ,rfl,h⟩
  | cons y ys ih=>
   intro k ρ hd h;have hy:xs[k]? =some y:=by
    have:=jF (fun l=>l[0]?) hd
    rw[List.getElem?_drop] at this;simpa using this
   have hd':xs.drop (k+1)=ys:=by rw[<-drop_drop,hd];rfl
   rcases st k y ρ hy h with ⟨ρ1,e1,i1⟩|⟨w,ρ1,e1,q⟩
   ·rcases ih (k+1) ρ1 hd' i1 with ⟨ρ2,e2,i2⟩|⟨w,ρ2,e2,q⟩
    ·refine .inl ⟨ρ2,by rw[loopF,e1];exact e2,?_⟩
     rw[zU,show k+(ys.length+1)=k+1+ys.length by walk_at "o"];exact i2
    ·exact .inr ⟨w,ρ2,by rw[loopF,e1];exact e2,q⟩
   ·exact .inr ⟨w,ρ1,by rw[loopF,e1];rfl,q⟩
 rcases key xs 0 ρ rfl h0 with ⟨ρ',e1,i⟩|⟨w,ρ',e1,q⟩
 ·exact c1 ρ' (by rw[<-e];exact e1) (by rw[Nat.zero_add] at i;exact i)
 ·exact c2 w ρ' (by rw[<-e];exact e1) q
theorem b2Y {l:List D}{x:D}:atI (l++[x]) (-1)=some x:=by
 unfold atI ixN;rw[zP,jR,if_neg (by decide),if_pos (by walk_at "o"),bind_some,show(-1+((l.length+1:Nat):Int)).toNat=l.length by walk_at "o"]
 simp
theorem ge_pr (s t:T3):oGeT (prD s) (prD t)=some (.v (.bl (!decide (pairLt s t)))):=by
 show some (W.v (.bl (HT.lexGe [s.1,s.2.1] [t.1,t.2.1])))=_
 have:HT.lexGe [s.1,s.2.1] [t.1,t.2.1]= !decide (pairLt s t):=by
  rw[HT.lexGe_cons,HT.lexGe_cons,HT.lexGe_nil_nil];have e:decide (pairLt s t)=decide (s.1<t.1\/(s.1=t.1/\s.2.1<t.2.1)):=decide_eq_decide.mpr Iff.rfl;rw[e]
  by_cases h:s.1=t.1
  ·rw[if_pos h]
   by_cases h2:s.2.1=t.2.1
   ·rw[if_pos h2,zB (by walk_at "o")];rfl
   ·rw[if_neg h2]
    by_cases h3:t.2.1<=s.2.1
    ·rw[zC h3,zB (by walk_at "o")];rfl
    ·rw[zB h3,zC (by walk_at "o")];rfl
  ·rw[if_neg h]
   by_cases h3:t.1<=s.1
   ·rw[zC h3,zB (by walk_at "o")];rfl
   ·rw[zB h3,zC (by walk_at "o")];rfl
 rw[this]
theorem b1H (l:List Nat):webL l=match cutL 32 l with
 | w::v::r=>if w=webC then(numL v).bind fun n=>if 1<=n/\n<=8 then(goL n none r).map fun ts=>(n,ts) else none else none
 | _=>none:=rfl
theorem a27:Tx []:=⟨qK _,fun _ h=>nomatch h⟩
theorem ix1 (a b:D)(r:List D):atI (a::b::r) 1=some b:=a7o (by walk_at "o") rfl
abbrev a1f:Stmt:=top 56
theorem a2p:FnScope ["text","words","people","ties","word","parted","party","gain"] ["text"] (defScope a1f):=by walk_at "c"
def a3q (g:LO):Prop:=∀l:List Nat,Tx l->g [.str (sO l)]=some (.v (optW (webL l)))
theorem a5w {A7:LO}{K2:LO}(z3:Fn P w K mg base "_law_number" k A7)(m8:Q7 A7)(T0:Fn P w K mg base "_law_party" k K2)(C9:a0f K2)(t8:mg "tuple"=none)(m_len:mg "len"=none)(F:Fun K "_law_read" "_law_read" a1f f fd)(B:Binds K fd ["text"] [])(hm:mg "_law_read"=some (.ref f)):∃g,Fn P w K mg base "_law_read" (k+1) g/\a3q g:=by
 have nd:=a2p.nd
 refine⟨_,z8 F a2p B hm rfl rfl (fun cdv A outer s H E hr=>(b8 (l4 1 nd (K0 (a7 0) (a8 j4 a9)))
  (b8 (l4 2 nd (g5 z3 hr (a8 (t6 (C1 (a7 1) (E8 (a8 j4 (a8 j4 a9)))) c6) a9)))
  (b8 (p9 (F0 (C8 (S0 hr (t6 (a7 1) c6) j4) (C8 (a1w (a7 2) u7) (J4 (E3 (a6a c6 (a7 2) c6)))))) (c7 (g6 u7)) h7)
  (b8 (l4 3 nd (E8 a9))
  (b8 (a0d qJ rfl (V7 (R1 (a7 1) (A3 c6) C4)) (c8 4 nd) (b8 (l4 5 nd (K0 (a7 4) (a8 j4 a9)))
  (b8 (l4 6 nd (g5 T0 hr (a8 (t6 (a7 5) c6) a9)))
  (b8 (l4 7 nd (g5 z3 hr (a8 (t6 (C1 (a7 5) (E8 (a8 j4 a9))) c6) a9)))
  (b8 (p9 (F0 (C8 (S0 hr (qx_b t7 A9 m_len (a8 (a7 5) a9)) c6) (C8 (a1w (a7 6) u7) (C8 (a1w (a7 7) u7) (J4 (E3 (a6a c6 (a7 7) (X8 c6 c6)))))))) (c7 (g6 u7)) h7)
  (b8 (p9 (F0 (C8 (S0 hr (qx_b t7 A9 m_len (a8 (a7 6) a9)) c6) (C8 (a94 (t6 (a7 6) c6) (a7 2)) (J4 (F0 (Y3 (S0 hr (a7 3) (E8 a9)) (S9 (b2F hr (R1 (t6 (a7 3) (a9X c6)) C4 (A3 c6)) (a7 6))))))))) (c7 (g6 u7)) h7)
  (c7 (J0 (a1j (a7 3) (a8 (C1 (a7 6) (K8 (a8 (a7 7) a9))) a9))))))))))
  (c7 (g6 (K8 (a8 (a7 2) (a8 (qx_t D3 T6 t8 (a8 (a7 3) a9)) a9))))))))))),?_⟩
 intro l h;have es:=P0 (c:=32) h;rw[<-show Str.ofString " "=⟨#[32]⟩ from S2] at es;have hc:∀p∈cutL 32 l,Tx p:=fun p hp=>h.cut hp;have lc:=J5 (c:=32) l;have hn:=h.n;have ew:∀w:List Nat,(sO w==Str.ofString "web")=decide (w=webC):=fun w=>by rw[a9R];exact P4 _ _
 have ne:=E1 32 l;rw[b1H];generalize cutL 32 l=ws at es hc lc ne ⊢;have lw:=L0 ws;have ll:(strL ws).length<=1000000:=by rw[zD];walk_at "o"
 cases ws with
 | nil=>exact absurd rfl ne
 | cons w ws=>
  have e1:=ew w;rw[zR] at es lw;cases ws with
  | nil=>
   rw[jZ] at es lw;rw[show optW (match[w] with|w::v::r=>if w=webC then(numL v).bind fun n=>if 1<=n/\n<=8 then(goL n none r).map fun ts=>(n,ts) else none else none|_=>none)= .non from rfl]
   have e2:=m8 [] a27;rw[show sO []=Str.ofString "" from a0S.symm,show optD (numL [])= .non from rfl] at e2;cases q:decide (w=webC)<;>rw[q] at e1
   ·repeat(first|walk_at "z r" | simp only[es,lw,e1,e2,ix1])
   ·repeat(first|walk_at "z r" | simp only[es,lw,e1,e2,ix1])
  | cons v r=>
   rw[zR] at es lw;dsimp only;have e2:=m8 v (hc v (by simp))
   have hr:∀p∈r,Tx p:=fun p hp=>hc p (by simp[hp])
   have lr:r.length<=300001:=by simp at lc;walk_at "o"
   have l9:(strL r).length<=999996:=by rw[zD];walk_at "o"
   by_cases hw:w=webC
   case neg=>
    rw[zB hw] at e1;rw[if_neg hw]
    repeat(first|walk_at "z r" | simp only[es,lw,e1,e2,l9,ix1,optW,M3])
   case pos=>
   rw[zC hw] at e1;rw[if_pos hw];cases hv:numL v with
   | none=>
    rw[hv,G3] at e2
    repeat(first|walk_at "z r" | simp only[es,lw,e1,e2,l9,ix1,optW,bind_none])
   | some n=>
    rw[hv,D5] at e2;rw[bind_some]
    by_cases h1:1<=n
    case neg=>
     have d1:decide (1<=n)=false:=zB h1;rw[if_neg fun z=>h1 z.1]
     repeat(first|walk_at "z r" | simp only[es,lw,e1,e2,l9,ix1,optW,d1])
    case pos=>
    have d1:decide (1<=n)=true:=zC h1
    by_cases h8:n<=8
    case neg=>
     have d2:decide (n<=8)=false:=zB h8;rw[if_neg fun z=>h8 z.2]
     repeat(first|walk_at "z r" | simp only[es,lw,e1,e2,l9,ix1,optW,d1,d2])
    case pos=>
    have d2:decide (n<=8)=true:=zC h8;rw[if_pos ⟨h1,h8⟩];have ct:=a8e (.str (sO w)) (.str (sO v)) (strL r);have lw2:=L0 r
    repeat(first|walk_at "z r" | simp only[es,lw,e1,e2,l9,ix1,d1,d2,ct,lw2])
    generalize el:loopF _ _ _=res;refine b1R el (fun i ρ=>∃(ts:List T3) (o4:Option D) (o5:Option (List D)) (o6 o7:Option D),ts.length<=i/\goL n none r=(goL n ts.getLast? (r.drop i)).map (ts ++ ·)/\ρ=[some (.v (.str (sO l))),some (.o (.lst (.str (sO w) :: .str (sO v)::strL r))),some (.v (.int n)),some (.o (.lst (ts.map tiD))),o4.map .v,o5.map fun ds=>.o (.lst ds),o6.map .v,o7.map .v])
     (fun w=>w= .v .non/\goL n none r=none) ⟨[],none,none,none,none,zI _,by simp,rfl⟩ ?_ ?_ ?_
    ·rintro i x _ hx ⟨ts,o4,o5,o6,o7,hl,hg,rfl⟩;rw[qU] at hx;obtain⟨p,hp,rfl⟩:=oms hx;have hi:=(zM.mp hp).1;have tp:=hr p (qS hp);rw[xE hi,show r[i]=p from(zM.mp hp).2,goL] at hg;have es2:=P0 (c:=58) tp;rw[<-show Str.ofString ":"=⟨#[58]⟩ from a6g] at es2;have tc:∀q∈cutL 58 p,Tx q:=fun q hq=>tp.cut hq;have ne2:=E1 58 p;have lc2:=J5 (c:=58) p;have ln2:=tp.n;have te:tieL p=match cutL 58 p with
      | [a,b]=>match parL a,numL b with
       | some [p,q],some g=>if gainOk g then some (p,q,g) else none
       | _,_=>none
      | _=>none:=rfl
     generalize cutL 58 p=cs at es2 tc ne2 te lc2;have lw3:=L0 cs;have cp:CPow 10 12=True:=eq_true (by decide)
     have e12:(10:Int)^Int.toNat 12=10^12:=rfl;have f5:freeO (o5.map fun ds=>W.o (.lst ds))=true:=by cases o5<;>rfl
     match cs,ne2,es2,tc,te,lc2,lw3 with
     | [a],_,es2,tc,te,lc2,lw3=>
      have e3:=C9 a (tc a (by simp))
      have e4:=m8 [] a27;rw[show sO []=Str.ofString "" from a0S.symm,show optD (numL [])= .non from rfl] at e4;have z1:(((1:Nat):Int)==2)=false:=rfl;have lp:=a6S (parL a);rw[zR,jZ] at es2 lw3;refine .inr ⟨.v .non,[some (.v (.str (sO l))),some (.o (.lst (.str (sO w) :: .str (sO v)::strL r))),some (.v (.int n)),some (.o (.lst (ts.map tiD))),some (.v (.str (sO p))),some (.o (.lst [.str (sO a)])),some (.v (optP (parL a))),some (.v .non)],?_,rfl,by rw[hg,te];rfl⟩
      repeat(first|walk_at "z r" | simp only[cp,e12,es2,f5,lw3,e3,e4,ix1,lp,z1])
     | a::b::c::t,_,es2,tc,te,lc2,lw3=>
      have e3:=C9 a (tc a (by simp))
      have e4:=m8 b (tc b (by simp))
      have z1:((((strL t).length+1+1+1:Nat):Int)==2)=false:=qM.mpr (by walk_at "o")
      have lp:=a6S (parL a);have l7:(strL t).length<=999996:=by rw[zD];simp at lc2;walk_at "o"
      rw[zR,zR,zR] at es2 lw3;refine .inr ⟨.v .non,[some (.v (.str (sO l))),some (.o (.lst (.str (sO w) :: .str (sO v)::strL r))),some (.v (.int n)),some (.o (.lst (ts.map tiD))),some (.v (.str (sO p))),some (.o (.lst (.str (sO a) :: .str (sO b) :: .str (sO c)::strL t))),some (.v (optP (parL a))),some (.v (optD (numL b)))],?_,rfl,by rw[hg,te];rfl⟩
      repeat(first|walk_at "z r" | simp only[cp,e12,es2,f5,lw3,e3,e4,l7,ix1,lp,z1,M3])
     | [a,b],_,es2,tc,te,lc2,lw3=>
      have e3:=C9 a (tc a (by simp))
      have e4:=m8 b (tc b (by simp))
      have z2:(((2:Nat):Int)==2)=true:=rfl;have z1:(((1:Nat):Int)==2)=false:=rfl;rw[zR,zR,jZ] at es2 lw3;dsimp only at te;cases qa:parL a with
      | none=>
       rw[qa] at te;rw[qa,show optP none= .non from rfl] at e3;refine .inr ⟨.v .non,[some (.v (.str (sO l))),some (.o (.lst (.str (sO w) :: .str (sO v)::strL r))),some (.v (.int n)),some (.o (.lst (ts.map tiD))),some (.v (.str (sO p))),some (.o (.lst [.str (sO a),.str (sO b)])),some (.v .non),some (.v (optD (numL b)))],?_,rfl,by rw[hg,te];rfl⟩
       repeat(first|walk_at "z r" | simp only[cp,e12,es2,f5,lw3,e3,e4,ix1,z2,M3])
      | some k=>
       rw[qa] at te e3;rcases a5B qa with ⟨x,rfl,_⟩|⟨x,y,rfl,_⟩
       ·rw[show optP (some [x])= .tup [.int x] from rfl] at e3;cases qb:numL b with
        | none=>
         rw[qb,G3] at e4;refine .inr ⟨.v .non,[some (.v (.str (sO l))),some (.o (.lst (.str (sO w) :: .str (sO v)::strL r))),some (.v (.int n)),some (.o (.lst (ts.map tiD))),some (.v (.str (sO p))),some (.o (.lst [.str (sO a),.str (sO b)])),some (.v (.tup [.int x])),some (.v .non)],?_,rfl,by rw[hg,te];rfl⟩
         repeat(first|walk_at "z r" | simp only[cp,e12,es2,f5,lw3,e3,e4,ix1,z2])
        | some g=>
         rw[qb,D5] at e4;cases d3:decide (1<=g)
         ·refine .inr ⟨.v .non,[some (.v (.str (sO l))),some (.o (.lst (.str (sO w) :: .str (sO v)::strL r))),some (.v (.int n)),some (.o (.lst (ts.map tiD))),some (.v (.str (sO p))),some (.o (.lst [.str (sO a),.str (sO b)])),some (.v (.tup [.int x])),some (.v (.int g))],?_,rfl,by rw[hg,te];rfl⟩
          repeat(first|walk_at "z r" | simp only[cp,e12,es2,f5,lw3,e3,e4,ix1,z1,z2,d3])
         ·cases d4:decide (g<=10^12)
          ·refine .inr ⟨.v .non,[some (.v (.str (sO l))),some (.o (.lst (.str (sO w) :: .str (sO v)::strL r))),some (.v (.int n)),some (.o (.lst (ts.map tiD))),some (.v (.str (sO p))),some (.o (.lst [.str (sO a),.str (sO b)])),some (.v (.tup [.int x])),some (.v (.int g))],?_,rfl,by rw[hg,te];rfl⟩
           repeat(first|walk_at "z r" | simp only[cp,e12,es2,f5,lw3,e3,e4,ix1,z1,z2,d3,d4])
          ·refine .inr ⟨.v .non,[some (.v (.str (sO l))),some (.o (.lst (.str (sO w) :: .str (sO v)::strL r))),some (.v (.int n)),some (.o (.lst (ts.map tiD))),some (.v (.str (sO p))),some (.o (.lst [.str (sO a),.str (sO b)])),some (.v (.tup [.int x])),some (.v (.int g))],?_,rfl,by rw[hg,te];rfl⟩
           repeat(first|walk_at "z r" | simp only[cp,e12,es2,f5,lw3,e3,e4,ix1,z1,z2,d3,d4])
       ·rw[show optP (some [x,y])= .tup [.int x,.int y] from rfl] at e3;cases qb:numL b with
        | none=>
         rw[qb,G3] at e4;rw[qb] at te;refine .inr ⟨.v .non,[some (.v (.str (sO l))),some (.o (.lst (.str (sO w) :: .str (sO v)::strL r))),some (.v (.int n)),some (.o (.lst (ts.map tiD))),some (.v (.str (sO p))),some (.o (.lst [.str (sO a),.str (sO b)])),some (.v (.tup [.int x,.int y])),some (.v .non)],?_,rfl,by rw[hg,te];rfl⟩
         repeat(first|walk_at "z r" | simp only[cp,e12,es2,f5,lw3,e3,e4,ix1,z2])
        | some g=>
         rw[qb,D5] at e4;rw[qb] at te;dsimp only at te
         by_cases g1:1<=g
         case neg=>
          have d3:decide (1<=g)=false:=zB g1;rw[if_neg fun z=>g1 z.1] at te;refine .inr ⟨.v .non,[some (.v (.str (sO l))),some (.o (.lst (.str (sO w) :: .str (sO v)::strL r))),some (.v (.int n)),some (.o (.lst (ts.map tiD))),some (.v (.str (sO p))),some (.o (.lst [.str (sO a),.str (sO b)])),some (.v (.tup [.int x,.int y])),some (.v (.int g))],?_,rfl,by rw[hg,te];rfl⟩
          repeat(first|walk_at "z r" | simp only[cp,e12,es2,f5,lw3,e3,e4,ix1,z2,d3])
         case pos=>
         have d3:decide (1<=g)=true:=zC g1
         by_cases g2:g<=10^12
         case neg=>
          have d4:decide (g<=10^12)=false:=zB g2;rw[if_neg fun z=>g2 z.2] at te;refine .inr ⟨.v .non,[some (.v (.str (sO l))),some (.o (.lst (.str (sO w) :: .str (sO v)::strL r))),some (.v (.int n)),some (.o (.lst (ts.map tiD))),some (.v (.str (sO p))),some (.o (.lst [.str (sO a),.str (sO b)])),some (.v (.tup [.int x,.int y])),some (.v (.int g))],?_,rfl,by rw[hg,te];rfl⟩
          repeat(first|walk_at "z r" | simp only[cp,e12,es2,f5,lw3,e3,e4,ix1,z2,d3,d4])
         case pos=>
         have d4:decide (g<=10^12)=true:=zC g2;rw[if_pos ⟨g1,g2⟩] at te;rw[te,bind_some] at hg
         by_cases hy:y<n
         case neg=>
          have d5:decide (n<=y)=true:=zC (by walk_at "o")
          rw[if_neg fun z=>hy z.1] at hg;refine .inr ⟨.v .non,[some (.v (.str (sO l))),some (.o (.lst (.str (sO w) :: .str (sO v)::strL r))),some (.v (.int n)),some (.o (.lst (ts.map tiD))),some (.v (.str (sO p))),some (.o (.lst [.str (sO a),.str (sO b)])),some (.v (.tup [.int x,.int y])),some (.v (.int g))],?_,rfl,hg⟩
          repeat(first|walk_at "z r" | simp only[cp,e12,es2,f5,lw3,e3,e4,ix1,z2,d3,d4,d5])
         case pos=>
         have d5:decide (n<=y)=false:=zB (by walk_at "o")
         have nn:(([D.int x,D.int y]:List D)≠[])=True:=eq_true nofun
         have l6:(ts.length<1000000)=True:=eq_true (by walk_at "o")
         rcases List.eq_nil_or_concat ts with rfl|⟨ts',s,ec⟩
         ·rw[if_pos ⟨hy,fun _ z=>nomatch z⟩] at hg;refine .inl ⟨[some (.v (.str (sO l))),some (.o (.lst (.str (sO w) :: .str (sO v)::strL r))),some (.v (.int n)),some (.o (.lst [.tup [.int x,.int y,.int g]])),some (.v (.str (sO p))),some (.o (.lst [.str (sO a),.str (sO b)])),some (.v (.tup [.int x,.int y])),some (.v (.int g))],?_,[(x,y,g)],some (.str (sO p)),some [.str (sO a),.str (sO b)],some (.tup [.int x,.int y]),some (.int g),by simp,by rw[hg,Option.map_map];rfl,rfl⟩
          have l0:((0:Nat)<1000000)=True:=eq_true (by walk_at "o")
          repeat(first|walk_at "z r" | simp only[cp,e12,es2,f5,lw3,e3,e4,ix1,z2,d3,d4,d5,nn,l0,qT])
         ·rw[List.concat_eq_append] at ec;subst ec;have la:atI ((ts'++[s]).map tiD) (-1)=some (.tup [.int s.1,.int s.2.1,.int s.2.2]):=by rw[map_append];exact b2Y
          have dn:deqL (deq 19) ((ts'++[s]).map tiD) []=some false:=by cases ts'<;>rfl
          have ge:oGeT (.tup [.int s.1,.int s.2.1]) (.tup [.int x,.int y])=some (.v (.bl (!decide (pairLt s (x,y,g))))):=ge_pr s (x,y,g);have gl:(ts'++[s]).getLast? =some s:=by simp
          have l8:((ts'++[s]).map tiD).length<1000000:=by rw[zD];walk_at "o"
          have lt0:lfL ((ts'++[s]).map tiD)=true:=G9 fun y hy=>by obtain⟨o,_,rfl⟩:=zY.mp hy;rfl
          rw[gl] at hg
          by_cases hp:pairLt s (x,y,g)
          ·rw[zC hp] at ge;rw[if_pos ⟨hy,fun _ z=>by cases z;exact hp⟩] at hg
           refine .inl ⟨[some (.v (.str (sO l))),some (.o (.lst (.str (sO w) :: .str (sO v)::strL r))),some (.v (.int n)),some (.o (.lst ((ts'++[s]).map tiD++[.tup [.int x,.int y,.int g]]))),some (.v (.str (sO p))),some (.o (.lst [.str (sO a),.str (sO b)])),some (.v (.tup [.int x,.int y])),some (.v (.int g))],?_,ts'++[s]++[(x,y,g)],some (.str (sO p)),some [.str (sO a),.str (sO b)],some (.tup [.int x,.int y]),some (.int g),?_,?_,?_⟩
           ·generalize (ts'++[s]).map tiD=tm at la dn lt0 l8 ⊢
            repeat(first|walk_at "z r" | simp only[cp,e12,es2,f5,lw3,e3,e4,ix1,z2,d3,d4,d5,nn,la,dn,ge,a7k,lt0,l8,qT])
           ·rw[zP,jR];walk_at "o"
           ·rw[hg,Option.map_map,show(ts'++[s]++[(x,y,g)]).getLast? =some (x,y,g) by simp]
            congr 1
            funext z
            simp
           ·rw[map_append (l₂:=[(x,y,g)])];rfl
          ·rw[zB hp] at ge;rw[if_neg fun z=>hp (z.2 s rfl)] at hg;generalize (ts'++[s]).map tiD=tm at la dn lt0 l8 ⊢;refine .inr ⟨.v .non,[some (.v (.str (sO l))),some (.o (.lst (.str (sO w) :: .str (sO v)::strL r))),some (.v (.int n)),some (.o (.lst tm)),some (.v (.str (sO p))),some (.o (.lst [.str (sO a),.str (sO b)])),some (.v (.tup [.int x,.int y])),some (.v (.int g))],?_,rfl,hg⟩
           repeat(first|walk_at "z r" | simp only[cp,e12,es2,f5,lw3,e3,e4,ix1,z2,d3,d4,d5,nn,la,dn,ge,a7k,lt0,qT])
    ·rintro ρ' rfl ⟨ts,o4,o5,o6,o7,hl,hg,rfl⟩;rw[show(strL r).length=r.length from zD ..,drop_length,goL,qH,jT] at hg;rw[hg];have lt:lfL (ts.map tiD)=true:=G9 fun y hy=>by obtain⟨o,_,rfl⟩:=zY.mp hy;rfl
     repeat(first|walk_at "z r" | simp only[lt,qH,optW])
    ·rintro w ρ' rfl ⟨rfl,hg⟩;rw[hg]
     repeat(first|walk_at "z r" | simp only[qN,optW])
theorem a3V {α β γ:Type}(f:α->Option β)(m:β->γ):∀ws:List α,allO (ws.map fun p=>(f p).map m)=(allO (ws.map f)).map (List.map m)
 | []=>rfl
 | p::ws=>by
  rw[zR,zR];cases f p with
  | none=>rfl
  | some b=>
   show(allO (ws.map fun p=>(f p).map m)).map (m b :: ·)=((allO (ws.map f)).map (b :: ·)).map (List.map m);rw[a3V f m ws];cases allO (ws.map f)<;>rfl
theorem a78 {l:List Nat}(e:cutL 32 l=[[46]]):l=[46]:=by
 have:=a2A (c:=32) l
 rw[e] at this;exact this.symm
def posF:D->Bool
 | .tup [.int a,_]=>decide (0<=a)
 | _=>false
theorem b2q (rs:List (Int×Int)):(rs.map rD).all posF=rs.all fun p=>decide (0<=p.1):=by rw[all_map];rfl
def oRat (p:List Nat):Option (List D):=(ratI p).map fun r=>[.int r.1,.int r.2]
def oPar (p:List Nat):Option (List D):=(parI p).map fun k=>k.map .int
theorem rowRat (ws:List (List Nat)):rowT oRat ws=if 100<ws.length then none else(allO (ws.map ratI)).map fun rs=>.tup (rs.map rD):=by
 unfold rowT;rw[show ws.map oRat=ws.map fun p=>(ratI p).map fun r=>[D.int r.1,D.int r.2] from rfl,a3V];cases allO (ws.map ratI) with
 | none=>rfl
 | some rs=>rw[qH,qH,qH,zQ];rfl
theorem rowPar (ws:List (List Nat)):rowT oPar ws=if 100<ws.length then none else(allO (ws.map parI)).map fun ks=>.tup (ks.map tupI):=by
 unfold rowT;rw[show ws.map oPar=ws.map fun p=>(parI p).map fun k=>k.map D.int from rfl,a3V];cases allO (ws.map parI) with
 | none=>rfl
 | some rs=>rw[qH,qH,qH,zQ];rfl
abbrev a1K:Stmt:=top 65
theorem a3n:FnScope ["kind","text","found"] ["kind","text"] (defScope a1K):=by walk_at "c"
def a3N (g:LO):Prop:=∀(k:Int) (l:List Nat),K4 k->Tx l->g [.int k,.str (sO l)]=some (.v ((rdD k l).getD .non))
theorem a6k {a1 a2:Addr}{S3 K2 g1 g2 a0L:LO}(S4:Fn P w K mg base "_law_ratio" k S3)(S7:a2m S3)(C9:a0f K2)(h__law_row__law_ratio:Fn P w K mg base "_law_row" k g1)(er1:a1F a1 S3 g1)(h__law_row__law_party:Fn P w K mg base "_law_row" k g2)(er2:a1F a2 K2 g2)
  (a0Y:Fn P w K mg base "_law_read" k a0L) (a0I:a3q a0L) (v__law_ratio:mg "_law_ratio"=some (.ref a1)) (v__law_party:mg "_law_party"=some (.ref a2)) (m_all:mg "all"=none) (F:Fun K "_law_due" "_law_due" a1K f fd) (B:Binds K fd ["kind","text"] []) (hm:mg "_law_due"=some (.ref f)):∃g,Fn P w K mg base "_law_due" (k+1) g/\a3N g:=by
 have nd:=a3n.nd
 refine⟨_,z8 F a3n B hm rfl rfl (fun cdv A outer s H E hr=>(b8 (p9 (E2 hr (a7 0) c6) (c7 (g6 (g5 S4 hr (a8 (a7 1) a9)))) h7)
  (b8 (p9 (E2 hr (a7 0) c6) (b8 (l4 2 nd (g5 h__law_row__law_ratio hr (a8 (K0 (a7 1) (a8 j4 a9)) (a8 (b0q v__law_ratio) a9))))
  (b8 (p9 (F0 (C8 (a1w (a7 2) u7) (J4 (E3 (B8 (qx_b (Y4 rfl) V4 m_all (a8 (S6 (N:=["one"]) (js:=[none]) (li:=none) rfl (G4 (by exact(.own .nil)) rfl (by exact trivial) (by rfl)) (O1 2) (fun _ _ _ _=>(c8 0 (show((["one"]:List Str)++[accN]).Nodup by decide +kernel))) (fun _ _ _ _=>D0) (fun _ _ _ _=>(qx_ge (t6 (a7 0) c6) c6))) a9))))))) (c7 (g6 u7)) h7)
  (c7 (g6 (a7 2))))) h7)
  (b8 (p9 (E2 hr (a7 0) c6) (c7 (g6 (g5 h__law_row__law_party hr (a8 (K0 (a7 1) (a8 j4 a9)) (a8 (b0q v__law_party) a9))))) h7)
  (c7 (g6 (g5 a0Y hr (a8 (a7 1) a9)))))))),?_⟩
 intro k l hk h;have es:=P0 (c:=32) h;rw[<-show Str.ofString " "=⟨#[32]⟩ from S2] at es;have lw:=L0 (cutL 32 l);have ne:=E1 32 l;have lc:=J5 (c:=32) l;have hn:=h.n;rcases hk with rfl|rfl|rfl|rfl
 ·have e1:=S7 l h;rw[<-a6H,show optR (ratI l)=(rdD 0 l).getD .non by show _=((ratI l).map rD).getD D.non;cases ratI l<;>rfl] at e1
  have lk:lf ((rdD 0 l).getD .non)=true:=by
   cases q:rdD 0 l with
   | none=>rfl
   | some d=>exact a3Y (.inl rfl) q
  repeat(first|walk_at "z r" | simp only[b00,e1,lk])
 ·have e1:=er1 oRat (cutL 32 l) ne (by walk_at "o") (fun p hp=>by
   rw[S7 p (h.cut hp),<-a6H];unfold oRat
   cases ratI p<;>rfl) (fun p _=>by unfold oRat;cases ratI p<;>rfl)
  by_cases q:cutL 32 l=[[46]]
  ·rw[if_pos q] at e1;have e0:rdD 1 l=some (.tup []):=by rw[a78 q];rfl
   rw[e0,getD_some];have gb:gBools (fun bs=>bs.all id) (.lst [])=some (.v (.bl true)):=rfl
   repeat(first|walk_at "z r" | simp only[b10,b11,es,lw,e1])
   rw[w4 (ρ1:=[some (.v (.int 1)),some (.v (.str (sO l))),some (.v (.tup []))]) (xs:=[]) (fun B=>∃o1:Option D,B=[o1.map .v]) (fun _=>true) (fun d=>d)]
   ·rw[j9,jZ]
    repeat(first|walk_at "z r" | simp only[gb])
   ·walk_at "q"
   ·rintro _ ⟨_,rfl⟩;rfl
   ·exact⟨none,rfl⟩
   ·exact qK _
   ·rfl
   ·intro x hx;cases hx
  ·rw[if_neg q,rowRat] at e1;have er:rowL l=cutL 32 l:=if_neg fun z=>q (by rw[z];rfl)
   have e0:rdD 1 l=(if 100<(cutL 32 l).length then none else(allO ((cutL 32 l).map ratI)).bind fun rs=>if rs.all (fun p=>decide (0<=p.1))=true then some rs else none).map fun rs=>.tup (rs.map rD):=by
    show(ratsI l).map _=_;unfold ratsI;rw[er]
   rw[e0];generalize cutL 32 l=ws at es lw e1 lc
   by_cases hb:100<ws.length
   ·rw[if_pos hb,xK] at e1;rw[if_pos hb,qN,xK]
    repeat(first|walk_at "z r" | simp only[b10,b11,es,lw,e1])
   ·rw[if_neg hb] at e1;rw[if_neg hb];cases ha:allO (ws.map ratI) with
    | none=>
     rw[ha,qN,xK] at e1;rw[bind_none,qN,xK]
     repeat(first|walk_at "z r" | simp only[b10,b11,es,lw,e1])
    | some rs=>
     rw[ha,qH,getD_some] at e1;rw[bind_some];have l1:=a25 rs;have eo:=T2 ha;have lm2:(rs.map rD).length<=1000000:=by rw[zD,<-zD (f:=some),<-eo,zD];walk_at "o"
     repeat(first|walk_at "z r" | simp only[b10,b11,es,lw,e1,l1])
     rw[w4 (ρ1:=[some (.v (.int 1)),some (.v (.str (sO l))),some (.v (.tup (rs.map rD)))]) (xs:=rs.map rD) (fun B=>∃o1:Option D,B=[o1.map .v]) (fun _=>true) (fun d=>.bl (posF d))]
     ·rw[j9];have gb:=a1Z (r:=fun bs=>bs.all id) (J8 posF (rs.map rD));rw[T9,b2q] at gb;cases hp:rs.all fun p=>decide (0<=p.1) with
      | true=>
       rw[hp] at gb;rw[if_pos rfl,qH,getD_some]
       repeat(first|walk_at "z r" | simp only[gb,l1])
      | false=>
       rw[hp] at gb;rw[if_neg (by simp),qN,xK]
       repeat(first|walk_at "z r" | simp only[gb,l1])
     ·repeat(first|walk_at "z r" | simp only[l1])
     ·rintro _ ⟨_,rfl⟩;rfl
     ·exact⟨none,rfl⟩
     ·unfold lim;exact lm2
     ·exact a0Q _ _
     ·rintro x hx _ zs ⟨o1,rfl⟩;obtain⟨p,_,rfl⟩:=zY.mp hx;refine⟨[some (.v (rD p))],.v (.bl (decide (0<=p.1))),⟨some _,rfl⟩,?_,rfl,fun _=>⟨?_,.inl rfl⟩⟩
      ·walk_at "q"
      ·walk_at "q"
 ·have e1:=er2 oPar (cutL 32 l) ne (by walk_at "o") (fun p hp=>by
   rw[C9 p (h.cut hp),<-a2j];unfold oPar;cases parI p<;>rfl) (fun p _=>by
   unfold oPar;cases parI p with
   | none=>rfl
   | some k=>exact a4v k)
  have e0:(if cutL 32 l=[[46]] then D.tup [] else(rowT oPar (cutL 32 l)).getD .non)=(rdD 2 l).getD .non:=by
   by_cases q:cutL 32 l=[[46]]
   ·rw[if_pos q,a78 q];rfl
   ·have er:rowL l=cutL 32 l:=if_neg fun z=>q (by rw[z];rfl)
    rw[if_neg q,rowPar];show _=((parsI l).map fun ks=>D.tup (ks.map tupI)).getD D.non;unfold parsI;rw[er]
    split<;>rfl
  rw[e0] at e1;have lk:lf ((rdD 2 l).getD .non)=true:=by
   cases q:rdD 2 l with
   | none=>rfl
   | some d=>exact a3Y (.inr (.inr (.inl rfl))) q
  repeat(first|walk_at "z r" | simp only[b20,b21,b22,es,lw,e1,lk])
 ·have e1:=a0I l h;rw[<-a95,show optW (webI l)=(rdD 3 l).getD .non by show _=((webI l).map fun p=>D.tup [.int p.1,.tup (p.2.map tiD)]).getD D.non;cases webI l<;>rfl] at e1
  have lk:lf ((rdD 3 l).getD .non)=true:=by
   cases q:rdD 3 l with
   | none=>rfl
   | some d=>exact a3Y (.inr (.inr (.inr rfl))) q
  repeat(first|walk_at "z r" | simp only[b30,b31,b32,e1,lk])
abbrev a0X:Stmt:=top 49
theorem a2c:FnScope ["script","k"] ["script","k"] (defScope a0X):=by walk_at "c"
def a3t (g:LO):Prop:=∀(ns:List Int) (k:Nat),ns.length<=63->k<=63->∃m:Int,g [.lst (ns.map D.int),.int k]=some (.v (.int m))
theorem a6d (m_len:mg "len"=none)(F:Fun K "_law_cell" "_law_cell" a0X f fd)(B:Binds K fd ["script","k"] [])(hm:mg "_law_cell"=some (.ref f)):∃g,Fn P w K mg base "_law_cell" (k+1) g/\a3t g:=by
 have nd:=a2c.nd
 refine⟨_,z8 F a2c B hm rfl rfl (fun cdv A outer s H E hr=>(b8 (p9 (a5A hr (a7 1) (qx_b t7 A9 m_len (a8 (a7 0) a9))) (c7 (g6 (t6 (a7 0) (a7 1)))) h7)
  (c7 (g6 c6)))),?_⟩
 intro ns k hl hk
 by_cases h:k<ns.length
 ·have h':decide ((k:Int)<(ns.length:Int))=true:=zC (by walk_at "o")
  have ha:atI (ns.map D.int) (k:Int)=some (.int ns[k]):=by
   unfold atI ixN;rw[zD];simp[h]
  refine⟨ns[k],?_⟩
  repeat(first|walk_at "z r" | simp only[zD,h',ha])
 ·have h':decide ((k:Int)<(ns.length:Int))=false:=zB (by walk_at "o")
  refine⟨0,?_⟩
  repeat(first|walk_at "z r" | simp only[zD,h'])
abbrev a05:Stmt:=top 50
theorem a15:FnScope ["cell","salt","one","number","j"] ["cell","salt"] (defScope a05):=by walk_at "c"
def a3s (g:LO):Prop:=∀(c:Int),∃m:Int,g [.int c,.int 1]=some (.v (.int m))
theorem a5M (G5:mg "range"=none)(F:Fun K "_law_deal" "_law_deal" a05 f fd)(B:Binds K fd ["cell","salt"] [])(hm:mg "_law_deal"=some (.ref f)):∃g,Fn P w K mg base "_law_deal" (k+1) g/\a3s g:=by
 have nd:=a15.nd
 refine⟨_,z8 F a15 B hm rfl rfl (fun cdv A outer s H E hr=>(b8 (p9 (a94 (a7 0) (X8 c6 c6)) (c7 (g6 (a7f (a7 0) (X8 c6 c6)))) h7)
  (b8 (l4 2 nd (a2Y (a7 0) c6))
  (b8 (l4 3 nd c6)
  (b8 (a0d qJ rfl (a6x G5 (a8 c6 a9)) (c8 4 nd) (b8 (l4 2 nd (a2Y (U8 (C1 (C1 (C1 (a7 2) (U8 (U8 c6 (a7 4)) (a7 4))) (U8 c6 (a7 1))) c6) c6) c6))
  (b8 (l4 2 nd (a2Y (U8 (a7 2) (a7 2)) c6))
  (c7 (l4 3 nd (C1 (U8 (a7 3) c6) (a5G (a2Y (U8 (a7 2) c6) c6) c6)))))))
  (c7 (g6 (a7 3)))))))),?_⟩
 intro c;have pw:CPow 10 18:=by decide
 by_cases h:(10:Int)^(18:Int).toNat<=c
 ·have h':decide ((10:Int)^(18:Int).toNat<=c)=true:=zC h;refine⟨c-10^(18:Int).toNat,?_⟩
  repeat(first|walk_at "z r" | simp only[pw,h'])
 ·have h':decide ((10:Int)^(18:Int).toNat<=c)=false:=zB h;have c0:(0:Int)<2147483629:=by decide
  have c1:(0:Int)<2147483647:=by decide
  have c2:(0:Int)<2147483587:=by decide
  have c3:dOk 7:=z7 (by decide) (by decide)
  have d0:dOk 2147483629:=z7 (by decide) (by decide)
  have r1:(-(2^62:Int)<=30/\(30:Int)<2^62):=by walk_at "o"
  repeat(first|walk_at "z r" | simp only[pw,h',c0,c1,c2,c3,d0,r1])
  generalize el:loopF _ _ _=r;refine a1i el (fun i ρ=>∃(a b:Int) (o:Option D),ρ=[some (.v (.int c)),some (.v (.int 1)),some (.v (.int a)),some (.v (.int b)),o.map .v]) ⟨_,0,none,rfl⟩ ?_ ?_
  ·rintro i x _ hx ⟨a,b,o,rfl⟩;obtain⟨rfl,hi⟩:=a2T hx;have p1:mOk 17 (0+(i:Int)):=.inl (by decide)
   have p2:mOk (17*(0+(i:Int))) (0+(i:Int)):=.inr (.inl (by walk_at "o"))
   have p3:∀a:Int,mOk a 48271:=fun a=>.inr (.inl (by decide))
   have p4:∀a:Int,mOk (a%2147483647) (a%2147483647):=fun a=>.inl (by
    have:=qE a (b:=2147483647) (by decide)
    have:=zZ a (b:=2147483647) (by decide)
    walk_at "o")
   have p5:∀a:Int,mOk a 998244353:=fun a=>.inr (.inl (by decide))
   have p6:∀a:Int,mOk a 69621:=fun a=>.inr (.inl (by decide))
   have p7:mOk 29 1:=.inl (by decide)
   refine⟨?_,?_,?_⟩
   rotate_left
   ·repeat(first|walk_at "z r" | simp only[c0,c1,c2,c3,p1,p2,p3,p4,p5,p6,p7])
    rfl
   ·exact⟨_,_,some (.int (0+(i:Int))),rfl⟩
  ·rintro _ rfl ⟨a,b,o,rfl⟩;refine⟨b,?_⟩;walk_at "q"
structure ROk (p:Int×Int):Prop where
 t:p.1.natAbs<10^60
 b:p.2.natAbs<10^60
 pos:0<p.2
 low:Int.gcd p.1 p.2=1
abbrev O9:Stmt:=top 58
theorem T7:FnScope ["number","way","top","bottom","by"] ["number"] (defScope O9):=by walk_at "c"
def V9 (g:LO):Prop:=∀m:Int,∃(p:Int×Int) (m':Int),(ROk p/\0<=p.1)/\g [.int m]=some (.v (.tup [rD p,.int m']))
theorem a1Q {D6:LO}(G2:Fn P w K mg base "_law_common" k D6)(D4:Y1 D6)(l5:mg "divmod"=none)(F:Fun K "_law_some_ratio" "_law_some_ratio" O9 f fd)(B:Binds K fd ["number"] [])(hm:mg "_law_some_ratio"=some (.ref f)):∃g,Fn P w K mg base "_law_some_ratio" (k+1) g/\V9 g:=by
 have nd:=T7.nd
 refine⟨_,z8 F T7 B hm rfl rfl (fun cdv A outer s H E hr=>(b8 (w9 (u4 l5 (a8 (a7 0) (a8 c6 a9))) (z6 rfl (c9 (c8 0 nd) (c9 (c8 1 nd) t5))))
  (b8 (w9 (u4 l5 (a8 (a7 0) (a8 (t6 (E8 (a8 c6 (a8 c6 (a8 (X8 c6 c6) (a8 (X8 c6 c6) (a8 (X8 c6 c6) a9)))))) (a7 1)) a9))) (z6 rfl (c9 (c8 0 nd) (c9 (c8 2 nd) t5))))
  (b8 (w9 (u4 l5 (a8 (a7 0) (a8 (t6 (E8 (a8 c6 (a8 c6 (a8 (X8 c6 c6) (a8 (a7f (X8 c6 c6) c6) (a8 c6 a9)))))) (a7 1)) a9))) (z6 rfl (c9 (c8 0 nd) (c9 (c8 3 nd) t5))))
  (b8 (l4 4 nd (g5 G2 hr (a8 (a7 2) (a8 (C1 (a7 3) c6) a9))))
  (c7 (g6 (K8 (a8 (K8 (a8 (a5G (a7 2) (a7 4)) (a8 (a5G (C1 (a7 3) c6) (a7 4)) a9))) (a8 (a7 0) a9)))))))))),?_⟩
 intro m;have p12:CPow 10 12:=by decide
 have p60:CPow 10 60:=by decide
 have h0:=qE m (b:=5) (by decide)
 have h5:=zZ m (b:=5) (by decide)
 have dm5:=r_dm (m:=m) (n:=5) (z7 (by decide) (by decide))
 have z1:(10:Int)^(12:Int).toNat=10^12:=rfl;have z2:(10:Int)^(60:Int).toNat=10^60:=rfl;have d60:dOk ((10:Int)^60):=⟨by decide,zF (by decide:((10:Int)^60).natAbs<2^200) (qL (by decide) (by decide))⟩
 have d59:dOk ((10:Int)^60-1):=⟨by decide,zF (by decide:((10:Int)^60-1).natAbs<2^200) (qL (by decide) (by decide))⟩
 have key:∀a b:Int,0<=a->a<10^60->0<=b->b<10^60-1->ROk (a/(Int.gcd a (b+1):Nat),(b+1)/(Int.gcd a (b+1):Nat))/\0<=a/((Int.gcd a (b+1):Nat):Int):=fun a b a0 a1 b0 b1=>by
  have gp:0<Int.gcd a (b+1):=Int.gcd_pos_of_ne_zero_right _ (by walk_at "o")
  have gi:(0:Int)<((Int.gcd a (b+1):Nat):Int):=by walk_at "o"
  have dv:((Int.gcd a (b+1):Nat):Int) ∣ b+1:=Int.gcd_dvd_right _ _;have t0:0<=a/((Int.gcd a (b+1):Nat):Int):=Int.ediv_nonneg a0 (by walk_at "o")
  have t1:a/((Int.gcd a (b+1):Nat):Int)<=a:=Int.ediv_le_self _ a0;have u1:(b+1)/((Int.gcd a (b+1):Nat):Int)<=b+1:=Int.ediv_le_self _ (by walk_at "o")
  have u0:0<(b+1)/((Int.gcd a (b+1):Nat):Int):=Int.ediv_pos_of_pos_of_dvd (by walk_at "o") (by walk_at "o") dv
  refine⟨⟨?_,?_,u0,?_⟩,t0⟩
  ·have:a/((Int.gcd a (b+1):Nat):Int)<10^60:=by walk_at "o"
   show(a/((Int.gcd a (b+1):Nat):Int)).natAbs<10^60;walk_at "o"
  ·show((b+1)/((Int.gcd a (b+1):Nat):Int)).natAbs<10^60;walk_at "o"
  ·exact Int.gcd_ediv_gcd_ediv_gcd gp
 have fin:∀T B:Int,dOk T->dOk B->T<=10^60->B<=10^60-1->(ROk (m/5%T/(Int.gcd (m/5%T) (m/5/T%B+1):Nat),(m/5/T%B+1)/(Int.gcd (m/5%T) (m/5/T%B+1):Nat))/\0<=m/5%T/((Int.gcd (m/5%T) (m/5/T%B+1):Nat):Int))/\
   D6 [.int (m/5%T),.int (m/5/T%B+1)]=some (.v (.int (Int.gcd (m/5%T) (m/5/T%B+1):Nat)))/\dOk (Int.gcd (m/5%T) (m/5/T%B+1):Nat)/\gDivmod [.int (m/5),.int T]=some (.v (.tup [.int (m/5/T),.int (m/5%T)]))/\gDivmod [.int (m/5/T),.int B]=some (.v (.tup [.int (m/5/T/B),.int (m/5/T%B)])):=fun T B hT hB t60 b60=>by
  have a0:=qE (m/5) (b:=T) (by have:=hT.1;walk_at "o")
  have a1:=zZ (m/5) hT.1;have b0:=qE (m/5/T) (b:=B) (by have:=hB.1;walk_at "o")
  have b1:=zZ (m/5/T) hB.1;have gp:0<Int.gcd (m/5%T) (m/5/T%B+1):=Int.gcd_pos_of_ne_zero_right _ (by walk_at "o")
  have gl:((Int.gcd (m/5%T) (m/5/T%B+1):Nat):Int)<=m/5/T%B+1:=Int.le_of_dvd (by walk_at "o") (Int.gcd_dvd_right _ _)
  refine⟨key _ _ a0 (by walk_at "o") b0 (by walk_at "o"),D4 _ _ a0 (by walk_at "o"),⟨by walk_at "o",?_⟩,r_dm hT,r_dm hB⟩
  refine zF (?_:_<2^220) (qL (by decide) (by decide))
  have:(10:Int)^60<=2^210:=by decide
  have:(2:Int)^210<((2^220:Nat):Int):=by decide
  walk_at "o"
 have cs:m%5=0\/m%5=1\/m%5=2\/m%5=3\/m%5=4:=by walk_at "o"
 rcases cs with hw|hw|hw|hw|hw
 ·obtain⟨k,e1,dk,dt,db⟩:=fin 10 6 (z7 (by decide) (by decide)) (z7 (by decide) (by decide)) (by decide) (by decide)
  refine⟨_,m/5/10/6,k,?_⟩
  repeat(first|walk_at "z r" | simp only[dm5,hw,p12,p60,dt,db,e1,dk])
 ·obtain⟨k,e1,dk,dt,db⟩:=fin 61 12 (z7 (by decide) (by decide)) (z7 (by decide) (by decide)) (by decide) (by decide)
  refine⟨_,m/5/61/12,k,?_⟩
  repeat(first|walk_at "z r" | simp only[dm5,hw,p12,p60,dt,db,e1,dk])
 ·obtain⟨k,e1,dk,dt,db⟩:=fin ((10:Int)^(12:Int).toNat) ((10:Int)^(12:Int).toNat) (z7 (by decide) (by decide)) (z7 (by decide) (by decide)) (by decide) (by decide)
  refine⟨_,m/5/(10:Int)^(12:Int).toNat/(10:Int)^(12:Int).toNat,k,?_⟩
  repeat(first|walk_at "z r" | simp only[dm5,hw,p12,p60,dt,db,e1,dk])
 ·obtain⟨k,e1,dk,dt,db⟩:=fin ((10:Int)^(60:Int).toNat) ((10:Int)^(60:Int).toNat-1) d60 d59 (by decide) (by decide)
  refine⟨_,m/5/(10:Int)^(60:Int).toNat/((10:Int)^(60:Int).toNat-1),k,?_⟩
  repeat(first|walk_at "z r" | simp only[dm5,hw,p12,p60,dt,db,e1,dk])
 ·obtain⟨k,e1,dk,dt,db⟩:=fin ((10:Int)^(60:Int).toNat) 1 d60 (z7 (by decide) (by decide)) (by decide) (by decide)
  refine⟨_,m/5/(10:Int)^(60:Int).toNat/1,k,?_⟩
  repeat(first|walk_at "z r" | simp only[dm5,hw,p12,p60,dt,db,e1,dk])
def wt (cs:List (List Nat)):Nat:=(cs.map fun p=>p.length+1).sum
abbrev jn (cs:List (List Nat)):List Nat:=(Str.join ⟨#[32]⟩ (cs.map sO)).cps.toList
theorem a8c:∀{cs:List (List Nat)},cs≠[]->(jn cs).length+1=wt cs
 | [],h=>absurd rfl h
 | [w],_=>by show w.length+1=w.length+1+0;rfl
 | w::v::r,_=>by
  have ih:=a8c (cs:=v::r) (by simp)
  have e:jn (w::v::r)=w++32::jn (v::r):=M8 ..;have e2:wt (w::v::r)=w.length+1+wt (v::r):=by unfold wt;rw[zR,sum_cons]
  rw[e,e2,zP,zU];walk_at "o"
theorem a9r:∀{cs:List (List Nat)} {c:Nat},c∈jn cs->c=32\/∃p∈cs,c∈p
 | [],_,h=>by cases h
 | [w],_,h=>.inr ⟨w,zG,h⟩
 | w::v::r,c,h=>by
  have e:jn (w::v::r)=w++32::jn (v::r):=M8 ..;rw[e,xD,zT] at h;rcases h with h|h|h
  ·exact .inr ⟨w,zG,h⟩
  ·exact .inl h
  ·rcases a9r h with z|⟨p,hp,z⟩
   ·exact .inl z
   ·exact .inr ⟨p,zH _ hp,z⟩
theorem b3F (cs:List (List Nat)):(cs.map fun p=>p.length).sum+cs.length=wt cs:=by
 unfold wt
 induction cs with
 | nil=>rfl
 | cons p cs ih=>simp only[zR,sum_cons,zU];walk_at "o"
theorem a33 {cs:List (List Nat)}(h:wt cs<=1000000):mJoin (Str.ofString " ") [.lst (strL cs)]=some (.v (.str (sO (jn cs)))):=by
 have so:strsOf (strL cs)=some (cs.map sO):=by rw[<-a3W (cs.map sO),zQ];rfl
 simp only[mJoin,so,bind_some];rw[if_pos]
 ·rw[a4m,S2];exact jF (fun s=>some (W.v (.str s))) (PySem.StrLaws.glued_eq_join _ _)
 ·unfold JoinOk;rw[Bool.not_eq_true',PyProof.Rows.joinFits_of_weight]
  ·rw[zD,zQ]
   have:=b3F cs
   rw[show(cs.map ((fun x:Str=>x.length)∘sO))=cs.map fun p=>p.length from List.map_congr_left fun p _=>k7 p];walk_at "o"
  ·rw[S2];decide
theorem b0x (l:List Nat):wt (cutL 32 l)=l.length+1:=by
 have:=a8c (E1 32 l)
 rw[show jn (cutL 32 l)=l from a2A l] at this;exact this.symm
theorem a7y:∀{cs:List (List Nat)} {i:Nat} {a b:List Nat},cs[i]? =some b->wt (cs.set i a)+(b.length+1)=wt cs+(a.length+1)
 | [],_,_,_,h=>by simp at h
 | p::cs,0,a,b,h=>by
  have:p=b:=by simpa using h
  subst this;show(a.length+1+wt cs)+_=(p.length+1+wt cs)+_;walk_at "o"
 | p::cs,i+1,a,b,h=>by
  have ih:=a7y (cs:=cs) (i:=i) (a:=a) (b:=b) (by simpa using h)
  show(p.length+1+wt (cs.set i a))+_=(p.length+1+wt cs)+_;walk_at "o"
theorem a7W {cs:List (List Nat)}{i j:Nat}{a b:List Nat}(hi:cs[i]? =some a)(hj:cs[j]? =some b):wt ((cs.set i b).set j a)=wt cs:=by
 have h1:=a7y (a:=b) hi;have hj':(cs.set i b)[j]? =some b:=by
  by_cases q:i=j
  ·subst q;rw[List.getElem?_set_self (zM.mp hi).1]
  ·rw[zL q];exact hj
 have h2:=a7y (a:=a) hj';walk_at "o"
theorem b0z (a b:List (List Nat)):wt (a++b)=wt a+wt b:=by unfold wt;rw[map_append,List.sum_append]
theorem a46 (cs:List (List Nat))(i:Nat):wt (cs.take i++cs.drop (i+1))<=wt cs:=by
 have h1:wt cs=wt (cs.take i)+wt (cs.drop i):=by rw[<-b0z,List.take_append_drop]
 have h2:wt (cs.drop (i+1))<=wt (cs.drop i):=by
  cases q:cs.drop i with
  | nil=>rw[<-drop_drop,q];exact zI _
  | cons p r=>rw[<-drop_drop,q];show wt r<=p.length+1+wt r;walk_at "o"
 rw[b0z];walk_at "o"
theorem jn_tx {l:List Nat}(h:Tx l){cs:List (List Nat)}(hm:∀p∈cs,p∈cutL 32 l)(hw:wt cs<=wt (cutL 32 l)):Tx (jn cs)/\(jn cs).length<=l.length:=by
 have hl:(jn cs).length<=l.length:=by
  cases cs with
  | nil=>exact qK _
  | cons p r=>
   have:=a8c (cs:=p::r) (by simp)
   rw[b0x] at hw;walk_at "o"
 refine⟨⟨zO hl h.n,fun c hc=>?_⟩,hl⟩;rcases a9r hc with z|⟨p,hp,z⟩
 ·walk_at "o"
 ·exact(h.cut (hm p hp)).a c z
abbrev a0r:Stmt:=top 51
theorem a1x:FnScope [] [] (defScope a0r):=by walk_at "c"
def a12 (g:LO):Prop:=∃x:Str,x.length=94/\(x.cps.toList.all fun c=>decide (c<128))=true/\g []=some (.v (.str x))
theorem a4L (F:Fun K "_law_signs" "_law_signs" a0r f fd)(B:Binds K fd [] [])(hm:mg "_law_signs"=some (.ref f)):∃g,Fn P w K mg base "_law_signs" (k+1) g/\a12 g:=by
 have nd:=a1x.nd;refine⟨_,z8 F a1x B hm rfl rfl (fun cdv A outer s H E hr=>(c7 (g6 j4))),?_⟩;exact⟨_,by decide +kernel,by decide +kernel,rfl⟩
theorem b33:((3:Int)==3)=true:=rfl
theorem b40:((4:Int)==0)=false:=rfl
theorem b41:((4:Int)==1)=false:=rfl
theorem b42:((4:Int)==2)=false:=rfl
theorem b43:((4:Int)==3)=false:=rfl
theorem b44:((4:Int)==4)=true:=rfl
theorem b50:((5:Int)==0)=false:=rfl
theorem b51:((5:Int)==1)=false:=rfl
theorem b52:((5:Int)==2)=false:=rfl
theorem b53:((5:Int)==3)=false:=rfl
theorem b54:((5:Int)==4)=false:=rfl
theorem P2 {a b:List Nat}(ha:Tx a)(hb:Tx b)(h:a.length+b.length<=300000):Tx (a++b):=⟨by rw[zP];exact h,fun c hc=>(xD.mp hc).elim (ha.a c) (hb.a c)⟩
theorem a4f {c:Nat}(h:c<128):Tx [c]:=⟨by simp,fun d hd=>by rw[qR.mp hd];exact h⟩
theorem sg_at {x:List Nat}{i:Int}(hx:x.length=106)(h:∀c∈x,c<128)(h0:0<=i)(h1:i<106):∃c,c<128/\strAt (sO x) i=some (.v (.str (sO [c]))):=by
 have hi:i.toNat<x.length:=by walk_at "o"
 refine⟨x[i.toNat],h _ (getElem_mem hi),?_⟩;unfold strAt;rw[if_pos (by rw[k7,hx];decide)]
 have e:atI (sO x).cps.toList i=some x[i.toNat]:=by
  have:=D9 (xs:=x) (j:=i.toNat) (jH hi)
  rwa [show((i.toNat:Nat):Int)=i by walk_at "o"] at this
 rw[e];rfl
theorem ixn {n:Nat}{i:Int}(h0:0<=i)(h1:i<n):ixN n i=some i.toNat:=by unfold ixN;rw[if_pos h0,if_pos (by walk_at "o")]
theorem b3Q (xs:List D){k:Nat}(h:k<=xs.length):cutD xs none (some (k:Int))=xs.take k:=by
 unfold cutD;rw[HT.sIx_nat,HT.sIx_none,Nat.min_eq_left h];rfl
theorem a9o (xs:List D){k:Nat}(h:k<=xs.length):cutD xs (some (k:Int)) none=xs.drop k:=by
 unfold cutD;rw[HT.sIx_nat,HT.sIx_none,Nat.min_eq_left h];exact yE (by rw[qW];walk_at "o")
abbrev a1G:Stmt:=top 57
theorem a3u:FnScope ["text","number","signs","way","at","sign","one","far","words","first","other"] ["text","number"] (defScope a1G):=by walk_at "c"
def a4C (g:LO):Prop:=∀(l:List Nat) (m:Int),Tx l->l.length<=140000->∃t:List Nat,Tx t/\t.length<=2*l.length+1/\g [.str (sO l),.int m]=some (.v (.str (sO t)))
theorem a6w {a0n:LO}(a0g:Fn P w K mg base "_law_signs" k a0n)(Z6:a12 a0n)(l5:mg "divmod"=none)(m_len:mg "len"=none)(F:Fun K "_law_put" "_law_put" a1G f fd)(B:Binds K fd ["text","number"] [])(hm:mg "_law_put"=some (.ref f)):∃g,Fn P w K mg base "_law_put" (k+1) g/\a4C g:=by
 have nd:=a3u.nd
 refine⟨_,z8 F a3u B hm rfl rfl (fun cdv A outer s H E hr=>(b8 (l4 2 nd (b2p a0g hr))
  (b8 (w9 (u4 l5 (a8 (a7 1) (a8 c6 a9))) (z6 rfl (c9 (c8 1 nd) (c9 (c8 3 nd) t5))))
  (b8 (w9 (u4 l5 (a8 (a7 1) (a8 (C1 (qx_b t7 A9 m_len (a8 (a7 0) a9)) c6) a9))) (z6 rfl (c9 (c8 1 nd) (c9 (c8 4 nd) t5))))
  (b8 (w9 (u4 l5 (a8 (a7 1) (a8 (C1 (qx_b t7 A9 m_len (a8 (a7 2) a9)) c6) a9))) (z6 rfl (c9 (c8 1 nd) (c9 (c8 5 nd) t5))))
  (b8 (l4 6 nd (t6 (B7 (a7 2) j4) (a7 5)))
  (b8 (w9 (u4 l5 (a8 (a7 1) (a8 c6 a9))) (z6 rfl (c9 (c8 1 nd) (c9 (c8 7 nd) t5))))
  (b8 (p9 (E2 hr (a7 3) c6) (c7 (g6 (B7 (B7 (C7 (a7 0) C4 (A3 (a7 4))) (a7 6)) (C7 (a7 0) (A3 (a7 4)) C4)))) h7)
  (b8 (p9 (E2 hr (a7 3) c6) (c7 (g6 (B7 (B7 (C7 (a7 0) C4 (A3 (a7 4))) (a7 6)) (C7 (a7 0) (A3 (C1 (a7 4) c6)) C4)))) h7)
  (b8 (p9 (E2 hr (a7 3) c6) (c7 (g6 (B7 (C7 (a7 0) C4 (A3 (a7 4))) (C7 (a7 0) (A3 (C1 (a7 4) c6)) C4)))) h7)
  (b8 (p9 (E2 hr (a7 3) c6) (c7 (g6 (B7 (B7 (C7 (a7 0) C4 (A3 (a7 4))) (C7 (a7 0) (A3 (a7 4)) (A3 (C1 (C1 (a7 4) c6) (a7 7))))) (C7 (a7 0) (A3 (a7 4)) C4)))) h7)
  (b8 (l4 8 nd (K0 (a7 0) (a8 j4 a9)))
  (b8 (w9 (u4 l5 (a8 (a7 1) (a8 (qx_b t7 A9 m_len (a8 (a7 8) a9)) a9))) (z6 rfl (c9 (c8 1 nd) (c9 (c8 9 nd) t5))))
  (b8 (w9 (u4 l5 (a8 (a7 1) (a8 (qx_b t7 A9 m_len (a8 (a7 8) a9)) a9))) (z6 rfl (c9 (c8 1 nd) (c9 (c8 10 nd) t5))))
  (b8 (p9 (E2 hr (a7 3) c6) (b8 (w9 (K8 (a8 (t6 (a7 8) (a7 10)) (a8 (t6 (a7 8) (a7 9)) a9))) (z6 rfl (c9 (a5T (a7 8) (a7 9)) (c9 (a5T (a7 8) (a7 10)) t5))))
  (c7 (g6 (a2r j4 (a8 (a7 8) a9))))) h7)
  (c7 (g6 (a2r j4 (a8 (C1 (R1 (a7 8) C4 (A3 (a7 9))) (R1 (a7 8) (A3 (C1 (a7 9) c6)) C4)) a9))))))))))))))))))),?_⟩
 intro l m h hl;obtain⟨y,hx,hxa,ex⟩:=Z6;obtain⟨x,rfl⟩:∃x,y=sO x:=⟨_,(a4m y).symm⟩;rw[k7] at hx;have hxa:∀c∈x,c<128:=fun c hc=>jA (qX.mp hxa c hc);have lb:=h.lim';have l1:=k7 l;have x1:=k7 x;have lx:(sO x).length<=1000000:=by walk_at "o"
 have dm6:=r_dm (m:=m) (n:=6) (z7 (by decide) (by decide))
 have dA:=r_dm (m:=m/6) (n:=(((sO l).length:Nat):Int)+1) ⟨by walk_at "o",zF (by walk_at "o":_<2^30) (qL (by decide) (by decide))⟩
 have dS:=r_dm (m:=m/6/((((sO l).length:Nat):Int)+1)) (n:=(((sO x).length:Nat):Int)+12) ⟨by walk_at "o",zF (by walk_at "o":_<2^30) (qL (by decide) (by decide))⟩
 have a0:=qE (m/6) (b:=(((sO l).length:Nat):Int)+1) (by walk_at "o")
 have a1:=zZ (m/6) (b:=(((sO l).length:Nat):Int)+1) (by walk_at "o")
 have s0:=qE (m/6/((((sO l).length:Nat):Int)+1)) (b:=(((sO x).length:Nat):Int)+12) (by walk_at "o")
 have s1:=zZ (m/6/((((sO l).length:Nat):Int)+1)) (b:=(((sO x).length:Nat):Int)+12) (by walk_at "o")
 generalize m/6%((((sO l).length:Nat):Int)+1)=A at dA a0 a1;generalize m/6/((((sO l).length:Nat):Int)+1)=m2 at dA dS s0 s1;generalize m2%((((sO x).length:Nat):Int)+12)=G at dS s0 s1;generalize m2/((((sO x).length:Nat):Int)+12)=m3 at dS;have d4:=r_dm (m:=m3) (n:=4) (z7 (by decide) (by decide))
 have f0:=qE m3 (b:=4) (by decide)
 generalize m3%4=Fa at d4 f0;generalize m3/4=m4 at d4;have w0:=qE m (b:=6) (by decide)
 have w6:=zZ m (b:=6) (by decide)
 have e12:Str.ofString "0123-/: .1-0"=sO [48,49,50,51,45,47,58,32,46,49,45,48]:=by decide +kernel
 have l12:(Str.ofString "0123-/: .1-0").length=12:=by decide +kernel
 have lc:(sO x).length+(Str.ofString "0123-/: .1-0").length<=1000000:=by walk_at "o"
 obtain⟨c,hc,ec⟩:=sg_at (x:=x++[48,49,50,51,45,47,58,32,46,49,45,48]) (i:=G) (by rw[zP,hx];rfl) (fun c hc=>by
  rcases xD.mp hc with z|z
  ·exact hxa c z
  ·exact jA (qX.mp (by decide:([48,49,50,51,45,47,58,32,46,49,45,48]:List Nat).all (fun c=>decide (c<128))=true) c z)) s0 (by walk_at "o")
 rw[<-W9,<-e12] at ec;have cs:m%6=0\/m%6=1\/m%6=2\/m%6=3\/m%6=4\/m%6=5:=by walk_at "o"
 generalize m%6=wy at dm6 w0 w6 cs;have sT:Txt.slice (sO l) none (some A)=sO (l.take A.toNat):=a6B a0;have sF:Txt.slice (sO l) (some A) none=sO (l.drop A.toNat):=a0s a0;have sF1:Txt.slice (sO l) (some (A+1)) none=sO (l.drop (A+1).toNat):=a0s (by walk_at "o")
 have tT:=h.take A.toNat;have tF:=h.drop A.toNat;have tF1:=h.drop (A+1).toNat;have lT:(l.take A.toNat).length=A.toNat:=by rw[length_take];walk_at "o"
 have lF:(l.drop A.toNat).length=l.length-A.toNat:=qW;have lF1:(l.drop (A+1).toNat).length=l.length-(A+1).toNat:=qW;have t1:=a4f hc;rcases cs with rfl|rfl|rfl|rfl|rfl|rfl
 ·have q1:(sO (l.take A.toNat)).length+(sO [c]).length<=1000000:=by rw[k7,k7,lT];simp;walk_at "o"
  have q2:(sO (l.take A.toNat++[c])).length+(sO (l.drop A.toNat)).length<=1000000:=by rw[k7,k7,zP,lT,lF];simp;walk_at "o"
  refine⟨l.take A.toNat++[c]++l.drop A.toNat,P2 (P2 tT t1 (by rw[lT];simp;walk_at "o")) tF (by rw[zP,lT,lF];simp;walk_at "o"),by rw[zP,zP,lT,lF];simp;walk_at "o",?_⟩
  repeat(first|walk_at "z r" | simp only[b00,b10,b11,b20,b21,b22,b30,b31,b32,b33,b40,b41,b42,b43,b44,b50,b51,b52,b53,b54,ex,lb,lx,dm6,dA,dS,d4,lc,ec,sT,sF,sF1,q1,q2,W9])
 ·have q1:(sO (l.take A.toNat)).length+(sO [c]).length<=1000000:=by rw[k7,k7,lT];simp;walk_at "o"
  have q2:(sO (l.take A.toNat++[c])).length+(sO (l.drop (A+1).toNat)).length<=1000000:=by rw[k7,k7,zP,lT,lF1];simp;walk_at "o"
  refine⟨l.take A.toNat++[c]++l.drop (A+1).toNat,P2 (P2 tT t1 (by rw[lT];simp;walk_at "o")) tF1 (by rw[zP,lT,lF1];simp;walk_at "o"),by rw[zP,zP,lT,lF1];simp;walk_at "o",?_⟩
  repeat(first|walk_at "z r" | simp only[b00,b10,b11,b20,b21,b22,b30,b31,b32,b33,b40,b41,b42,b43,b44,b50,b51,b52,b53,b54,ex,lb,lx,dm6,dA,dS,d4,lc,ec,sT,sF,sF1,q1,q2,W9])
 ·have q2:(sO (l.take A.toNat)).length+(sO (l.drop (A+1).toNat)).length<=1000000:=by rw[k7,k7,lT,lF1];walk_at "o"
  refine⟨l.take A.toNat++l.drop (A+1).toNat,P2 tT tF1 (by rw[lT,lF1];walk_at "o"),by rw[zP,lT,lF1];walk_at "o",?_⟩
  repeat(first|walk_at "z r" | simp only[b00,b10,b11,b20,b21,b22,b30,b31,b32,b33,b40,b41,b42,b43,b44,b50,b51,b52,b53,b54,ex,lb,lx,dm6,dA,dS,d4,lc,ec,sT,sF,sF1,q2,W9])
 ·obtain⟨u,eu,ul,um⟩:=a8j l (some A) (some (A+1+Fa));have tu:Tx u:=h.sub ul um;have q1:(sO (l.take A.toNat)).length+(sO u).length<=1000000:=by rw[k7,k7,lT];walk_at "o"
  have q2:(sO (l.take A.toNat++u)).length+(sO (l.drop A.toNat)).length<=1000000:=by rw[k7,k7,zP,lT,lF];walk_at "o"
  refine⟨l.take A.toNat++u++l.drop A.toNat,P2 (P2 tT tu (by rw[lT];walk_at "o")) tF (by rw[zP,lT,lF];walk_at "o"),by rw[zP,zP,lT,lF];walk_at "o",?_⟩
  repeat(first|walk_at "z r" | simp only[b00,b10,b11,b20,b21,b22,b30,b31,b32,b33,b40,b41,b42,b43,b44,b50,b51,b52,b53,b54,ex,lb,lx,dm6,dA,dS,d4,lc,ec,sT,sF,sF1,eu,q1,q2,W9])
 all_goals
  have es:=P0 (c:=32) h;rw[<-show Str.ofString " "=⟨#[32]⟩ from S2] at es;have lw:=L0 (cutL 32 l);have ne:=E1 32 l;have ln:=J5 (c:=32) l;have wc:=b0x l;have jt:∀cs:List (List Nat),(∀p∈cs,p∈cutL 32 l)->wt cs<=wt (cutL 32 l)->_:=fun cs=>jn_tx h (cs:=cs);generalize cutL 32 l=cs at es lw ne ln wc jt;have kp:0<cs.length:=List.length_pos_iff.mpr ne;have ll:cs.length<=1000000:=by walk_at "o"
  have dW:=r_dm (m:=m4) (n:=((cs.length:Nat):Int)) ⟨by walk_at "o",zF (by walk_at "o":_<2^30) (qL (by decide) (by decide))⟩
  have i0:=qE m4 (b:=((cs.length:Nat):Int)) (by walk_at "o")
  have i1:=zZ m4 (b:=((cs.length:Nat):Int)) (by walk_at "o")
  generalize m4%((cs.length:Nat):Int)=I at dW i0 i1;generalize m4/((cs.length:Nat):Int)=m5 at dW;have dV:=r_dm (m:=m5) (n:=((cs.length:Nat):Int)) ⟨by walk_at "o",zF (by walk_at "o":_<2^30) (qL (by decide) (by decide))⟩
  have j0:=qE m5 (b:=((cs.length:Nat):Int)) (by walk_at "o")
  have j1:=zZ m5 (b:=((cs.length:Nat):Int)) (by walk_at "o")
  generalize m5%((cs.length:Nat):Int)=J at dV j0 j1;obtain⟨a,ha⟩:∃a,cs[I.toNat]? =some a:=⟨_,jH (by walk_at "o")⟩
  obtain⟨b,hb⟩:∃b,cs[J.toNat]? =some b:=⟨_,jH (by walk_at "o")⟩
  have aI:atI (strL cs) I=some (.str (sO a)):=a7o i0 (by rw[qU,ha];rfl)
  have aJ:atI (strL cs) J=some (.str (sO b)):=a7o j0 (by rw[qU,hb];rfl)
 ·obtain⟨tt,tl⟩:=jt ((cs.set I.toNat b).set J.toNat a) (fun p hp=>by
   rcases List.mem_or_eq_of_mem_set hp with hp|rfl
   ·rcases List.mem_or_eq_of_mem_set hp with hp|rfl
    ·exact hp
    ·exact qS hb
   ·exact qS ha) (Nat.le_of_eq (a7W ha hb))
  refine⟨jn ((cs.set I.toNat b).set J.toNat a),tt,by walk_at "o",?_⟩
  have mj:=a33 (cs:=(cs.set I.toNat b).set J.toNat a) (by rw[a7W ha hb];walk_at "o")
  have s1:(strL cs).set I.toNat (.str (sO b))=strL (cs.set I.toNat b):=List.map_set.symm;have s2:(strL (cs.set I.toNat b)).set J.toNat (.str (sO a))=strL ((cs.set I.toNat b).set J.toNat a):=List.map_set.symm;have xI:=ixn (n:=cs.length) i0 i1;have xJ:=ixn (n:=cs.length) j0 j1
  repeat(first|walk_at "z r" | simp only[b00,b10,b11,b20,b21,b22,b30,b31,b32,b33,b40,b41,b42,b43,b44,b50,b51,b52,b53,b54,ex,lb,lx,dm6,dA,dS,d4,lc,ec,es,lw,zD,jM,ll,dW,dV,aI,aJ,xI,xJ,s1,s2,qH,mj])
 ·obtain⟨tt,tl⟩:=jt (cs.take I.toNat++cs.drop (I.toNat+1)) (fun p hp=>(xD.mp hp).elim List.mem_of_mem_take mem_of_mem_drop) (a46 cs I.toNat);refine⟨jn (cs.take I.toNat++cs.drop (I.toNat+1)),tt,by walk_at "o",?_⟩
  have mj:=a33 (cs:=cs.take I.toNat++cs.drop (I.toNat+1)) (by have:=a46 cs I.toNat;walk_at "o")
  have c1:cutD (strL cs) none (some I)=strL (cs.take I.toNat):=by
   have e:=b3Q (strL cs) (k:=I.toNat) (by rw[zD];walk_at "o")
   rw[Int.toNat_of_nonneg i0] at e;exact e.trans List.map_take.symm
  have c2:cutD (strL cs) (some (I+1)) none=strL (cs.drop (I.toNat+1)):=by
   have e:=a9o (strL cs) (k:=I.toNat+1) (by rw[zD];walk_at "o")
   rw[show((I.toNat+1:Nat):Int)=I+1 by walk_at "o"] at e
   exact e.trans List.map_drop.symm
  have c3:strL (cs.take I.toNat)++strL (cs.drop (I.toNat+1))=strL (cs.take I.toNat++cs.drop (I.toNat+1)):=map_append.symm;have c4:(cs.take I.toNat).length+(cs.drop (I.toNat+1)).length<=1000000:=by rw[length_take,qW];walk_at "o"
  have c5:=L0 (cs.take I.toNat++cs.drop (I.toNat+1))
  repeat(first|walk_at "z r" | simp only[b00,b10,b11,b20,b21,b22,b30,b31,b32,b33,b40,b41,b42,b43,b44,b50,b51,b52,b53,b54,ex,lb,lx,dm6,dA,dS,d4,lc,ec,es,lw,zD,jM,ll,dW,dV,aI,aJ,c1,c2,c3,c4,c5,mj])
theorem b1A {n:Int}(h:n.natAbs<10^60):gStrD (.int n)=some (.v (.str (numS n))):=by
 show(if _ then _ else _)=_;rw[if_pos];exact zF h (zO (by decide:(10:Nat)^60<=2^200) (qL (by decide) (by decide)))
theorem a04 {n:Int}(h:n.natAbs<10^60):∃u:List Nat,Tx u/\u.length<=61/\gStrD (.int n)=some (.v (.str (sO u))):=by
 have hl:=b0b h;rw[M9] at hl;have ha:=a8r n;rw[xR] at ha;exact⟨(numS n).cps.toList,⟨zO hl (by decide),fun c hc=>jA (ha c (by simpa using hc))⟩,hl,by rw[b1A h,a4m]⟩
abbrev N7:Stmt:=top 63
theorem V3:FnScope ["one"] ["one"] (defScope N7):=by walk_at "c"
def W2 (g:LO):Prop:=∀p:Int×Int,ROk p->∃t:List Nat,Tx t/\t.length<=123/\g [rD p]=some (.v (.str (sO t)))
theorem a1W (m_str:mg "str"=none)(F:Fun K "_law_ratio_word" "_law_ratio_word" N7 f fd)(B:Binds K fd ["one"] [])(hm:mg "_law_ratio_word"=some (.ref f)):∃g,Fn P w K mg base "_law_ratio_word" (k+1) g/\W2 g:=by
 have nd:=V3.nd
 refine⟨_,z8 F V3 B hm rfl rfl (fun cdv A outer s H E hr=>(b8 (p9 (E2 hr (t6 (a7 0) c6) c6) (c7 (g6 (qx_t (K5 hr) S1 m_str (a8 (t6 (a7 0) c6) a9)))) h7)
  (c7 (g6 (B7 (B7 (qx_t (K5 hr) S1 m_str (a8 (t6 (a7 0) c6) a9)) j4) (qx_t (K5 hr) S1 m_str (a8 (t6 (a7 0) c6) a9))))))),?_⟩
 intro p hp;obtain⟨a,t1,l1,s1⟩:=a04 hp.t;obtain⟨b,t2,l2,s2⟩:=a04 hp.b;have sl:Str.ofString "/"=sO [47]:=a2C;have u1:(sO a).length+(sO [47]).length<=1000000:=by rw[k7,k7];simp;walk_at "o"
 have u2:(sO (a++[47])).length+(sO b).length<=1000000:=by rw[k7,k7,zP];simp;walk_at "o"
 cases q:p.2==1 with
 | true=>
  refine⟨a,t1,by walk_at "o",?_⟩
  repeat(first|walk_at "z r" | simp only[q,s1])
 | false=>
  refine⟨a++[47]++b,P2 (P2 t1 (a4f (by decide)) (by simp;walk_at "o")) t2 (by simp;walk_at "o"),by simp;walk_at "o",?_⟩
  repeat(first|walk_at "z r" | simp only[q,s1,s2,sl,u1,u2,W9])
structure Wd (B:Nat) (ws:List (List Nat)):Prop where
 a:∀p∈ws,p.length<=B/\∀c∈p,c<128
theorem Wd.wt {B:Nat}{ws:List (List Nat)}(h:Wd B ws):wt ws<=ws.length*(B+1):=by
 unfold Q79.wt
 induction ws with
 | nil=>exact qK _
 | cons p ws ih=>
  have h1:=(h.a p zG).1;have h2:=ih ⟨fun q hq=>h.a q (zH _ hq)⟩;rw[zR,sum_cons,zU,Nat.succ_mul];walk_at "o"
theorem b0f {B:Nat}{ws:List (List Nat)}(h:Wd B ws)(hb:ws.length*(B+1)<=300000):Tx (jn ws)/\(jn ws).length<=ws.length*(B+1):=by
 have hw:=h.wt;have hl:(jn ws).length<=ws.length*(B+1):=by
  cases ws with
  | nil=>exact qK _
  | cons p r=>
   have:=a8c (cs:=p::r) (by simp)
   walk_at "o"
 refine⟨⟨by walk_at "o",fun c hc=>?_⟩,hl⟩
 rcases a9r hc with z|⟨p,hp,z⟩
 ·walk_at "o"
 ·exact(h.a p hp).2 c z
theorem Wd.snoc {B:Nat}{ws:List (List Nat)}(h:Wd B ws){p:List Nat}(hl:p.length<=B)(ha:∀c∈p,c<128):Wd B (ws++[p]):=⟨fun q hq=>by
 rcases xD.mp hq with z|z
 ·exact h.a q z
 ·rw[qR.mp z];exact⟨hl,ha⟩⟩
theorem a2U (ws:List (List Nat))(p:List Nat):strL ws++[D.str (sO p)]=strL (ws++[p]):=by
 show _=List.map (fun p=>D.str (sO p)) (ws++[p]);rw[map_append];rfl
abbrev Y2:Stmt:=top 62
theorem a0U:FnScope ["number","people","words","a","b","gain"] ["number","people"] (defScope Y2):=by walk_at "c"
def a1v (g:LO):Prop:=∀m n:Int,1<=n->n<=8->∃(t:List Nat) (m':Int),Tx t/\t.length<=30000/\g [.int m,.int n]=some (.v (.tup [.str (sO t),.int m']))
theorem a30 (G5:mg "range"=none)(m_str:mg "str"=none)(l5:mg "divmod"=none)(F:Fun K "_law_rising" "_law_rising" Y2 f fd)(B:Binds K fd ["number","people"] [])(hm:mg "_law_rising"=some (.ref f)):∃g,Fn P w K mg base "_law_rising" (k+1) g/\a1v g:=by
 have nd:=a0U.nd
 refine⟨_,z8 F a0U B hm rfl rfl (fun cdv A outer s H E hr=>(b8 (l4 2 nd (E8 (a8 j4 (a8 (qx_t (K5 hr) S1 m_str (a8 (a7 1) a9)) a9))))
  (b8 (a0d qJ rfl (a6x G5 (a8 (a7 1) a9)) (c8 3 nd) (c7 (a0d qJ rfl (qi_r2 G5 (a8 (C1 (a7 3) c6) (a8 (a7 1) a9))) (c8 4 nd) (b8 (w9 (u4 l5 (a8 (a7 0) (a8 c6 a9))) (z6 rfl (c9 (c8 0 nd) (c9 (c8 5 nd) t5))))
  (c7 (p9 (a0w (a7 5) c6) (b8 (l4 5 nd (t6 (E8 (a8 (a7 5) (a8 (a7f (C1 (X8 c6 c6) (a7 5)) c6) a9))) (a5G (a7 5) c6)))
  (c7 (J0 (a1j (a7 2) (a8 (B7 (B7 (B7 (B7 (qx_t (K5 hr) S1 m_str (a8 (a7 3) a9)) j4) (qx_t (K5 hr) S1 m_str (a8 (a7 4) a9))) j4) (qx_t (K5 hr) S1 m_str (a8 (a7 5) a9))) a9))))) h7))))))
  (c7 (g6 (K8 (a8 (a2r j4 (a8 (a7 2) a9)) (a8 (a7 0) a9)))))))),?_⟩
 intro m n h1 h8;have r1:(-(2^62:Int)<=n/\n<2^62):=by walk_at "o"
 obtain⟨u,tu,lu,sn⟩:=a04 (n:=n) (by walk_at "o")
 have ew:Str.ofString "web"=sO webC:=a9R
 repeat(first|walk_at "z r" | simp only[sn,r1,ew])
 generalize el:loopF _ _ _=r;refine a1i el (fun i ρ=>∃(ws:List (List Nat)) (q:Int) (o3 o4 o5:Option D),(Wd 200 ws/\ws.length<=2+8*i)/\ρ=[some (.v (.int q)),some (.v (.int n)),some (.o (.lst (strL ws))),o3.map .v,o4.map .v,o5.map .v])
  ⟨[webC,u],m,none,none,none,⟨⟨fun p hp=>?_⟩,by simp⟩,rfl⟩ ?_ ?_
 ·rcases zT.mp hp with rfl|hp
  ·exact⟨by decide,fun c hc=>jA (qX.mp (by decide:webC.all (fun c=>decide (c<128))=true) c hc)⟩
  ·rw[qR.mp hp];exact⟨by walk_at "o",tu.a⟩
 ·rintro i x _ hx ⟨ws,q,o3,o4,o5,⟨hw,hl⟩,rfl⟩;obtain⟨rfl,hi⟩:=a2T hx;have r2:(-(2^62:Int)<=0+(i:Int)+1/\0+(i:Int)+1<2^62)/\-(2^62:Int)<=n/\n<2^62:=by walk_at "o"
  obtain⟨ua,ta,la,sa⟩:=a04 (n:=0+(i:Int)) (by walk_at "o")
  repeat(first|walk_at "z r" | simp only[r2])
  generalize el2:loopF _ _ _=r2;refine a1i el2 (fun j ρ=>∃(ws:List (List Nat)) (q:Int) (o4 o5:Option D),(Wd 200 ws/\ws.length<=2+8*i+j)/\ρ=[some (.v (.int q)),some (.v (.int n)),some (.o (.lst (strL ws))),some (.v (.int (0+(i:Int)))),o4.map .v,o5.map .v]) ⟨ws,q,o4,o5,⟨hw,hl⟩,rfl⟩ ?_ ?_
  ·rintro j x _ hx ⟨ws,q,o4,o5,⟨hw,hl⟩,rfl⟩;obtain⟨rfl,hj⟩:=a2T hx;have d9:=r_dm (m:=q) (n:=9) (z7 (by decide) (by decide))
   have g0:=qE q (b:=9) (by decide)
   have g9:=zZ q (b:=9) (by decide)
   generalize q%9=G at d9 g0 g9
   by_cases hg:4<G
   ·have d1:decide ((4:Int)<G)=true:=zC hg;have pw:CPow 10 12:=by decide
    have d8:dOk 8:=z7 (by decide) (by decide)
    obtain⟨V,hV,aV⟩:∃V:Int,V.natAbs<10^60/\atI [D.int G,D.int ((10:Int)^Int.toNat 12+G-6)] (G/8)=some (.int V):=by
     have:G/8=0\/G/8=1:=by walk_at "o"
     rcases this with z|z<;>rw[z]
     ·exact⟨G,by walk_at "o",rfl⟩
     ·exact⟨(10:Int)^Int.toNat 12+G-6,by have:(10:Int)^Int.toNat 12=1000000000000:=(by decide);walk_at "o",rfl⟩
    obtain⟨ub,tb,lb,sb⟩:=a04 (n:=0+(i:Int)+1+(j:Int)) (by walk_at "o")
    obtain⟨ug,tg,lg,sg⟩:=a04 hV;have sd:Str.ofString "-"=sO [45]:=a29;have sc:Str.ofString ":"=sO [58]:=a6g;have q1:(sO ua).length+(sO [45]).length<=1000000:=by rw[k7,k7];simp;walk_at "o"
    have q2:(sO (ua++[45])).length+(sO ub).length<=1000000:=by rw[k7,k7];simp;walk_at "o"
    have q3:(sO (ua++[45]++ub)).length+(sO [58]).length<=1000000:=by rw[k7,k7];simp;walk_at "o"
    have q4:(sO (ua++[45]++ub++[58])).length+(sO ug).length<=1000000:=by rw[k7,k7];simp;walk_at "o"
    have ll:ws.length<1000000:=by walk_at "o"
    refine⟨[some (.v (.int (q/9))),some (.v (.int n)),some (.o (.lst (strL ws++[.str (sO (ua++[45]++ub++[58]++ug))]))),some (.v (.int (0+(i:Int)))),some (.v (.int (0+(i:Int)+1+(j:Int)))),some (.v (.int V))],?_,ws++[ua++[45]++ub++[58]++ug],q/9,some (.int (0+(i:Int)+1+(j:Int))),some (.int V),⟨hw.snoc (by simp;walk_at "o") fun c hc=>?_,by simp;walk_at "o"⟩,by rw[a2U];rfl⟩
    ·repeat(first|walk_at "z r" | simp only[d9,d1,pw,d8,aV,sa,sb,sg,sd,sc,q1,q2,q3,q4,W9,zD,ll])
    ·simp only[xD,qR] at hc;rcases hc with (((z|z)|z)|z)|z
     ·exact ta.a c z
     ·walk_at "o"
     ·exact tb.a c z
     ·walk_at "o"
     ·exact tg.a c z
   ·have d1:decide ((4:Int)<G)=false:=zB hg;refine⟨[some (.v (.int (q/9))),some (.v (.int n)),some (.o (.lst (strL ws))),some (.v (.int (0+(i:Int)))),some (.v (.int (0+(i:Int)+1+(j:Int)))),some (.v (.int G))],?_,ws,q/9,some (.int (0+(i:Int)+1+(j:Int))),some (.int G),⟨hw,by walk_at "o"⟩,rfl⟩
    repeat(first|walk_at "z r" | simp only[d9,d1])
  ·rintro ρ' rfl ⟨ws,q,o4,o5,⟨hw,hl⟩,rfl⟩;rw[a5U] at hl;refine⟨_,rfl,ws,q,some (.int (0+(i:Int))),o4,o5,⟨hw,by walk_at "o"⟩,rfl⟩
 ·rintro _ rfl ⟨ws,q,o3,o4,o5,⟨hw,hl⟩,rfl⟩;rw[a5U] at hl;have hb:ws.length*(200+1)<=66*201:=Nat.mul_le_mul_right _ (by walk_at "o")
  obtain⟨tt,tl⟩:=b0f hw (by walk_at "o")
  have mj:=a33 (cs:=ws) (by have:=hw.wt;walk_at "o")
  have lw:=L0 ws;refine⟨jn ws,q,tt,by walk_at "o",?_⟩
  repeat(first|walk_at "z r" | simp only[mj,lw])
theorem a7E {x:Str}{k:Nat}(hk:2<=k/\k<=100)(hx:x.length=1)(ha:((repS x k).cps.toList.all fun c=>decide (c<128))=true):∃u:List Nat,Tx u/\u.length=k/\oRepS (.str x) (.int k)=some (.v (.str (sO u))):=by
 have hl:=a6m x k;rw[hx,Nat.one_mul,M9] at hl;refine⟨(repS x k).cps.toList,⟨by walk_at "o",fun c hc=>jA (qX.mp ha c hc)⟩,hl,?_⟩
 unfold oRepS;dsimp only;rw[if_pos (by refine⟨⟨by walk_at "o",by walk_at "o"⟩,by walk_at "o",?_⟩;rw[hx];unfold lim;simp;walk_at "o"),Int.toNat_natCast,a4m]
abbrev a0k:Stmt:=top 64
theorem a1t:FnScope ["number","size","more","count","one","ratios","pairs","k","other","first","second","people","web","many","great","texts"] ["number"] (defScope a0k):=by walk_at "c"
def a2x (g:LO):Prop:=∀m:Int,∃(a b c d:List Nat) (m':Int),((Tx a/\a.length<=30000)/\(Tx b/\b.length<=30000)/\(Tx c/\c.length<=30000)/\Tx d/\d.length<=30000)/\g [.int m]=some (.v (.tup [.lst [.str (sO a),.str (sO b),.str (sO c),.str (sO d)],.int m']))
theorem a4T {N0:LO}{X6:LO}{N2:LO}(G7:Fn P w K mg base "_law_some_ratio" k N0)(G8:V9 N0)(X9:Fn P w K mg base "_law_rising" k X6)(X2:a1v X6)(G6:Fn P w K mg base "_law_ratio_word" k N2)(I0:W2 N2)(l5:mg "divmod"=none)(G5:mg "range"=none)(m_int:mg "int"=none)(m_str:mg "str"=none)(F:Fun K "_law_texts" "_law_texts" a0k f fd)(B:Binds K fd ["number"] [])(hm:mg "_law_texts"=some (.ref f)):∃g,Fn P w K mg base "_law_texts" (k+1) g/\a2x g:=by
 have nd:=a1t.nd
 refine⟨_,z8 F a1t B hm rfl rfl (fun cdv A outer s H E hr=>(b8 (w9 (u4 l5 (a8 (a7 0) (a8 c6 a9))) (z6 rfl (c9 (c8 0 nd) (c9 (c8 1 nd) t5))))
  (b8 (w9 (u4 l5 (a8 (a7 0) (a8 c6 a9))) (z6 rfl (c9 (c8 0 nd) (c9 (c8 2 nd) t5))))
  (b8 (l4 3 nd (t6 (E8 (a8 c6 (a8 (C1 c6 (a7 2)) a9))) (qx_t a1l a3F m_int (a8 (a9y hr (a7 1) c6) a9))))
  (b8 (w9 (g5 G7 hr (a8 (a7 0) a9)) (z6 rfl (c9 (c8 4 nd) (c9 (c8 0 nd) t5))))
  (b8 (l4 5 nd (E8 a9))
  (b8 (l4 6 nd (E8 a9))
  (b8 (a0d qJ rfl (a6x G5 (a8 (a7 3) a9)) (c8 7 nd) (b8 (w9 (g5 G7 hr (a8 (a7 0) a9)) (z6 rfl (c9 (c8 8 nd) (c9 (c8 0 nd) t5))))
  (b8 (J0 (a1j (a7 5) (a8 (g5 G6 hr (a8 (a7 8) a9)) a9)))
  (b8 (w9 (u4 l5 (a8 (a7 0) (a8 c6 a9))) (z6 rfl (c9 (c8 0 nd) (c9 (c8 9 nd) t5))))
  (b8 (w9 (u4 l5 (a8 (a7 0) (a8 c6 a9))) (z6 rfl (c9 (c8 0 nd) (c9 (c8 10 nd) t5))))
  (c7 (J0 (a1j (a7 6) (a8 (B7 (qx_t (K5 hr) S1 m_str (a8 (a7 9) a9)) (t6 (E8 (a8 (B7 j4 (qx_t (K5 hr) S1 m_str (a8 (a7 10) a9))) (a8 j4 a9))) (qx_t a1l a3F m_int (a8 (qx_le (a7 10) (a7 9)) a9)))) a9)))))))))
  (b8 (w9 (u4 l5 (a8 (a7 0) (a8 c6 a9))) (z6 rfl (c9 (c8 0 nd) (c9 (c8 11 nd) t5))))
  (b8 (w9 (g5 X9 hr (a8 (a7 0) (a8 (C1 (a7 11) c6) a9))) (z6 rfl (c9 (c8 12 nd) (c9 (c8 0 nd) t5))))
  (b8 (w9 (u4 l5 (a8 (a7 0) (a8 c6 a9))) (z6 rfl (c9 (c8 0 nd) (c9 (c8 13 nd) t5))))
  (b8 (l4 14 nd (t6 (E8 (a8 j4 (a8 (a6e j4 c6) (a8 (a6e j4 c6) (a8 (B7 j4 (a6e j4 c6)) (a8 j4 (a8 j4 a9))))))) (a7 13)))
  (b8 (l4 15 nd (E8 (a8 (g5 G6 hr (a8 (a7 4) a9)) (a8 (a2r j4 (a8 (a7 5) a9)) (a8 (a2r j4 (a8 (a7 6) a9)) (a8 (a7 12) a9))))))
  (b8 (p9 (S0 hr (a7 14) j4) (b8 (w9 (a7 14) (a5T (a7 15) c6))
  (c7 (w9 (B7 (B7 (t6 (a7 15) c6) j4) (a7 14)) (a5T (a7 15) c6)))) h7)
  (c7 (g6 (K8 (a8 (a7 15) (a8 (a7 0) a9))))))))))))))))))),?_⟩
 intro m;have dm8:=r_dm (m:=m) (n:=8) (z7 (by decide) (by decide))
 have dm2:=r_dm (m:=m/8) (n:=2) (z7 (by decide) (by decide))
 have m0:=qE (m/8) (b:=2) (by decide)
 have m1:=zZ (m/8) (b:=2) (by decide)
 generalize m/8%2=More at dm2 m0 m1;obtain⟨p,n1,hp,e2⟩:=G8 (m/8/2);obtain⟨N,hN,aN⟩:∃N:Int,(4<=N/\N<=101)/\∀b:Bool,b=(m%8==3)->atI [D.int 4,D.int (100+More)] (if b=true then 1 else 0)=some (.int N):=by
  cases q:m%8==3 with
  | true=>exact⟨100+More,by walk_at "o",fun b hb=>by rw[hb];rfl⟩
  | false=>exact⟨4,by walk_at "o",fun b hb=>by rw[hb];rfl⟩
 have aN':=aN _ rfl;have r1:(-(2^62:Int)<=N/\N<2^62):=by walk_at "o"
 repeat(first|walk_at "z r" | simp only[dm8,dm2,aN',e2,r1])
 generalize el:loopF _ _ _=r;refine a1i el (fun i ρ=>∃(rs ps:List (List Nat)) (q:Int) (o7 o8 o9 o10:Option D),((Wd 123 rs/\rs.length=i)/\Wd 123 ps/\ps.length=i)/\ρ=[some (.v (.int q)),some (.v (.int (m%8))),some (.v (.int More)),some (.v (.int N)),some (.v (rD p)),some (.o (.lst (strL rs))),some (.o (.lst (strL ps))),o7.map .v,o8.map .v,o9.map .v,o10.map .v,none,none,none,none,none])
  ⟨[],[],n1,none,none,none,none,⟨⟨⟨fun _ h=>nomatch h⟩,rfl⟩,⟨fun _ h=>nomatch h⟩,rfl⟩,rfl⟩ ?_ ?_
 ·rintro i x _ hx ⟨rs,ps,q,o7,o8,o9,o10,⟨⟨hr,lr⟩,hs,ls⟩,rfl⟩;obtain⟨rfl,hi⟩:=a2T hx;obtain⟨p2,n2,hp2,e3⟩:=G8 q;obtain⟨t,tt,tl,ew⟩:=I0 p2 hp2.1;have d8:=r_dm (m:=n2) (n:=8) (z7 (by decide) (by decide))
  have d9:=r_dm (m:=n2/8) (n:=9) (z7 (by decide) (by decide))
  have f0:=qE n2 (b:=8) (by decide)
  have f8:=zZ n2 (b:=8) (by decide)
  have s0:=qE (n2/8) (b:=9) (by decide)
  have s9:=zZ (n2/8) (b:=9) (by decide)
  generalize n2%8=Fi at d8 f0 f8;generalize n2/8%9=Se at d9 s0 s9;obtain⟨uf,tf,lf,sf⟩:=a04 (n:=Fi) (by walk_at "o")
  obtain⟨us,tu,lu,su⟩:=a04 (n:=Se) (by walk_at "o")
  have sd:Str.ofString "-"=sO [45]:=a29;have q1:(sO [45]).length+(sO us).length<=1000000:=by rw[k7,k7];simp;walk_at "o"
  obtain⟨v,tv,lv,aB⟩:∃v:List Nat,Tx v/\v.length<=62/\atI [D.str (sO (45::us)),D.str (Str.ofString "")] (if decide (Se<=Fi)=true then 1 else 0)=some (.str (sO v)):=by
   cases decide (Se<=Fi) with
   | true=>exact⟨[],a27,by simp,by rw[a0S];rfl⟩
   | false=>exact⟨45::us,P2 (a4f (c:=45) (by decide)) tu (by simp;walk_at "o"),by simp;walk_at "o",rfl⟩
  have q2:(sO uf).length+(sO v).length<=1000000:=by rw[k7,k7];walk_at "o"
  have l1:rs.length<1000000:=by walk_at "o"
  have l2:ps.length<1000000:=by walk_at "o"
  refine⟨[some (.v (.int (n2/8/9))),some (.v (.int (m%8))),some (.v (.int More)),some (.v (.int N)),some (.v (rD p)),some (.o (.lst (strL rs++[.str (sO t)]))),some (.o (.lst (strL ps++[.str (sO (uf++v))]))),some (.v (.int (0+(i:Int)))),some (.v (rD p2)),some (.v (.int Fi)),some (.v (.int Se)),none,none,none,none,none],?_,rs++[t],ps++[uf++v],n2/8/9,some (.int (0+(i:Int))),some (rD p2),some (.int Fi),some (.int Se),⟨⟨hr.snoc tl tt.a,by simp;walk_at "o"⟩,hs.snoc (by simp;walk_at "o") fun c hc=>(xD.mp hc).elim (tf.a c) (tv.a c),by simp;walk_at "o"⟩,by rw[a2U,a2U];rfl⟩
  repeat(first|walk_at "z r" | simp only[e3,ew,d8,d9,sf,su,sd,q1,aB,q2,W9,zD,l1,l2])
 ·rintro _ rfl ⟨rs,ps,q,o7,o8,o9,o10,⟨⟨hr,lr⟩,hs,ls⟩,rfl⟩;rw[a5U] at lr ls;have hb1:rs.length*(123+1)<=101*124:=Nat.mul_le_mul_right _ (by walk_at "o")
  have hb2:ps.length*(123+1)<=101*124:=Nat.mul_le_mul_right _ (by walk_at "o")
  obtain⟨tt1,tl1⟩:=b0f hr (by walk_at "o")
  obtain⟨tt2,tl2⟩:=b0f hs (by walk_at "o")
  have mj1:=a33 (cs:=rs) (by have:=hr.wt;walk_at "o")
  have mj2:=a33 (cs:=ps) (by have:=hs.wt;walk_at "o")
  have lw1:=L0 rs;have lw2:=L0 ps;generalize jn rs=J1 at tt1 tl1 mj1;generalize jn ps=J2 at tt2 tl2 mj2;obtain⟨t0,tx0,tl0,ew⟩:=I0 p hp.1;have d8:=r_dm (m:=q) (n:=8) (z7 (by decide) (by decide))
  have p0:=qE q (b:=8) (by decide)
  have p8:=zZ q (b:=8) (by decide)
  obtain⟨d,n3,td,ld,e5⟩:=X2 (q/8) (q%8+1) (by walk_at "o") (by walk_at "o")
  have d6:=r_dm (m:=n3) (n:=6) (z7 (by decide) (by decide))
  have k0:=qE n3 (b:=6) (by decide)
  have k6:=zZ n3 (b:=6) (by decide)
  obtain⟨g1,tg1,lg1,eg1⟩:=a7E (x:=Str.ofString "9") (k:=60) (by decide) (by decide +kernel) (by decide +kernel)
  obtain⟨g2,tg2,lg2,eg2⟩:=a7E (x:=Str.ofString "9") (k:=61) (by decide) (by decide +kernel) (by decide +kernel)
  obtain⟨g3,tg3,lg3,eg3⟩:=a7E (x:=Str.ofString "0") (k:=60) (by decide) (by decide +kernel) (by decide +kernel)
  rw[show((60:Nat):Int)=60 from rfl] at eg1 eg3;rw[show((61:Nat):Int)=61 from rfl] at eg2;have so1:Str.ofString "1"=sO [49]:=by decide +kernel
  have z1:(sO [49]).length+(sO g3).length<=1000000:=by rw[k7,k7];simp;walk_at "o"
  obtain⟨gr,tgr,lgr,aG⟩:∃gr:List Nat,Tx gr/\gr.length<=61/\atI [D.str (Str.ofString ""),D.str (sO g1),D.str (sO g2),D.str (sO (49::g3)),D.str (Str.ofString ""),D.str (Str.ofString "")] (n3%6)=some (.str (sO gr)):=by
   have:n3%6=0\/n3%6=1\/n3%6=2\/n3%6=3\/n3%6=4\/n3%6=5:=by walk_at "o"
   rcases this with z|z|z|z|z|z<;>rw[z]
   ·exact⟨[],a27,by simp,by rw[a0S];rfl⟩
   ·exact⟨g1,tg1,by walk_at "o",rfl⟩
   ·exact⟨g2,tg2,by walk_at "o",rfl⟩
   ·exact⟨49::g3,P2 (a4f (c:=49) (by decide)) tg3 (by simp;walk_at "o"),by simp;walk_at "o",rfl⟩
   ·exact⟨[],a27,by simp,by rw[a0S];rfl⟩
   ·exact⟨[],a27,by simp,by rw[a0S];rfl⟩
  have eq:(sO gr==Str.ofString "")=decide (gr=[]):=by rw[a0S];exact P4 _ _
  have sb:Str.ofString " "=sO [32]:=S2;cases hg:decide (gr=[]) with
  | true=>
   rw[hg] at eq;refine⟨t0,J1,J2,d,n3/6,⟨⟨tx0,by walk_at "o"⟩,⟨tt1,by walk_at "o"⟩,⟨tt2,by walk_at "o"⟩,td,ld⟩,?_⟩
   repeat(first|walk_at "z r" | simp only[mj1,mj2,lw1,lw2,ew,d8,e5,d6,eg1,eg2,eg3,so1,z1,aG,eq,W9])
  | false=>
   rw[hg] at eq;rw[sb] at mj1 mj2;have i41:ixN 4 1=some 1:=rfl;have y1:(sO (J1)).length+(sO [32]).length<=1000000:=by rw[k7,k7];simp;walk_at "o"
   have y2:(sO (J1++[32])).length+(sO gr).length<=1000000:=by rw[k7,k7,zP];simp;walk_at "o"
   refine⟨gr,J1++[32]++gr,J2,d,n3/6,⟨⟨tgr,by walk_at "o"⟩,⟨P2 (P2 tt1 (a4f (by decide)) (by simp;walk_at "o")) tgr (by rw[zP];simp;walk_at "o"),by rw[zP,zP];simp;walk_at "o"⟩,⟨tt2,by walk_at "o"⟩,td,ld⟩,?_⟩
   repeat(first|walk_at "z r" | simp only[mj1,mj2,lw1,lw2,ew,d8,e5,d6,eg1,eg2,eg3,so1,z1,aG,eq,sb,y1,y2,W9,i41,qH,List.set_cons_succ,List.set_cons_zero])
theorem dqL {n:Nat}:∀{xs:List D},(∀x∈xs,deq n x x=some true)->deqL (deq n) xs xs=some true
 | [],_=>rfl
 | x::xs,h=>by rw[deqL,h x zG,bind_some,dqL fun y hy=>h y (zH _ hy)];rfl
theorem a9s (n:Nat)(i:Int):deq n (.int i) (.int i)=some true:=by
 cases n with
 | zero=>show some (i==i)=some true;simp
 | succ n=>show some (i==i)=some true;simp
theorem a3G {n:Nat}(k:List Int):deq (n+1) (.tup (k.map .int)) (.tup (k.map .int))=some true:=dqL fun x hx=>by
 obtain⟨i,_,rfl⟩:=zY.mp hx;exact a9s n i
theorem b4B {k:Int}{l:List Nat}{d:D}(hk:K4 k)(h:rdD k l=some d):∃xs,d= .tup xs/\deqL (deq 19) xs xs=some true/\lfL xs=true:=by
 have hl:=a3Y hk h;rcases hk with rfl|rfl|rfl|rfl
 ·obtain⟨p,e,rfl⟩:=oms (show(ratI l).map _=some d from h);exact⟨_,rfl,a3G (n:=19) [p.1,p.2],hl⟩
 ·obtain⟨p,e,rfl⟩:=oms (show(ratsI l).map _=some d from h)
  exact⟨_,rfl,dqL (n:=19) fun x hx=>by
   obtain⟨q,_,rfl⟩:=zY.mp hx
   exact a3G (n:=18) [q.1,q.2],hl⟩
 ·obtain⟨p,e,rfl⟩:=oms (show(parsI l).map _=some d from h)
  exact⟨_,rfl,dqL (n:=19) fun x hx=>by
   obtain⟨q,_,rfl⟩:=zY.mp hx
   exact a3G (n:=18) q,hl⟩
 ·obtain⟨p,e,rfl⟩:=oms (show(webI l).map _=some d from h)
  exact⟨_,rfl,dqL (n:=19) fun x hx=>by
   rcases zT.mp hx with rfl|hx
   ·exact a9s 19 _
   ·rw[qR.mp hx];exact dqL (n:=18) fun x hx=>by
     obtain⟨q,_,rfl⟩:=zY.mp hx
     exact a3G (n:=17) [q.1,q.2.1,q.2.2],hl⟩
abbrev a2i:Stmt:=top 66
theorem b0V:FnScope ["script","cell","texts","number","kind","text","turns","turn","one","due","found","odd","thing"] ["script"] (defScope a2i):=by walk_at "c"
theorem b3A {a0u:LO}{a0V:LO}{a03:LO}{a1O:LO}{V2:LO}{a1X:LO}(a0p:Fn P w K mg base "_law_texts" k a0u)(a0q:a2x a0u)(a07:Fn P w K mg base "_law_cell" k a0V)(a0Z:a3t a0V)(a08:Fn P w K mg base "_law_deal" k a03)(a1d:a3s a03)(a1L:Fn P w K mg base "_law_due" k a1O)(a1V:a3N a1O)(O6:Fn P w K mg base "_law_refused" k V2)(N1:a1b V2)(a1U:Fn P w K mg base "_law_put" k a1X)(a1M:a4C a1X)(G5:mg "range"=none)(l5:mg "divmod"=none)(F:Fun K "law" "law" a2i f fd):FnOk P w K mg base CX0 (k+1) f fd ["script"] (spLaw K):=by
 have nd:=b0V.nd
 refine b4H F b0V rfl rfl (fun cdv A outer s H E hr=>(b8 (a0d qJ rfl (V7 (C1 (E8 (a8 (g5 a07 hr (a8 (a7 0) (a8 c6 a9))) a9)) (R1 (a7 0) (A3 c6) (A3 c6)))) (c8 1 nd) (b8 (w9 (g5 a0p hr (a8 (g5 a08 hr (a8 (a7 1) (a8 c6 a9))) a9)) (z6 rfl (c9 (c8 2 nd) (c9 (c8 3 nd) t5))))
  (c7 (a0d qJ rfl (a6x G5 (a8 c6 a9)) (c8 4 nd) (b8 (l4 5 nd (t6 (a7 2) (a7 4)))
  (b8 (w9 (u4 l5 (a8 (a7 3) (a8 c6 a9))) (z6 rfl (c9 (c8 3 nd) (c9 (c8 6 nd) t5))))
  (b8 (a0d qJ rfl (a6x G5 (a8 (a7 6) a9)) (c8 7 nd) (b8 (w9 (u4 l5 (a8 (a7 3) (a8 (X8 c6 c6) a9))) (z6 rfl (c9 (c8 3 nd) (c9 (c8 8 nd) t5))))
  (c7 (l4 5 nd (g5 a1U hr (a8 (a7 5) (a8 (a7 8) a9)))))))
  (b8 (l4 9 nd (g5 a1L hr (a8 (a7 4) (a8 (a7 5) a9))))
  (b8 (l4 10 nd (g5 O6 hr (a8 (a7 4) (a8 (a7 5) a9))))
  (b8 (p9 (F0 (C8 (F0 (Y3 (a1w (a7 9) u7) (S9 (S0 hr (a7 10) j4)))) (J4 (F0 (Y3 (a9t (a7 9) u7) (S9 (S0 hr (a7 10) (a7 9)))))))) (c7 (g6 a1r)) h7)
  (b8 (w9 (u4 l5 (a8 (a7 3) (a8 c6 a9))) (z6 rfl (c9 (c8 3 nd) (c9 (c8 11 nd) t5))))
  (b8 (l4 12 nd (t6 (E8 (a8 u7 (a8 c6 (a8 a1r (a8 (E8 (a8 j4 a9)) (a8 (K8 (a8 j4 a9)) (a8 b09 (a8 (K8 (a8 c6 (a8 c6 a9))) a9)))))))) (a7 11)))
  (c7 (p9 (S0 hr (g5 O6 hr (a8 (a7 4) (a8 (a7 12) a9))) j4) (c7 (g6 a1r)) h7))))))))))))))
  (c7 (g6 a1r)))) ?_
 intro ns hl;obtain⟨c0,e0⟩:=a0Z ns 0 hl (by walk_at "o")
 rw[show((0:Nat):Int)=0 from rfl] at e0;obtain⟨ms,cd,ml⟩:∃ms:List Int,cutD (ns.map D.int) (some 1) (some 13)=ms.map .int/\ms.length<=ns.length:=by
  unfold cutD;rw[<-List.map_drop,<-List.map_take];exact⟨_,rfl,zO (List.length_take_le' _ _) (by rw[qW];walk_at "o")⟩
 have ll:1+ms.length<=1000000:=by walk_at "o"
 repeat(first|walk_at "z r" | simp only[e0,cd,zD,ll,jR])
 generalize el:loopF _ _ _=r;refine a42 el (fun _ ρ=>∃x1 x2 x3 x4 x5 x6 x7 x8 x9 x10 x11 x12:Option D,ρ=[some (.v (.lst (ns.map .int))),x1.map .v,x2.map .v,x3.map .v,x4.map .v,x5.map .v,x6.map .v,x7.map .v,x8.map .v,x9.map .v,x10.map .v,x11.map .v,x12.map .v]) ⟨none,none,none,none,none,none,none,none,none,none,none,none,rfl⟩ ?_ ?_
 ·rintro _ x _ hx _ ⟨x1,x2,x3,x4,x5,x6,x7,x8,x9,x10,x11,x12,rfl⟩;obtain⟨c,rfl⟩:∃c:Int,x= .int c:=by
   rcases zT.mp hx with rfl|hx
   ·exact⟨_,rfl⟩
   ·obtain⟨c,_,rfl⟩:=b0o hx;exact⟨c,rfl⟩
  obtain⟨m0,e1⟩:=a1d c;obtain⟨ta,tb,tc,td,m1,ht,e2⟩:=a0q m0;have r4:(-(2^62:Int)<=4/\(4:Int)<2^62):=by walk_at "o"
  repeat(first|walk_at "z r" | simp only[e1,e2,r4])
  generalize el2:loopF _ _ _=r2;refine a1i el2 (fun i ρ=>∃(q:Int) (x4 x5 x6 x7 x8 x9 x10 x11 x12:Option D),ρ=[some (.v (.lst (ns.map .int))),some (.v (.int c)),some (.v (.lst [.str (sO ta),.str (sO tb),.str (sO tc),.str (sO td)])),some (.v (.int q)),x4.map .v,x5.map .v,x6.map .v,x7.map .v,x8.map .v,x9.map .v,x10.map .v,x11.map .v,x12.map .v]) ⟨m1,x4,x5,x6,x7,x8,x9,x10,x11,x12,rfl⟩ ?_ ?_
  ·rintro i x _ hx ⟨q,x4,x5,x6,x7,x8,x9,x10,x11,x12,rfl⟩;obtain⟨rfl,hi⟩:=a2T hx;have hi:i<4:=hi;have hk:K4 (0+(i:Int)):=by unfold K4;walk_at "o"
   obtain⟨t,tt,tl,at0⟩:∃t:List Nat,Tx t/\t.length<=30000/\atI [D.str (sO ta),.str (sO tb),.str (sO tc),.str (sO td)] (0+(i:Int))=some (.str (sO t)):=by
    have:i=0\/i=1\/i=2\/i=3:=by walk_at "o"
    rcases this with rfl|rfl|rfl|rfl
    ·exact⟨ta,ht.1.1,ht.1.2,rfl⟩
    ·exact⟨tb,ht.2.1.1,ht.2.1.2,rfl⟩
    ·exact⟨tc,ht.2.2.1.1,ht.2.2.1.2,rfl⟩
    ·exact⟨td,ht.2.2.2.1,ht.2.2.2.2,rfl⟩
   have d4:=r_dm (m:=q) (n:=4) (z7 (by decide) (by decide))
   have g0:=qE q (b:=4) (by decide)
   have g4:=zZ q (b:=4) (by decide)
   generalize q%4=T at d4 g0 g4;have r5:(-(2^62:Int)<=T/\T<2^62):=by walk_at "o"
   repeat(first|walk_at "z r" | simp only[at0,d4,r5])
   generalize el3:loopF _ _ _=r3;refine a1i el3 (fun j ρ=>∃(q:Int) (t:List Nat) (x7 x8:Option D),(Tx t/\t.length+1<=30001*2^j)/\ρ=[some (.v (.lst (ns.map .int))),some (.v (.int c)),some (.v (.lst [.str (sO ta),.str (sO tb),.str (sO tc),.str (sO td)])),some (.v (.int q)),some (.v (.int (0+(i:Int)))),some (.v (.str (sO t))),some (.v (.int T)),x7.map .v,x8.map .v,x9.map .v,x10.map .v,x11.map .v,x12.map .v]) ⟨q/4,t,x7,x8,⟨tt,by walk_at "o"⟩,rfl⟩ ?_ ?_
   ·rintro j x _ hx ⟨q,t,x7,x8,⟨tt,tl⟩,rfl⟩;obtain⟨rfl,hj⟩:=a2T hx;have pw:CPow 10 12:=by decide
    have d12:=r_dm (m:=q) (n:=(10:Int)^Int.toNat 12) (z7 (by decide) (by decide))
    have j3:j=0\/j=1\/j=2:=by walk_at "o"
    obtain⟨t',tt',tl',ep⟩:=a1M t (q%(10:Int)^Int.toNat 12) tt (by rcases j3 with rfl|rfl|rfl<;>walk_at "o")
    refine⟨[some (.v (.lst (ns.map .int))),some (.v (.int c)),some (.v (.lst [.str (sO ta),.str (sO tb),.str (sO tc),.str (sO td)])),some (.v (.int (q/(10:Int)^Int.toNat 12))),some (.v (.int (0+(i:Int)))),some (.v (.str (sO t'))),some (.v (.int T)),some (.v (.int (0+(j:Int)))),some (.v (.int (q%(10:Int)^Int.toNat 12))),x9.map .v,x10.map .v,x11.map .v,x12.map .v],?_,q/(10:Int)^Int.toNat 12,t',some (.int (0+(j:Int))),some (.int (q%(10:Int)^Int.toNat 12)),⟨tt',by rw[Nat.pow_succ];walk_at "o"⟩,rfl⟩
    repeat(first|walk_at "z r" | simp only[pw,d12,ep])
   ·rintro _ rfl ⟨q,t,x7,x8,⟨tt,tl⟩,rfl⟩;have ed:=a1V _ t hk tt;have ef:=(N1 _ hk).1 t tt;have d7:=r_dm (m:=q) (n:=7) (z7 (by decide) (by decide))
    obtain⟨dd,hd,aD⟩:∃dd:D,Odd dd/\atI [D.non,.int 7,.bl true,.lst [.str (Str.ofString "web 1")],.tup [.str (Str.ofString "0")],.dK [] [],.tup [.int 1,.int 2]] (q%7)=some dd:=by
     have g0:=qE q (b:=7) (by decide)
     have g7:=zZ q (b:=7) (by decide)
     have:q%7=0\/q%7=1\/q%7=2\/q%7=3\/q%7=4\/q%7=5\/q%7=6:=by walk_at "o"
     rcases this with z|z|z|z|z|z|z<;>rw[z]<;>exact⟨_,⟨rfl,rfl⟩,rfl⟩
    have eo:=(N1 _ hk).2 dd hd;have bs:∀x:Str,(x==x)=true:=fun x=>by simp
    cases hr:rdD (0+(i:Int)) t with
    | none=>
     rw[hr,xK] at ed ef;refine⟨[some (.v (.lst (ns.map .int))),some (.v (.int c)),some (.v (.lst [.str (sO ta),.str (sO tb),.str (sO tc),.str (sO td)])),some (.v (.int (q/7))),some (.v (.int (0+(i:Int)))),some (.v (.str (sO t))),some (.v (.int T)),x7.map .v,x8.map .v,some (.v .non),some (.v (.str (Str.ofString "refused"))),some (.v (.int (q%7))),some (.v dd)],?_,q/7,some (.int (0+(i:Int))),some (.str (sO t)),some (.int T),x7,x8,some .non,some (.str (Str.ofString "refused")),some (.int (q%7)),some dd,rfl⟩
     repeat(first|walk_at "z r" | simp only[ed,ef,d7,aD,eo,bs])
    | some d=>
     obtain⟨xs,rfl,dq,ld⟩:=b4B hk hr;rw[hr,getD_some] at ed ef;refine⟨[some (.v (.lst (ns.map .int))),some (.v (.int c)),some (.v (.lst [.str (sO ta),.str (sO tb),.str (sO tc),.str (sO td)])),some (.v (.int (q/7))),some (.v (.int (0+(i:Int)))),some (.v (.str (sO t))),some (.v (.int T)),x7.map .v,x8.map .v,some (.v (.tup xs)),some (.v (.tup xs)),some (.v (.int (q%7))),some (.v dd)],?_,q/7,some (.int (0+(i:Int))),some (.str (sO t)),some (.int T),x7,x8,some (.tup xs),some (.tup xs),some (.int (q%7)),some dd,rfl⟩
     repeat(first|walk_at "z r" | simp only[ed,ef,d7,aD,eo,bs,ld,dq])
  ·rintro ρ' rfl ⟨q,x4,x5,x6,x7,x8,x9,x10,x11,x12,rfl⟩;exact⟨_,rfl,some (.int c),some (.lst [.str (sO ta),.str (sO tb),.str (sO tc),.str (sO td)]),some (.int q),x4,x5,x6,x7,x8,x9,x10,x11,x12,rfl⟩
 ·rintro _ rfl ⟨x1,x2,x3,x4,x5,x6,x7,x8,x9,x10,x11,x12,rfl⟩;walk_at "q"
end
end Q79
namespace Q79
open PySem PySem.Spec PyProof.Rows L2 Z
structure DI (K:PySem.W.Frag) (x:Str) (st:Stmt) (f:Addr) (fd:FuncData):Prop where
 a:PySem.W.nsIn K mainGlobals x=some (some (.ref f))
 F:Fun K x x st f fd
theorem DI.mk2 {K:PySem.W.Frag}{x:Str}{st:Stmt}{f:Addr}{od an:Option Addr}{sl:Array (Option Value)}{oc kV dc pm cd ct:Value}(a:PySem.W.nsIn K mainGlobals x=some (some (.ref f)))(l:K.lookup f=some ⟨oc,od,.func (PySem.W.fnOf x x (defArgs st) (defBody st) (defScope st) .none kV dc pm an cd ct),sl⟩)(c:PySem.W.codeIn K cd x=true)(k:PySem.W.keepIn K (.ref f)=true):DI K x st f (PySem.W.fnOf x x (defArgs st) (defBody st) (defScope st) .none kV dc pm an cd ct):=⟨a,a9U l c k⟩
section
variable {P:Program}{w:World}{K:PySem.W.Frag}{mg:Str->Option Value}{base:Heap}{x:Str}{j k:Nat}
theorem _root_.Z.FnS.up {sp:Sp}(F:FnS P w K mg base x j sp)(h:j<=k:=by decide):FnS P w K mg base x k sp:=F.mono h
theorem _root_.Z.FnR.up {g:List D->Option Addr}(F:FnR P w K mg base x j g)(h:j<=k:=by decide):FnR P w K mg base x k g:=F.mono h
end
theorem b3P {l:PySem.W.OpenLaw}{w:World}{K:PySem.W.Frag}{h:Heap}{mg:Str->Option Value}{fa f1 f2 f3 f4 f5 f6 f7 f8 f9 f10 f11 f12 f13 f14 f15 f16 f17 f18 f19 f20 f21 f22 f23 f24 f25 f26 f27 f28 f29 f30 f31 f32 f33 f34 f35 f36 f37 f38 f39 f40:Addr}{d1 d2 d3 d4 d5 d6 d7 d8 d9 d10 d11 d12 d13 d14 d15 d16 d17 d18 d19 d20 d21 d22 d23 d24 d25 d26 d27 d28 d29 d30 d31 d32 d33 d34 d35 d36 d37 d38 d39:FuncData}(X:K.In h)(G:h.Ns mainGlobals mg)(hfa:mg "law"=some (.ref fa))
  {od an:Option Addr} {sl:Array (Option Value)} {oc kV dc pm cd ct:Value}
  (i1:DI K "_law_common" X4 f1 d1) (i2:DI K "_law_some_ratio" O9 f2 d2) (i3:DI K "_law_rising" Y2 f3 d3) (i4:DI K "_law_ratio_word" N7 f4 d4) (i5:DI K "_law_texts" a0k f5 d5) (i6:DI K "_law_cell" a0X f6 d6) (i7:DI K "_law_deal" a05 f7 d7) (i8:DI K "_law_number" Y0 f8 d8) (i9:DI K "_law_party" a0t f9 d9) (i10:DI K "_law_read" a1f f10 d10) (i11:DI K "_law_ratio" a0i f11 d11) (i12:DI K "_law_row" a1N f12 d12) (i13:DI K "_law_due" a1K f13 d13) (i14:DI K "must_be_text" N9 f14 d14) (i15:DI K "number_in" a1c f15 d15) (i16:DI K "is_rising" a0z f16 d16) (i17:DI K "is_row" a4g f17 d17) (i18:DI K "is_whole" a1C f18 d18) (i19:DI K "is_people" a0B f19 d19) (i20:DI K "is_person" a0P f20 d20) (i21:DI K "is_triple" a0W f21 d21) (i22:DI K "is_web" a3S f22 d22) (i23:DI K "party_in" a1H f23 d23) (i24:DI K "tie_in" a4d f24 d24) (i25:DI K "web_in" a3R f25 d25) (i26:DI K "must_be_read" N3 f26 d26) (i27:DI K "read_web" Z9 f27 d27) (i28:DI K "common_divisor" Q0 f28 d28) (i29:DI K "is_ratio" a1B f29 d29) (i30:DI K "ratio_in" a1Y f30 d30) (i31:DI K "read_ratio" S8 f31 d31) (i32:DI K "row_words" W4 f32 d32) (i33:DI K "less" a7v f33 d33) (i34:DI K "read_ratios" Q9 f34 d34) (i35:DI K "read_parties" N4 f35 d35) (i36:DI K "_law_read_so" O0 f36 d36) (i37:DI K "_law_refused" T8 f37 d37) (i38:DI K "_law_signs" a0r f38 d38) (i39:DI K "_law_put" a1G f39 d39)
  (a:PySem.W.nsIn K mainGlobals "law"=some (some (.ref f40))) (ll:K.lookup f40=some ⟨oc,od,.func (PySem.W.fnOf "law" "law" (defArgs a2i) (defBody a2i) (defScope a2i) .none kV dc pm an cd ct),sl⟩) (c:PySem.W.codeIn K cd "law"=true) (k:PySem.W.keepIn K (.ref f40)=true)
   {uTwainError uNoText uAlone uBarred uLoose uNoDeed uNoParty uNoPerson uNoRatio uNoRow uNoSides uNoWeb uNothingDone uTwice:Addr}(y1:PySem.W.nsIn K mainGlobals "abs"=some none) (y2:PySem.W.nsIn K mainGlobals "divmod"=some none) (y3:PySem.W.nsIn K mainGlobals "range"=some none) (y4:PySem.W.nsIn K mainGlobals "str"=some none) (y5:PySem.W.nsIn K mainGlobals "int"=some none) (y6:PySem.W.nsIn K mainGlobals "len"=some none) (y7:PySem.W.nsIn K mainGlobals "tuple"=some none) (y8:PySem.W.nsIn K mainGlobals "max"=some none) (y9:PySem.W.nsIn K mainGlobals "all"=some none) (y10:PySem.W.nsIn K mainGlobals "isinstance"=some none) (y11:PySem.W.nsIn K mainGlobals "zip"=some none) (y12:PySem.W.nsIn K mainGlobals "bool"=some none) (y13:PySem.W.nsIn K mainGlobals "any"=some none) (y14:PySem.W.nsIn K mainGlobals "ValueError"=some none) {gt1:Tok} (n1:PySem.W.nsIn K mainGlobals "MOST_FIGURES"=some (some (.int (60) gt1))) {gt2:Tok} (n2:PySem.W.nsIn K mainGlobals "FIGURES"=some (some (.str (Str.ofString "0123456789") gt2))) {gt3:Tok} (n3:PySem.W.nsIn K mainGlobals "MOST_PEOPLE"=some (some (.int (8) gt3))) {gt4:Tok} (n4:PySem.W.nsIn K mainGlobals "MOST_GAIN"=some (some (.int (1000000000000) gt4))) {gt5:Tok} (n5:PySem.W.nsIn K mainGlobals "MOST_THINGS"=some (some (.int (100) gt5))) {gt6:Tok} (n6:PySem.W.nsIn K mainGlobals "NONE"=some (some (.str (Str.ofString ".") gt6))) {ga7:Addr} {gz7:Array (Option Value)} {gn7:Nat} {gt7_0 gt7_1:Tok} (n7:PySem.W.nsIn K mainGlobals "NOUGHT"=some (some (.ref ga7))) (q7:K.lookup ga7=some ⟨.type "tuple",none,.seq #[.int 0 gt7_0,.int 1 gt7_1] gn7,gz7⟩) (x1:PySem.W.nsIn K mainGlobals "TwainError"=some (some (.ref uTwainError))) (x2:PySem.W.nsIn K mainGlobals "NoText"=some (some (.ref uNoText))) (x3:PySem.W.nsIn K mainGlobals "Alone"=some (some (.ref uAlone))) (x4:PySem.W.nsIn K mainGlobals "Barred"=some (some (.ref uBarred))) (x5:PySem.W.nsIn K mainGlobals "Loose"=some (some (.ref uLoose))) (x6:PySem.W.nsIn K mainGlobals "NoDeed"=some (some (.ref uNoDeed))) (x7:PySem.W.nsIn K mainGlobals "NoParty"=some (some (.ref uNoParty))) (x8:PySem.W.nsIn K mainGlobals "NoPerson"=some (some (.ref uNoPerson))) (x9:PySem.W.nsIn K mainGlobals "NoRatio"=some (some (.ref uNoRatio))) (x10:PySem.W.nsIn K mainGlobals "NoRow"=some (some (.ref uNoRow))) (x11:PySem.W.nsIn K mainGlobals "NoSides"=some (some (.ref uNoSides))) (x12:PySem.W.nsIn K mainGlobals "NoWeb"=some (some (.ref uNoWeb))) (x13:PySem.W.nsIn K mainGlobals "NothingDone"=some (some (.ref uNothingDone))) (x14:PySem.W.nsIn K mainGlobals "Twice"=some (some (.ref uTwice))) (x15:PySem.W.excIn K uNoText bmV nwV=true) (x16:PySem.W.kitAny K (.ref uNoText) [.ref uNoRatio,.ref uNoWeb,.ref uTwice,.ref uNoPerson,.ref uNoParty,.ref uAlone,.ref uLoose]=some false) (x17:PySem.W.kitAny K (.ref uNoText) [.ref uBarred,.ref uNoSides,.ref uNoRow,.ref uNothingDone,.ref uNoDeed]=some false) (x18:PySem.W.kitOne K (.ref uNoText) (.ref uNoText)=some true) (x19:PySem.W.kitOne K (.ref uNoText) (.type "ValueError")=some true) (x20:PySem.W.exmOne K (.ref uNoText) (.ref uTwainError)=some true) (x21:PySem.W.mroIn K uNoText (.type "object")=some true) (x22:PySem.W.mroIn K uNoText (.type "BaseException")=some true) (x23:PySem.W.findIn K (.ref uNoText) "__class__"=some (some (.builtin "object.__class__"))) (x24:PySem.W.findIn K (.ref uNoText) "__getattribute__"=some (some (.builtin "BaseException.__getattribute__"))) (x25:PySem.W.findIn K (.ref uNoText) "__getattr__"=some none):
  ∃fd:FuncData,(∀(s:Shared) (v:Value),BindsTo s fd ⟨[v],[]⟩ [("script",v)])/\∀base:Heap,K.In base->base.Ns mainGlobals mg->FnOk l.prog w K mg base CX0 60 fa fd ["script"] (spLaw K):=by
 cases hfa.symm.trans (zE X G a);have m_abs:=qG X G y1;have l5:=qG X G y2;have G5:=qG X G y3;have m_str:=qG X G y4;have m_int:=qG X G y5;have m_len:=qG X G y6;have t8:=qG X G y7;have m_max:=qG X G y8;have m_all:=qG X G y9;have j5:=qG X G y10;have m_zip:=qG X G y11;have a7F:=qG X G y12;have m_any:=qG X G y13;have a0b:=qG X G y14;have U2:a0T mg K:=⟨_,zE X G n1⟩;have a2S:a48 mg K:=⟨_,zE X G n2⟩;have G1:X0 mg K:=⟨_,zE X G n3⟩;have a00:a3f mg K:=⟨_,zE X G n4⟩;have G0:X7 mg K:=⟨_,zE X G n5⟩;have a2J:a7q mg K:=⟨_,zE X G n6⟩;have Z0:a31 mg K:=⟨ga7,zE X G n7,.inr ⟨_,_,_,q7,rfl,rfl,rfl,(show(2:Nat)<=sizeLine by decide),(.cons ⟨_,rfl⟩ (.cons ⟨_,rfl⟩ .nil))⟩⟩
 have a0a:=zE X G x1;have B9:=zE X G x2;have a5P:=zE X G x3;have a32:=zE X G x4;have a5F:=zE X G x5;have a4o:=zE X G x6;have a2M:=zE X G x7;have a10:=zE X G x8;have a2K:=zE X G x9;have a5C:=zE X G x10;have a3a:=zE X G x11;have a6c:=zE X G x12;have W8:=zE X G x13;have a5W:=zE X G x14;have hxc:ExcC K uNoText:=⟨x21,x22,x23,x24,x25⟩;refine⟨PySem.W.fnOf "law" "law" (defArgs a2i) (defBody a2i) (defScope a2i) .none kV dc pm an cd ct,fun s v=>.of_eq rfl,fun base _ _=>?_⟩;obtain⟨D6,G2,D4⟩:=a3Z (P:=l.prog) (w:=w) (base:=base) (k:=0) m_abs i1.F (i1.F.binds (ps:=["one","other"]) fun _ _ _ _ _ _ us hl=>us2 hl fun _ _=>rfl) (zE X G i1.a);obtain⟨N0,G7,G8⟩:=a1Q (P:=l.prog) (w:=w) (base:=base) (k:=1) G2.up D4 l5 i2.F (i2.F.binds (ps:=["number"]) fun _ _ _ _ _ _ us hl=>us1 hl fun _=>rfl) (zE X G i2.a);obtain⟨X6,X9,X2⟩:=a30 (P:=l.prog) (w:=w) (base:=base) (k:=0) G5 m_str l5 i3.F (i3.F.binds (ps:=["number","people"]) fun _ _ _ _ _ _ us hl=>us2 hl fun _ _=>rfl) (zE X G i3.a);obtain⟨N2,G6,I0⟩:=a1W (P:=l.prog) (w:=w) (base:=base) (k:=0) m_str i4.F (i4.F.binds (ps:=["one"]) fun _ _ _ _ _ _ us hl=>us1 hl fun _=>rfl) (zE X G i4.a);obtain⟨a0u,a0p,a0q⟩:=a4T (P:=l.prog) (w:=w) (base:=base) (k:=2) G7.up G8 X9.up X2 G6.up I0 l5 G5 m_int m_str i5.F (i5.F.binds (ps:=["number"]) fun _ _ _ _ _ _ us hl=>us1 hl fun _=>rfl) (zE X G i5.a);obtain⟨a0V,a07,a0Z⟩:=a6d (P:=l.prog) (w:=w) (base:=base) (k:=0) m_len i6.F (i6.F.binds (ps:=["script","k"]) fun _ _ _ _ _ _ us hl=>us2 hl fun _ _=>rfl) (zE X G i6.a);obtain⟨a03,a08,a1d⟩:=a5M (P:=l.prog) (w:=w) (base:=base) (k:=0) G5 i7.F (i7.F.binds (ps:=["cell","salt"]) fun _ _ _ _ _ _ us hl=>us2 hl fun _ _=>rfl) (zE X G i7.a);obtain⟨A7,z3,m8⟩:=a3M (P:=l.prog) (w:=w) (base:=base) (k:=0) m_int m_len i8.F (i8.F.binds (ps:=["word"]) fun _ _ _ _ _ _ us hl=>us1 hl fun _=>rfl) (zE X G i8.a);have F9:=i9.F;have b9:=F9.binds (ps:=["word"]) fun _ _ _ _ _ _ us hl=>us1 hl fun _=>rfl;have m9:=zE X G i9.a;obtain⟨K2,T0,C9⟩:=a4Q (P:=l.prog) (w:=w) (base:=base) (k:=1) z3.up m8 t8 m_len m_max i9.F (i9.F.binds (ps:=["word"]) fun _ _ _ _ _ _ us hl=>us1 hl fun _=>rfl) (zE X G i9.a);obtain⟨a0L,a0Y,a0I⟩:=a5w (P:=l.prog) (w:=w) (base:=base) (k:=2) z3.up m8 T0.up C9 t8 m_len i10.F (i10.F.binds (ps:=["text"]) fun _ _ _ _ _ _ us hl=>us1 hl fun _=>rfl) (zE X G i10.a);have F11:=i11.F;have b11:=F11.binds (ps:=["word"]) fun _ _ _ _ _ _ us hl=>us1 hl fun _=>rfl;have m11:=zE X G i11.a;obtain⟨S3,S4,S7⟩:=a4S (P:=l.prog) (w:=w) (base:=base) (k:=1) z3.up m8 G2.up D4 m_len i11.F (i11.F.binds (ps:=["word"]) fun _ _ _ _ _ _ us hl=>us1 hl fun _=>rfl) (zE X G i11.a);have F12:=i12.F;have b12:=F12.binds (ps:=["words","one"]) fun _ _ _ _ _ _ us hl=>us2 hl fun _ _=>rfl;have m12:=zE X G i12.a;obtain⟨g_row1,h_row1,e_row1⟩:=a3i (P:=l.prog) (w:=w) (base:=base) (k:=2) (a9O (S4.mono (k:=2) (by decide)) m11) t8 m_len F12 b12 m12
 obtain⟨g_row2,h_row2,e_row2⟩:=a3i (P:=l.prog) (w:=w) (base:=base) (k:=2) (a9O (T0.mono (k:=2) (by decide)) m9) t8 m_len F12 b12 m12
 have F13:=i13.F;have b13:=F13.binds (ps:=["kind","text"]) fun _ _ _ _ _ _ us hl=>us2 hl fun _ _=>rfl;have m13:=zE X G i13.a;obtain⟨a1O,a1L,a1V⟩:=a6k (P:=l.prog) (w:=w) (base:=base) (k:=3) (S4.mono (k:=3) (by decide)) S7 C9 (h_row1.mono (k:=3) (by decide)) e_row1 (h_row2.mono (k:=3) (by decide)) e_row2 (a0Y.mono (k:=3) (by decide)) a0I m11 m9 m_all F13 b13 m13
 have F14:=i14.F;have b14:=F14.binds (ps:=["thing"]) fun _ _ _ _ _ _ us hl=>us1 hl fun _=>rfl;have m14:=zE X G i14.a;obtain⟨j8,j6,j7⟩:=a3A (P:=l.prog) (w:=w) (base:=base) (k:=0) j5 m_str i14.F (i14.F.binds (ps:=["thing"]) fun _ _ _ _ _ _ us hl=>us1 hl fun _=>rfl) (zE X G i14.a);obtain⟨v5,z5,m6⟩:=a22 (P:=l.prog) (w:=w) (base:=base) (k:=0) j5 m_str B9 x15 F14 b14 m14;obtain⟨w8,v4,v3⟩:=a5N (P:=l.prog) (w:=w) (base:=base) (k:=0) m_int m_len m_all U2 a2S i15.F (i15.F.binds (ps:=["text"]) fun _ _ _ _ _ _ us hl=>us1 hl fun _=>rfl) (zE X G i15.a);obtain⟨M1,M4,M2⟩:=a55 (P:=l.prog) (w:=w) (base:=base) (k:=0) m_all m_zip i16.F (i16.F.binds (ps:=["row"]) fun _ _ _ _ _ _ us hl=>us1 hl fun _=>rfl) (zE X G i16.a);obtain⟨O8,O5,L4⟩:=a8V (P:=l.prog) (w:=w) (base:=base) (k:=0) j5 t8 m_len i17.F (i17.F.binds (ps:=["thing","count"]) fun _ _ _ _ _ _ us hl=>us2 hl fun _ _=>rfl) (zE X G i17.a);obtain⟨B0,A5,A6⟩:=a6X (P:=l.prog) (w:=w) (base:=base) (k:=0) j5 m_int a7F i18.F (i18.F.binds (ps:=["thing"]) fun _ _ _ _ _ _ us hl=>us1 hl fun _=>rfl) (zE X G i18.a);obtain⟨a0R,a0x,a0K⟩:=a5K (P:=l.prog) (w:=w) (base:=base) (k:=1) A5.up A6 G1 i19.F (i19.F.binds (ps:=["thing"]) fun _ _ _ _ _ _ us hl=>us1 hl fun _=>rfl) (zE X G i19.a);obtain⟨M6,J3,K1⟩:=a5v (P:=l.prog) (w:=w) (base:=base) (k:=1) A5.up A6 i20.F (i20.F.binds (ps:=["people","thing"]) fun _ _ _ _ _ _ us hl=>us2 hl fun _ _=>rfl) (zE X G i20.a);obtain⟨a0G,a0J,a06⟩:=a59 (P:=l.prog) (w:=w) (base:=base) (k:=2) O5.up L4 A5.up A6 J3.up K1 a00 i21.F (i21.F.binds (ps:=["people","thing"]) fun _ _ _ _ _ _ us hl=>us2 hl fun _ _=>rfl) (zE X G i21.a);obtain⟨a4u,a3U,a4y⟩:=a8n (P:=l.prog) (w:=w) (base:=base) (k:=3) M4.up M2 O5.up L4 a0x.up a0K a0J.up a06 m_all j5 t8 i22.F (i22.F.binds (ps:=["thing"]) fun _ _ _ _ _ _ us hl=>us1 hl fun _=>rfl) (zE X G i22.a);obtain⟨F3,F1,F4⟩:=a6O (P:=l.prog) (w:=w) (base:=base) (k:=2) v4.up v3 M4.up M2 J3.up K1 t8 m_len m_all G1 i23.F (i23.F.binds (ps:=["text"]) fun _ _ _ _ _ _ us hl=>us1 hl fun _=>rfl) (zE X G i23.a);obtain⟨a4w,a4s,a4E⟩:=a8N (P:=l.prog) (w:=w) (base:=base) (k:=3) F1.up F4 v4.up v3 m_len i24.F (i24.F.binds (ps:=["text"]) fun _ _ _ _ _ _ us hl=>us1 hl fun _=>rfl) (zE X G i24.a);obtain⟨Z2,Z4,Y6⟩:=a87 (P:=l.prog) (w:=w) (base:=base) (k:=4) v4.up v3 a3U.up a4y a4s.up a4E t8 m_len i25.F (i25.F.binds (ps:=["text"]) fun _ _ _ _ _ _ us hl=>us1 hl fun _=>rfl) (zE X G i25.a);have F26:=i26.F;have b26:=F26.binds (ps:=["thing"]) fun _ _ _ _ _ _ us hl=>us1 hl fun _=>rfl;have m26:=zE X G i26.a;obtain⟨t3,t4,n9⟩:=a3y (P:=l.prog) (w:=w) (base:=base) (k:=0) i26.F (i26.F.binds (ps:=["thing"]) fun _ _ _ _ _ _ us hl=>us1 hl fun _=>rfl) (zE X G i26.a);obtain⟨v7,z4,m7⟩:=a3b (P:=l.prog) (w:=w) (base:=base) (k:=0) B9 x15 F26 b26 m26;have F27:=i27.F;have b27:=F27.binds (ps:=["thing"]) fun _ _ _ _ _ _ us hl=>us1 hl fun _=>rfl;have m27:=zE X G i27.a;obtain⟨P3,U7,U5⟩:=a6T (P:=l.prog) (w:=w) (base:=base) (k:=5) j6.up j7 Z4.up Y6 t4.up n9 i27.F (i27.F.binds (ps:=["thing"]) fun _ _ _ _ _ _ us hl=>us1 hl fun _=>rfl) (zE X G i27.a);obtain⟨a09,a1S,W3⟩:=a56 (P:=l.prog) (w:=w) (base:=base) (k:=5) (j6.mono (k:=5) (by decide)) j7 (z5.mono (k:=5) (by decide)) m6 (Z4.mono (k:=5) (by decide)) Y6 (z4.mono (k:=5) (by decide)) m7 F27 b27 m27
 obtain⟨Q1,P8,Q5⟩:=a2o (P:=l.prog) (w:=w) (base:=base) (k:=0) i28.F (i28.F.binds (ps:=["one","other"]) fun _ _ _ _ _ _ us hl=>us2 hl fun _ _=>rfl) (zE X G i28.a);obtain⟨a1R,a1I,a1A⟩:=a6A (P:=l.prog) (w:=w) (base:=base) (k:=1) O5.up L4 A5.up A6 P8.up Q5 m_abs i29.F (i29.F.binds (ps:=["thing"]) fun _ _ _ _ _ _ us hl=>us1 hl fun _=>rfl) (zE X G i29.a);obtain⟨P9,Q3,P6⟩:=a6C (P:=l.prog) (w:=w) (base:=base) (k:=2) v4.up v3 a1I.up a1A i30.F (i30.F.binds (ps:=["text"]) fun _ _ _ _ _ _ us hl=>us1 hl fun _=>rfl) (zE X G i30.a);have F31:=i31.F;have b31:=F31.binds (ps:=["thing"]) fun _ _ _ _ _ _ us hl=>us1 hl fun _=>rfl;have m31:=zE X G i31.a;obtain⟨v6,t9,u5⟩:=a4J (P:=l.prog) (w:=w) (base:=base) (k:=3) j6.up j7 Q3.up P6 t4.up n9 i31.F (i31.F.binds (ps:=["thing"]) fun _ _ _ _ _ _ us hl=>us1 hl fun _=>rfl) (zE X G i31.a);obtain⟨F6,K3,D8⟩:=a4l (P:=l.prog) (w:=w) (base:=base) (k:=3) (j6.mono (k:=3) (by decide)) j7 (z5.mono (k:=3) (by decide)) m6 (Q3.mono (k:=3) (by decide)) P6 (z4.mono (k:=3) (by decide)) m7 F31 b31 m31
 have F32:=i32.F;have b32:=F32.binds (ps:=["thing"]) fun _ _ _ _ _ _ us hl=>us1 hl fun _=>rfl;have m32:=zE X G i32.a;obtain⟨A2,w5,A1⟩:=a6f (P:=l.prog) (w:=w) (base:=base) (k:=1) j6.up j7 m_len G0 a2J i32.F (i32.F.binds (ps:=["thing"]) fun _ _ _ _ _ _ us hl=>us1 hl fun _=>rfl) (zE X G i32.a);obtain⟨K7,M5,D2⟩:=a4P (P:=l.prog) (w:=w) (base:=base) (k:=1) (j6.mono (k:=1) (by decide)) j7 (z5.mono (k:=1) (by decide)) m6 m_len G0 a2J B9 x15 F32 b32 m32
 obtain⟨a28,a21,a2P⟩:=b1w (P:=l.prog) (w:=w) (base:=base) (k:=0) i33.F (i33.F.binds (ps:=["one","other"]) fun _ _ _ _ _ _ us hl=>us2 hl fun _ _=>rfl) (zE X G i33.a);have F34:=i34.F;have b34:=F34.binds (ps:=["thing"]) fun _ _ _ _ _ _ us hl=>us1 hl fun _=>rfl;have m34:=zE X G i34.a;obtain⟨F8,F5,F7⟩:=a4B (P:=l.prog) (w:=w) (base:=base) (k:=4) t9.up u5 w5.up A1 a21.up a2P m_any t8 Z0 i34.F (i34.F.binds (ps:=["thing"]) fun _ _ _ _ _ _ us hl=>us1 hl fun _=>rfl) (zE X G i34.a);obtain⟨V5,X5,O4⟩:=a3w (P:=l.prog) (w:=w) (base:=base) (k:=4) (w5.mono (k:=4) (by decide)) A1 (M5.mono (k:=4) (by decide)) D2 (t9.mono (k:=4) (by decide)) u5 (K3.mono (k:=4) (by decide)) D8 (a21.mono (k:=4) (by decide)) a2P m_any Z0 B9 x15 F34 b34 m34
 have F35:=i35.F;have b35:=F35.binds (ps:=["thing"]) fun _ _ _ _ _ _ us hl=>us1 hl fun _=>rfl;have m35:=zE X G i35.a;obtain⟨E4,E9,E6⟩:=a3x (P:=l.prog) (w:=w) (base:=base) (k:=3) F1.up F4 t4.up n9 w5.up A1 t8 i35.F (i35.F.binds (ps:=["thing"]) fun _ _ _ _ _ _ us hl=>us1 hl fun _=>rfl) (zE X G i35.a);obtain⟨R8,V6,L9⟩:=a2Z (P:=l.prog) (w:=w) (base:=base) (k:=3) (w5.mono (k:=3) (by decide)) A1 (M5.mono (k:=3) (by decide)) D2 (F1.mono (k:=3) (by decide)) F4 (t4.mono (k:=3) (by decide)) n9 (z4.mono (k:=3) (by decide)) m7 F35 b35 m35
 have F36:=i36.F;have b36:=F36.binds (ps:=["kind","thing"]) fun _ _ _ _ _ _ us hl=>us2 hl fun _ _=>rfl;have m36:=zE X G i36.a;obtain⟨U3,U6,V1⟩:=a3v (P:=l.prog) (w:=w) (base:=base) (k:=6) U7.up U5 t9.up u5 F5.up F7 E9.up E6 i36.F (i36.F.binds (ps:=["kind","thing"]) fun _ _ _ _ _ _ us hl=>us2 hl fun _ _=>rfl) (zE X G i36.a);obtain⟨a9l,U4,R6⟩:=a2N (P:=l.prog) (w:=w) (base:=base) (k:=6) (t9.mono (k:=6) (by decide)) u5 (K3.mono (k:=6) (by decide)) D8 (F5.mono (k:=6) (by decide)) F7 (X5.mono (k:=6) (by decide)) O4 (E9.mono (k:=6) (by decide)) E6 (V6.mono (k:=6) (by decide)) L9 (U7.mono (k:=6) (by decide)) U5 (a1S.mono (k:=6) (by decide)) W3 F36 b36 m36
 have F37:=i37.F;have b37:=F37.binds (ps:=["kind","thing"]) fun _ _ _ _ _ _ us hl=>us2 hl fun _ _=>rfl;have m37:=zE X G i37.a;obtain⟨V2,O6,N1⟩:=a3z (P:=l.prog) (w:=w) (base:=base) (k:=7) (U6.mono (k:=7) (by decide)) V1 (U4.mono (k:=7) (by decide)) R6 j5 a0b a0a B9 a5P a32 a5F a4o a2M a10 a2K a5C a3a a6c W8 a5W x16 x17 x18 x19 x20 hxc F37 b37 m37
 obtain⟨a0n,a0g,Z6⟩:=a4L (P:=l.prog) (w:=w) (base:=base) (k:=0) i38.F (i38.F.binds (ps:=[]) fun _ _ _ _ _ _ us hl=>by cases us with|nil=>rfl|cons _ _=>cases hl) (zE X G i38.a)
 obtain⟨a1X,a1U,a1M⟩:=a6w (P:=l.prog) (w:=w) (base:=base) (k:=1) a0g.up Z6 l5 m_len i39.F (i39.F.binds (ps:=["text","number"]) fun _ _ _ _ _ _ us hl=>us2 hl fun _ _=>rfl) (zE X G i39.a);exact b3A (P:=l.prog) (w:=w) (base:=base) (k:=59) a0p.up a0q a07.up a0Z a08.up a1d a1L.up a1V O6.up N1 a1U.up a1M G5 l5 (a9U (st:=a2i) ll c k)
end Q79
open PySem PySem.W PyProof.Rows
namespace PySem.W.Fast
def tw14191563741024880265:=()
def tw9854081846946988725:=()
def tw971566695494354813:=()
def tw17475863615928446460:=()
def tw1114870631565896014:=()
def tw4188677094692384897:=()
def tw4678808634387677306:=()
def tw13527083491504020894:=()
def tw46021927473250710:=()
def tw17392920123591492891:=()
def tw10914910598989069487:=()
def tw9616623275635295038:=()
def tw5008731177744812044:=()
def tw14372946707941738358:=()
def tw5767328338369695711:=()
def tw1957673906461986159:=()
def tw9429855236840486054:=()
def tw17342760955722398040:=()
def tw14276893214002721644:=()
def tw11801884710652558413:=()
def tw14690417416404528306:=()
def tw9742462633343507898:=()
def tw2326428661091039490:=()
def tw4401631110164493568:=()
def tw4767502904418638448:=()
def tw1500880483723286649:=()
def tw15879048605672014823:=()
def tw16865301034868878116:=()
def tw15623284840789562903:=()
def tw8431706165415693144:=()
def tw13764826358833941991:=()
def tw15785064659772014739:=()
def tw3604093957390814956:=()
def tw14214358704746637164:=()
def tw181824172915150028:=()
def tw11058358793911960230:=()
def tw10060320938195352776:=()
def tw5337605306082229975:=()
def tw13102510505961873714:=()
def tw5595113672192538404:=()
def tw9986437469306164802:=()
def tw5813538169574887904:=()
def tw17078446144634414732:=()
def tw5863266638394994247:=()
def tw7769835053216144258:=()
def tw8295893589037576055:=()
def tw8828353470238098222:=()
def tw13373615122264606418:=()
def tw3882784403279158836:=()
def tw13182197967570420129:=()
def tw13129825134893930680:=()
def tw1761892802757125244:=()
def tw13248139104802939155:=()
def tw14529510614340174434:=()
def tw14952161105724111293:=()
def tw6564185944734496474:=()
def tw11037738573019005053:=()
def tw5488493206396699638:=()
def tw81202788640205701:=()
def tw2903476541383271395:=()
def tw18260773422508266760:=()
def tw7784604338875082617:=()
def tw6901051721456957118:=()
def tw16900611972880900062:=()
def tw2018214197098499166:=()
def tw6569722394852245169:=()
def tw12926108077427183997:=()
def tw5958723848967809592:=()
def tw18399398169529776441:=()
def tw9994374000048300673:=()
def tw14177570603904029946:=()
def tw2693700265150046391:=()
def tw9897448572153168995:=()
def tw13080901010288060653:=()
def tw11629823192808302958:=()
def tw16286405147904886951:=()
def tw16677806190086853897:=()
def tw15888879751384530952:=()
def tw2286118829895198784:=()
def tw14700151292863284329:=()
def tw5017160323383363204:=()
def tw12359150894077468163:=()
def tw11458818108970719675:=()
def tw10005118363353795310:=()
def tw18352620969452024055:=()
def tw8716322169063996577:=()
def tw14580372852222517367:=()
def tw1121107392905005781:=()
def tw8960092057744442680:=()
def tw3268010987676987961:=()
def tw9956599438127840049:=()
def tw10723264862088696440:=()
def tw4305880902715019839:=()
def tw5894575496369330577:=()
def tw6026872915573614077:=()
def tw17705347074210519675:=()
def tw14048428591617374505:=()
def tw8964986695473625068:=()
def tw7436701277321196836:=()
def tw9686859512681806487:=()
def tw12909009660035924703:=()
def tw17011644756898514450:=()
def tw17118227750086878832:=()
def tw1482698830818763569:=()
def tw9960459737093290300:=()
def tw17476563710712308950:=()
def tw17133685101796097550:=()
def tw9377527395465397649:=()
def tw12262544456636078438:=()
def tw8482957683059931695:=()
end PySem.W.Fast
set_option maxRecDepth 100000 in
set_option maxHeartbeats 0 in
theorem PySem.Challenge.cw_twainhoard_k79_texts_refused_holds : PySem.Challenge.rw_twainhoard_k79_texts_refused.Holds := by
 w_on;o_law;k_head;(case hw=>w_witness2)
 k_fill
 refine Z.walk (l:=PySem.Challenge.rw_twainhoard_k79_texts_refused) rfl rfl (fun w h Y=>PySem.W.kIn_of Y) ?F
 case F=>
  intro w mg fa h KX G hmg
  refine' Q79.b3P KX G hmg (Q79.DI.mk2 ?_ ?_ ?_ ?_) (Q79.DI.mk2 ?_ ?_ ?_ ?_) (Q79.DI.mk2 ?_ ?_ ?_ ?_) (Q79.DI.mk2 ?_ ?_ ?_ ?_) (Q79.DI.mk2 ?_ ?_ ?_ ?_) (Q79.DI.mk2 ?_ ?_ ?_ ?_) (Q79.DI.mk2 ?_ ?_ ?_ ?_) (Q79.DI.mk2 ?_ ?_ ?_ ?_) (Q79.DI.mk2 ?_ ?_ ?_ ?_) (Q79.DI.mk2 ?_ ?_ ?_ ?_) (Q79.DI.mk2 ?_ ?_ ?_ ?_) (Q79.DI.mk2 ?_ ?_ ?_ ?_) (Q79.DI.mk2 ?_ ?_ ?_ ?_) (Q79.DI.mk2 ?_ ?_ ?_ ?_) (Q79.DI.mk2 ?_ ?_ ?_ ?_) (Q79.DI.mk2 ?_ ?_ ?_ ?_) (Q79.DI.mk2 ?_ ?_ ?_ ?_) (Q79.DI.mk2 ?_ ?_ ?_ ?_) (Q79.DI.mk2 ?_ ?_ ?_ ?_) (Q79.DI.mk2 ?_ ?_ ?_ ?_) (Q79.DI.mk2 ?_ ?_ ?_ ?_) (Q79.DI.mk2 ?_ ?_ ?_ ?_) (Q79.DI.mk2 ?_ ?_ ?_ ?_) (Q79.DI.mk2 ?_ ?_ ?_ ?_) (Q79.DI.mk2 ?_ ?_ ?_ ?_) (Q79.DI.mk2 ?_ ?_ ?_ ?_) (Q79.DI.mk2 ?_ ?_ ?_ ?_) (Q79.DI.mk2 ?_ ?_ ?_ ?_) (Q79.DI.mk2 ?_ ?_ ?_ ?_) (Q79.DI.mk2 ?_ ?_ ?_ ?_) (Q79.DI.mk2 ?_ ?_ ?_ ?_) (Q79.DI.mk2 ?_ ?_ ?_ ?_) (Q79.DI.mk2 ?_ ?_ ?_ ?_) (Q79.DI.mk2 ?_ ?_ ?_ ?_) (Q79.DI.mk2 ?_ ?_ ?_ ?_) (Q79.DI.mk2 ?_ ?_ ?_ ?_) (Q79.DI.mk2 ?_ ?_ ?_ ?_) (Q79.DI.mk2 ?_ ?_ ?_ ?_) (Q79.DI.mk2 ?_ ?_ ?_ ?_) ?_ ?_ ?_ ?_ ?_ ?_ ?_ ?_ ?_ ?_ ?_ ?_ ?_ ?_ ?_ ?_ ?_ ?_ ?_ ?_ ?_ ?_ ?_ ?_ ?_ ?_ ?_ ?_ ?_ ?_ ?_ ?_ ?_ ?_ ?_ ?_ ?_ ?_ ?_ ?_ ?_ ?_ ?_ ?_ ?_ ?_ ?_ ?_ ?_ ?_ ?_
  all_goals try k_is
  all_goals first | k_exc | kit_is | kts_exm
